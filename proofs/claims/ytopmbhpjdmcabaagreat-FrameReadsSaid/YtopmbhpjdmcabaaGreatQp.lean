/- Values and rows: what is written is read as it was (plain lemmas). Conditions: as each theorem says. -/
import Derived.Test.YtopmbhpjdmcabaaGreatQv
namespace Go.Proofs.YtopmbhpjdmcabaaGreat
open Go.RowKit
namespace Cod
theorem sig_back (n : Int) (h0 : -9223372036854775808 ≤ n) (h1 : n ≤ 9223372036854775807) (t : List UInt8) : sig (iB n ++ t) = .ok (n, t) := by
  unfold sig iB; rw [read_uB _ _ (zig_lt h0 h1)]; simp only [sigR, zag_zig]
theorem sig_cut (n : Int) (h0 : -9223372036854775808 ≤ n) (h1 : n ≤ 9223372036854775807) (j : Nat) (hj : j < (iB n).length) : sig ((iB n).take j) = .error 8 := by
  unfold sig iB; rw [num_cut _ 0 0 j (by omega) (by simpa using zig_lt h0 h1) (by omega) hj]; rfl
theorem sig_ok {l t : List UInt8} {n : Int} (h : sig l = .ok (n, t)) : l = iB n ++ t ∧ -9223372036854775808 ≤ n ∧ n ≤ 9223372036854775807 := by
  unfold sig sigR at h
  split at h
  · rename_i m u hm
    simp only [Except.ok.injEq, Prod.mk.injEq] at h
    obtain ⟨rfl, rfl⟩ := h
    have := read_ok hm
    refine ⟨?_, zag_in this.2⟩
    unfold iB; rw [zig_zag]; exact this.1
  · cases h
theorem len_back (most n : Nat) (hn : n ≤ most) (hm : most < 18446744073709551616) (t : List UInt8) : len most (uB n ++ t) = .ok (n, t) := by
  unfold len; rw [read_uB _ _ (by omega)]; simp only [lenR]; rw [if_neg (by omega)]
theorem len_cut (most n : Nat) (hn : n < 18446744073709551616) (j : Nat) (hj : j < (uB n).length) : len most ((uB n).take j) = .error 8 := by
  unfold len; rw [num_cut _ 0 0 j (by omega) (by simpa using hn) (by omega) hj]; rfl
theorem txt_back (most : Nat) (s : List UInt8) (hs : s.length ≤ most) (hm : most < 18446744073709551616) (t : List UInt8) : txt most (tB s ++ t) = .ok (s, t) := by
  unfold txt tB; rw [List.append_assoc, len_back most _ hs hm]
  simp only [txtR]
  rw [if_neg (by simp), List.take_left, List.drop_left]
theorem txt_cut (most : Nat) (s : List UInt8) (hs : s.length ≤ most) (hm : most < 18446744073709551616) (j : Nat) (hj : j < (tB s).length) : txt most ((tB s).take j) = .error 8 := by
  unfold txt tB
  unfold tB at hj
  rw [List.length_append] at hj
  rcases Nat.lt_or_ge j (uB s.length).length with h | h
  · rw [List.take_append_of_le_length (by omega), len_cut most _ (by omega) j h]; rfl
  · rw [List.take_append, List.take_of_length_le h, len_back most _ hs hm]
    simp only [txtR]
    rw [if_pos (by rw [List.length_take]; omega)]
theorem txt_ok {most : Nat} {l t s : List UInt8} (h : txt most l = .ok (s, t)) : l = tB s ++ t ∧ s.length ≤ most := by
  unfold txt txtR at h
  split at h
  · rename_i n u hn
    have h2 := len_ok hn
    have h3 := read_ok h2.1
    split at h
    · cases h
    · rename_i hlt
      simp only [Except.ok.injEq, Prod.mk.injEq] at h
      obtain ⟨rfl, rfl⟩ := h
      have e : (u.take n).length = n := by rw [List.length_take]; omega
      refine ⟨?_, by rw [e]; exact h2.2⟩
      unfold tB
      rw [e, List.append_assoc, List.take_append_drop]; exact h3.1
  · cases h
/-! eight bytes -/
theorem oct_app : ∀ (l : List UInt8) (n : Nat) (t : List UInt8), oct l.length n (l ++ t) = .ok (l.foldl (fun a c => a * 256 + c.toNat) n, t)
  | [], n, t => rfl
  | c :: l, n, t => by simp only [List.length_cons, List.cons_append, oct, List.foldl_cons]; exact oct_app l _ t
theorem oct_cut : ∀ (l : List UInt8) (i n : Nat), l.length < i → oct i n l = .error 8
  | [], i, n, h => by cases i with | zero => cases h | succ i => rfl
  | c :: l, i, n, h => by cases i with | zero => cases h | succ i => simp only [oct]; exact oct_cut l i _ (by simpa using h)
theorem oct_ok : ∀ (i n : Nat) (l t : List UInt8) (m : Nat), oct i n l = .ok (m, t) → ∃ p, l = p ++ t ∧ p.length = i ∧ m = p.foldl (fun a c => a * 256 + c.toNat) n
  | 0, n, l, t, m, h => by simp only [oct, Except.ok.injEq, Prod.mk.injEq] at h; exact ⟨[], by rw [h.2]; rfl, rfl, h.1.symm⟩
  | i + 1, n, [], t, m, h => by cases h
  | i + 1, n, c :: l, t, m, h => by obtain ⟨p, h1, h2, h3⟩ := oct_ok i _ l t m h; exact ⟨c :: p, by rw [h1]; rfl, by rw [List.length_cons, h2], h3⟩
theorem eB_list (n : Nat) : eB n = [(n / 72057594037927936).toUInt8, (n / 281474976710656).toUInt8, (n / 1099511627776).toUInt8, (n / 4294967296).toUInt8, (n / 16777216).toUInt8, (n / 65536).toUInt8, (n / 256).toUInt8, (n / 1).toUInt8] := rfl
theorem fold_eB (n : Nat) (hn : n < 18446744073709551616) : (eB n).foldl (fun a c => a * 256 + c.toNat) 0 = n := by
  rw [eB_list]
  simp only [List.foldl_cons, List.foldl_nil]
  have e : ∀ m : Nat, m.toUInt8.toNat = m % 256 := fun _ => rfl
  simp only [e]
  omega
theorem eB_fold (a b c d e f g h : UInt8) : eB ([a, b, c, d, e, f, g, h].foldl (fun a c => a * 256 + c.toNat) 0) = [a, b, c, d, e, f, g, h] := by
  have ha := a.toNat_lt
  have hb := b.toNat_lt
  have hc := c.toNat_lt
  have hd := d.toNat_lt
  have he := e.toNat_lt
  have hf := f.toNat_lt
  have hg := g.toNat_lt
  have hh := h.toNat_lt
  rw [eB_list]
  simp only [List.foldl_cons, List.foldl_nil]
  have q : ∀ (m : Nat) (x : UInt8), m % 256 = x.toNat → m.toUInt8 = x := fun m x hm => UInt8.toNat_inj.1 (show m % 256 = _ from hm)
  rw [q _ a, q _ b, q _ c, q _ d, q _ e, q _ f, q _ g, q _ h] <;> omega
theorem oct_back (n : Nat) (hn : n < 18446744073709551616) (t : List UInt8) : oct 8 0 (eB n ++ t) = .ok (n, t) := by
  have := oct_app (eB n) 0 t
  rw [show (eB n).length = 8 from eTo_len _ _, fold_eB n hn] at this
  exact this
theorem oct8_ok {l t : List UInt8} {m : Nat} (h : oct 8 0 l = .ok (m, t)) : l = eB m ++ t ∧ m < 18446744073709551616 := by
  obtain ⟨p, rfl, h2, h3⟩ := oct_ok 8 0 l t m h
  match p, h2, h3 with
  | [a, b, c, d, e, f, g, i], _, h3 =>
    refine ⟨by rw [h3, eB_fold], ?_⟩
    have ha := a.toNat_lt
    have hb := b.toNat_lt
    have hc := c.toNat_lt
    have hd := d.toNat_lt
    have he := e.toNat_lt
    have hf := f.toNat_lt
    have hg := g.toNat_lt
    have hh := i.toNat_lt
    simp only [List.foldl_cons, List.foldl_nil] at h3
    omega
/-! values -/
theorem right_form {v : V} (h : v.right = true) : v = ⟨0, 0, 0, []⟩ ∨ (∃ n, v = ⟨1, n, 0, []⟩ ∧ (n = 0 ∨ n = 1)) ∨ (∃ n, v = ⟨2, n, 0, []⟩) ∨ (∃ b, v = ⟨3, 0, b, []⟩) ∨ (∃ s, v = ⟨4, 0, 0, s⟩ ∧ s.length ≤ 4096) ∨ (∃ s, v = ⟨5, 0, 0, s⟩ ∧ s.length ≤ 4096) := by
  obtain ⟨k, n, b, s⟩ := v
  obtain ⟨hk, hn, hs⟩ := right_kind h
  rw [show V.right ⟨k, n, b, s⟩ = Val.rightB k n b (S s) from rfl] at h
  unfold Val.rightB Val.eqV at h
  simp only at hk hn hs h
  simp only [ByteArray.toList_eq] at h
  rcases hk with rfl | rfl | rfl | rfl | rfl | rfl
  · simp at h; obtain ⟨h1, h2, h3⟩ := h; left; subst h1 h2; simp; exact h3
  · simp at h; obtain ⟨⟨h2, h3⟩, h4⟩ := h; right; left; exact ⟨n, by simp [h2, h3], hn rfl⟩
  · simp at h; obtain ⟨h2, h3⟩ := h; right; right; left; exact ⟨n, by simp [h2, h3]⟩
  · simp at h; right; right; right; left; exact ⟨b, by simp [h]⟩
  · simp at h; right; right; right; right; left; exact ⟨s, by simp [h], hs (Or.inl rfl)⟩
  · simp at h; right; right; right; right; right; exact ⟨s, by simp [h], hs (Or.inr rfl)⟩
end Cod
namespace Cod
theorem wf_mk {k n : Int} {b : Nat} {s : List UInt8} (k0 : -9223372036854775808 ≤ k) (k1 : k ≤ 9223372036854775807) (n0 : -9223372036854775808 ≤ n) (n1 : n ≤ 9223372036854775807) (hb : b < 18446744073709551616) (hs : s.length ≤ 281474976710656) : V.wf ⟨k, n, b, s⟩ := ⟨k0, k1, n0, n1, hb, hs⟩
theorem body2 (l : List UInt8) : body 2 l = toV (fun n => ⟨2, n, 0, []⟩) (sig l) := rfl
theorem body3 (l : List UInt8) : body 3 l = toV (fun b => ⟨3, 0, b, []⟩) (oct 8 0 l) := rfl
theorem body4 (l : List UInt8) : body 4 l = toV (fun t => ⟨4, 0, 0, t⟩) (txt 4096 l) := rfl
theorem body5 (l : List UInt8) : body 5 l = toV (fun t => ⟨5, 0, 0, t⟩) (txt 4096 l) := rfl
theorem chk_of {v : V} (h : v.right = true) (t : List UInt8) : chk (.ok (v, t)) = .ok (v, t) := by simp only [chk]; rw [if_pos h]
theorem val_cons (c : UInt8) (l : List UInt8) : val (c :: l) = chk (body c.toNat l) := rfl
theorem bytes_of {v : V} (h : v.right = true) : v.bytes = v.k.toNat.toUInt8 :: v.rest := by unfold V.bytes; rw [if_pos h]
theorem val_back (v : V) (hr : v.right = true) (hw : v.wf) (t : List UInt8) : val (v.bytes ++ t) = .ok (v, t) := by
  rw [bytes_of hr, List.cons_append, val_cons]
  rcases right_form hr with rfl | ⟨n, rfl, hn⟩ | ⟨n, rfl⟩ | ⟨b, rfl⟩ | ⟨s, rfl, hs⟩ | ⟨s, rfl, hs⟩
  · exact chk_of hr t
  · have e : body 1 ([n.toNat.toUInt8] ++ t) = .ok (⟨1, n, 0, []⟩, t) := by
      rcases hn with rfl | rfl <;> rfl
    exact (congrArg chk e).trans (chk_of hr t)
  · have e : body 2 (iB n ++ t) = .ok (⟨2, n, 0, []⟩, t) := by
      rw [body2]
      rw [sig_back n hw.n0 hw.n1]; rfl
    exact (congrArg chk e).trans (chk_of hr t)
  · have e : body 3 (eB b ++ t) = .ok (⟨3, 0, b, []⟩, t) := by
      rw [body3]
      rw [oct_back b hw.b]; rfl
    exact (congrArg chk e).trans (chk_of hr t)
  · have e : body 4 (tB s ++ t) = .ok (⟨4, 0, 0, s⟩, t) := by
      rw [body4]
      rw [txt_back 4096 s hs (by omega)]; rfl
    exact (congrArg chk e).trans (chk_of hr t)
  · have e : body 5 (tB s ++ t) = .ok (⟨5, 0, 0, s⟩, t) := by
      rw [body5]
      rw [txt_back 4096 s hs (by omega)]; rfl
    exact (congrArg chk e).trans (chk_of hr t)
theorem val_cut (v : V) (hr : v.right = true) (hw : v.wf) (j : Nat) (hj : j < v.bytes.length) : val (v.bytes.take j) = .error 8 := by
  rw [bytes_of hr] at hj ⊢
  cases j with
  | zero => rfl
  | succ j =>
    rw [List.take_succ_cons, val_cons]
    rw [List.length_cons] at hj
    have hj' : j < v.rest.length := by omega
    rcases right_form hr with rfl | ⟨n, rfl, hn⟩ | ⟨n, rfl⟩ | ⟨b, rfl⟩ | ⟨s, rfl, hs⟩ | ⟨s, rfl, hs⟩
    · exact absurd hj' (by show ¬ j < 0; omega)
    · obtain rfl : j = 0 := by have : j < 1 := hj'; omega
      rfl
    · have e : body 2 ((iB n).take j) = .error 8 := by
        rw [body2]
        rw [sig_cut n hw.n0 hw.n1 j hj']; rfl
      exact congrArg chk e
    · have e : body 3 ((eB b).take j) = .error 8 := by
        rw [body3]
        have h8 : j < 8 := by have : (eB b).length = 8 := eTo_len _ _; rw [← this]; exact hj'
        rw [oct_cut _ 8 0 (by rw [List.length_take]; omega)]; rfl
      exact congrArg chk e
    · have e : body 4 ((tB s).take j) = .error 8 := by
        rw [body4]
        rw [txt_cut 4096 s hs (by omega) j hj']; rfl
      exact congrArg chk e
    · have e : body 5 ((tB s).take j) = .error 8 := by
        rw [body5]
        rw [txt_cut 4096 s hs (by omega) j hj']; rfl
      exact congrArg chk e
theorem u8_of {c : UInt8} {k : Nat} (h : c.toNat = k) : c = k.toUInt8 := UInt8.toNat_inj.1 (by have := c.toNat_lt; show c.toNat = k % 256; omega)
theorem val_ok {l t : List UInt8} {v : V} (h : val l = .ok (v, t)) : l = v.bytes ++ t ∧ v.right = true ∧ v.wf := by
  cases l with
  | nil => cases h
  | cons c l =>
    rw [val_cons] at h
    obtain ⟨hb, hr⟩ := chk_ok h
    rw [bytes_of hr]
    unfold body at hb
    split at hb
    · rename_i hk
      obtain ⟨d, hd, rfl⟩ := toV_ok hb
      cases l with
      | nil => cases hd
      | cons a l =>
        simp only [one, Except.ok.injEq, Prod.mk.injEq] at hd
        obtain ⟨rfl, rfl⟩ := hd
        have hdl := a.toNat_lt
        refine ⟨?_, hr, wf_mk (by omega) (by omega) (by omega) (by omega) (by omega) (by simp)⟩
        rw [u8_of hk]
        show _ = (1 : UInt8) :: ([((a.toNat : Int).toNat).toUInt8] ++ l)
        have : ((a.toNat : Int).toNat).toUInt8 = a := by simp
        rw [this]; rfl
    split at hb
    · rename_i hk
      obtain ⟨n, hn, rfl⟩ := toV_ok hb
      obtain ⟨h1, h2, h3⟩ := sig_ok hn
      refine ⟨?_, hr, wf_mk (by omega) (by omega) h2 h3 (by omega) (by simp)⟩
      rw [u8_of hk, h1]; rfl
    split at hb
    · rename_i hk
      obtain ⟨n, hn, rfl⟩ := toV_ok hb
      obtain ⟨h1, h2⟩ := oct8_ok hn
      refine ⟨?_, hr, wf_mk (by omega) (by omega) (by omega) (by omega) h2 (by simp)⟩
      rw [u8_of hk, h1]; rfl
    split at hb
    · rename_i hk
      obtain ⟨s, hs, rfl⟩ := toV_ok hb
      obtain ⟨h1, h2⟩ := txt_ok hs
      rcases hk with hk | hk
      · refine ⟨?_, hr, wf_mk (by omega) (by omega) (by omega) (by omega) (by omega) (by omega)⟩
        rw [hk, u8_of hk, h1]; rfl
      · refine ⟨?_, hr, wf_mk (by omega) (by omega) (by omega) (by omega) (by omega) (by omega)⟩
        rw [hk, u8_of hk, h1]; rfl
    · rename_i k1 k2 k3 k4
      simp only [Except.ok.injEq, Prod.mk.injEq] at hb
      obtain ⟨rfl, rfl⟩ := hb
      have hk := (right_kind hr).1
      simp only at hk
      have h0 : c.toNat = 0 := by omega
      refine ⟨?_, hr, wf_mk (by omega) (by omega) (by omega) (by omega) (by omega) (by simp)⟩
      rw [u8_of h0]; rfl
theorem bytes_pos {v : V} (h : v.right = true) : 0 < v.bytes.length := by rw [bytes_of h]; simp
/-! rows -/
theorem vls_back : ∀ (vs acc : List V) (t : List UInt8), (∀ v ∈ vs, v.right = true ∧ v.wf) → vls vs.length acc (vs.flatMap V.bytes ++ t) = .ok (acc ++ vs, t)
  | [], acc, t, _ => by simp [vls]
  | v :: vs, acc, t, h => by
    have hv := h v (by simp)
    simp only [List.length_cons, List.flatMap_cons, List.append_assoc, vls]
    rw [val_back v hv.1 hv.2]
    simp only
    rw [vls_back vs _ t (fun x hx => h x (by simp [hx]))]
    simp
theorem vls_cut : ∀ (vs acc : List V) (j : Nat), (∀ v ∈ vs, v.right = true ∧ v.wf) → j < (vs.flatMap V.bytes).length → vls vs.length acc ((vs.flatMap V.bytes).take j) = .error 8
  | [], acc, j, _, hj => by simp at hj
  | v :: vs, acc, j, h, hj => by
    have hv := h v (by simp)
    simp only [List.length_cons, List.flatMap_cons, vls]
    rw [List.flatMap_cons, List.length_append] at hj
    rcases Nat.lt_or_ge j v.bytes.length with h1 | h1
    · rw [List.take_append_of_le_length (by omega), val_cut v hv.1 hv.2 j h1]
    · rw [List.take_append, List.take_of_length_le h1, val_back v hv.1 hv.2]
      simp only
      exact vls_cut vs _ _ (fun x hx => h x (by simp [hx])) (by omega)
theorem vls_ok : ∀ (n : Nat) (acc r : List V) (l t : List UInt8), vls n acc l = .ok (r, t) → ∃ vs, r = acc ++ vs ∧ vs.length = n ∧ l = vs.flatMap V.bytes ++ t ∧ ∀ v ∈ vs, v.right = true ∧ v.wf
  | 0, acc, r, l, t, h => by simp only [vls, Except.ok.injEq, Prod.mk.injEq] at h; exact ⟨[], by rw [h.1]; simp, rfl, by rw [h.2]; rfl, by simp⟩
  | n + 1, acc, r, l, t, h => by
    simp only [vls] at h
    split at h
    · rename_i v u hv
      obtain ⟨vs, h1, h2, h3, h4⟩ := vls_ok n _ _ _ _ h
      obtain ⟨g1, g2, g3⟩ := val_ok hv
      refine ⟨v :: vs, by rw [h1]; simp, by rw [List.length_cons, h2], by rw [g1, h3, List.flatMap_cons, List.append_assoc], ?_⟩
      intro x hx
      rcases List.mem_cons.1 hx with rfl | hx
      · exact ⟨g2, g3⟩
      · exact h4 x hx
    · cases h
theorem rB_of {vs : List V} (h : ∀ v ∈ vs, v.right = true ∧ v.wf) : rB vs = uB vs.length ++ vs.flatMap V.bytes := by
  unfold rB
  rw [if_pos (List.all_eq_true.2 fun v hv => (h v hv).1)]
  unfold rTo; rw [List.take_length]
theorem row_back (vs : List V) (h : ∀ v ∈ vs, v.right = true ∧ v.wf) (hn : vs.length ≤ 1000) (t : List UInt8) : row (rB vs ++ t) = .ok (vs, t) := by
  unfold row
  rw [rB_of h, List.append_assoc, len_back 1000 _ hn (by omega)]
  simp only [rowR]
  rw [vls_back vs [] t h]; simp
theorem row_cut (vs : List V) (h : ∀ v ∈ vs, v.right = true ∧ v.wf) (hn : vs.length ≤ 1000) (j : Nat) (hj : j < (rB vs).length) : row ((rB vs).take j) = .error 8 := by
  unfold row
  rw [rB_of h] at hj ⊢
  rw [List.length_append] at hj
  rcases Nat.lt_or_ge j (uB vs.length).length with h1 | h1
  · rw [List.take_append_of_le_length (by omega), len_cut 1000 _ (by omega) j h1]; rfl
  · rw [List.take_append, List.take_of_length_le h1, len_back 1000 _ hn (by omega)]
    simp only [rowR]
    exact vls_cut vs [] _ h (by omega)
theorem row_ok {l t : List UInt8} {vs : List V} (h : row l = .ok (vs, t)) : l = rB vs ++ t ∧ vs.length ≤ 1000 ∧ ∀ v ∈ vs, v.right = true ∧ v.wf := by
  unfold row rowR at h
  split at h
  · rename_i n u hn
    obtain ⟨ws, h1, h2, h3, h4⟩ := vls_ok n [] vs u t h
    simp only [List.nil_append] at h1
    subst h1
    have g := len_ok hn
    refine ⟨?_, by rw [h2]; exact g.2, h4⟩
    rw [rB_of h4, (read_ok g.1).1, h3, h2, List.append_assoc]
  · cases h
/-! the errors that reading can come to -/
theorem len_err {m : Nat} {l : List UInt8} {x : Nat} (h : len m l = .error x) : x = 7 ∨ x = 8 ∨ x = 19 := by
  unfold len lenR at h
  split at h
  · split at h
    · cases h; omega
    · cases h
  · rename_i y hy
    cases h
    have := num_err _ _ _ _ hy; omega
theorem oct_err : ∀ (i n : Nat) (l : List UInt8) (x : Nat), oct i n l = .error x → x = 8
  | 0, n, l, x, h => by cases h
  | i + 1, n, [], x, h => by cases h; rfl
  | i + 1, n, c :: l, x, h => oct_err i _ l x h
theorem toV_err {α : Type} {f : α → V} {R : Except Nat (α × List UInt8)} {x : Nat} (h : toV f R = .error x) : R = .error x := by
  cases R with
  | error y => simpa [toV] using h
  | ok at' => cases h
theorem val_err {l : List UInt8} {x : Nat} (h : val l = .error x) : x = 7 ∨ x = 8 ∨ x = 19 := by
  cases l with
  | nil => cases h; omega
  | cons c l =>
    rw [val_cons] at h
    have hb : body c.toNat l = .error x ∨ x = 7 := by
      revert h
      generalize body c.toNat l = R
      intro h
      cases R with
      | error y => exact Or.inl (by simpa [chk] using h)
      | ok at' =>
        obtain ⟨v, t⟩ := at'
        simp only [chk] at h
        split at h
        · cases h
        · cases h; exact Or.inr rfl
    rcases hb with hb | hb
    · unfold body at hb
      split at hb
      · have := toV_err hb
        cases l with
        | nil => cases this; omega
        | cons a l => cases this
      split at hb
      · have := toV_err hb
        unfold sig sigR at this
        split at this
        · cases this
        · rename_i y hy; cases this; have := num_err _ _ _ _ hy; omega
      split at hb
      · have := oct_err _ _ _ _ (toV_err hb); omega
      split at hb
      · have := toV_err hb
        unfold txt txtR at this
        split at this
        · split at this
          · cases this; omega
          · cases this
        · rename_i y hy; cases this; exact len_err hy
      · cases hb
    · omega
theorem vls_err : ∀ (n : Nat) (acc : List V) (l : List UInt8) (x : Nat), vls n acc l = .error x → x = 7 ∨ x = 8 ∨ x = 19
  | 0, acc, l, x, h => by cases h
  | n + 1, acc, l, x, h => by
    simp only [vls] at h
    split at h
    · exact vls_err n _ _ _ h
    · rename_i y hy; cases h; exact val_err hy
theorem row_err {l : List UInt8} {x : Nat} (h : row l = .error x) : x = 7 ∨ x = 8 ∨ x = 19 := by
  unfold row rowR at h
  split at h
  · exact vls_err _ _ _ _ h
  · rename_i y hy; cases h; exact len_err hy
end Cod
end Go.Proofs.YtopmbhpjdmcabaaGreat
