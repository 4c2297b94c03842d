/- The reader's row. Conditions: the pointer is to a reader whose place is within its bytes; the bytes are at most 2^48. -/
import Derived.Test.YtinnkdbojgoicaaCw
namespace Go.Proofs.Ytinnkdbojgoicaa
open Go.RowKit
namespace Cod
/-- i values, behind those that are read. -/
def vls : Nat → List V → List UInt8 → Except Nat (List V × List UInt8)
  | 0, acc, l => .ok (acc, l)
  | i + 1, acc, l => match val l with
    | .ok (v, t) => vls i (acc ++ [v]) t
    | .error x => .error x
def rowR : Except Nat (Nat × List UInt8) → Except Nat (List V × List UInt8)
  | .ok (n, t) => vls n [] t
  | .error x => .error x
def row (l : List UInt8) : Except Nat (List V × List UInt8) := rowR (len 1000 l)
def V.cells (v : V) : List Value := [.int .i64 v.k, .int .i64 v.n, .int .u64 v.b, .string (S v.s)]
def flat (l : List V) : List Value := l.flatMap V.cells
theorem flat_len (l : List V) : (flat l).length = l.length * 4 := by
  induction l with
  | nil => rfl
  | cons v l ih => simp only [flat, List.flatMap_cons, List.length_append] at ih ⊢; rw [ih]; simp [V.cells]; omega
theorem flat_snoc (l : List V) (v : V) : flat (l ++ [v]) = flat l ++ v.cells := by simp [flat]
/-- The slice v owns these values, in blocks from base on. -/
def VRow (base : Nat) (l : List V) (v : Value) (w : World) : Prop := w.ownsRow base 33 4 v l.length (flat l)
theorem owns_but {r base : Nat} {e : TypeId} {sz : Nat} {v : Value} {n : Nat} {xs : List Value} {w w' : World} (h : w.ownsRow base e sz v n xs) (hr : r < base) (hb : But r w w') : w'.ownsRow base e sz v n xs := by
  refine ⟨h.1, ?_⟩
  rcases h.2 with h2 | ⟨g, cap, cur, hv, hg, hh, rest⟩
  · exact .inl h2
  · exact .inr ⟨g, cap, cur, hv, hg, hb.keeps (by omega) hh, rest⟩
theorem owns_later {base : Nat} {e : TypeId} {sz : Nat} {v : Value} {n : Nat} {xs : List Value} {w w' : World} (h : w.ownsRow base e sz v n xs) (hb : Below w.heap.size w w') : w'.ownsRow base e sz v n xs := by
  refine ⟨h.1, ?_⟩
  rcases h.2 with h2 | ⟨g, cap, cur, hv, hg, hh, rest⟩
  · exact .inl h2
  · exact .inr ⟨g, cap, cur, hv, hg, below_keeps hb hh, rest⟩
theorem But.grown {r : Nat} {a w w' : World} {row : Option Nat} (h : But r a w) (hg : w.grownBy w' row) (hr : ∀ k, row = some k → a.heap.size ≤ k) : But r a w' := by
  refine ⟨hg.os.trans h.os, hg.tape.trans h.tape, hg.output.trans h.output, Nat.le_trans h.size hg.size, fun k hk hn => ?_⟩
  rw [hg.block k (Nat.lt_of_lt_of_le hk h.size) (fun e => by have := hr k e.symm; omega), h.block k hk hn]
theorem Rdr.grown {r : Nat} {s : ByteArray} {q e : Int} {w w' : World} {row : Option Nat} (h : Rdr r s q e w) (hg : w.grownBy w' row) (hr : ∀ k, row = some k → r ≠ k) : Rdr r s q e w' := by
  unfold Rdr; rw [hg.block r h.lt (fun e => hr r e.symm rfl)]; exact h
theorem cell_four (a b c d : Value) : ∀ j u, [a, b, c, d][j]? = some u → (j = 0 ∧ u = a) ∨ (j = 1 ∧ u = b) ∨ (j = 2 ∧ u = c) ∨ (j = 3 ∧ u = d) := by
  intro j u h
  match j, h with
  | 0, h => simp at h; exact .inl ⟨rfl, h.symm⟩
  | 1, h => simp at h; exact .inr (.inl ⟨rfl, h.symm⟩)
  | 2, h => simp at h; exact .inr (.inr (.inl ⟨rfl, h.symm⟩))
  | 3, h => simp at h; exact .inr (.inr (.inr ⟨rfl, h.symm⟩))
  | j + 4, h => simp at h
theorem infoV : (Try.prog.info? 33).map (fun i => (i.zero, i.size, i.bytes)) = some (some (.agg #[.int .i64 0, .int .i64 0, .int .u64 0, .string ⟨#[]⟩]), 4, 40) := by kernel_rfl
theorem one_suf {l t : List UInt8} {c : UInt8} (h : one l = .ok (c, t)) : ∃ pre, l = pre ++ t := by
  cases l with
  | nil => cases h
  | cons a l => simp only [one, Except.ok.injEq, Prod.mk.injEq] at h; exact ⟨[a], by rw [h.2]; rfl⟩
theorem num_suf {l t : List UInt8} {n : Nat} (h : num 0 0 l = .ok (n, t)) : ∃ pre, l = pre ++ t := ⟨_, (read_ok h).1⟩
theorem sig_suf {l t : List UInt8} {n : Int} (h : sig l = .ok (n, t)) : ∃ pre, l = pre ++ t := by
  unfold sig sigR at h
  split at h
  · rename_i n' t' hn
    simp only [Except.ok.injEq, Prod.mk.injEq] at h
    obtain ⟨_, rfl⟩ := h
    exact num_suf hn
  · cases h
theorem oct_suf : ∀ (i n : Nat) (l t : List UInt8) (m : Nat), oct i n l = .ok (m, t) → ∃ pre, l = pre ++ t
  | 0, n, l, t, m, h => by simp only [oct, Except.ok.injEq, Prod.mk.injEq] at h; exact ⟨[], by rw [h.2]; rfl⟩
  | i + 1, n, [], t, m, h => by cases h
  | i + 1, n, c :: l, t, m, h => by obtain ⟨pre, hp⟩ := oct_suf i _ l t m h; exact ⟨c :: pre, by rw [hp]; rfl⟩
theorem txt_suf {most : Nat} {l t a : List UInt8} (h : txt most l = .ok (a, t)) : ∃ pre, l = pre ++ t := by
  unfold txt txtR at h
  split at h
  · rename_i n t' hn
    split at h
    · cases h
    · simp only [Except.ok.injEq, Prod.mk.injEq] at h
      obtain ⟨_, rfl⟩ := h
      obtain ⟨pre, hp⟩ := num_suf (len_ok hn).1
      exact ⟨pre ++ t'.take n, by rw [hp, List.append_assoc, List.take_append_drop]⟩
  · cases h
theorem toV_ok {α : Type} {f : α → V} {R : Except Nat (α × List UInt8)} {v : V} {t : List UInt8} (h : toV f R = .ok (v, t)) : ∃ a, R = .ok (a, t) ∧ v = f a := by
  cases R with
  | error x => cases h
  | ok at' => obtain ⟨a, u⟩ := at'; simp only [toV, Except.ok.injEq, Prod.mk.injEq] at h; obtain ⟨rfl, rfl⟩ := h; exact ⟨a, rfl, rfl⟩
theorem body_suf {k : Nat} {l t : List UInt8} {v : V} (h : body k l = .ok (v, t)) : ∃ pre, l = pre ++ t := by
  unfold body at h
  split at h
  · obtain ⟨a, ha, _⟩ := toV_ok h; exact one_suf ha
  split at h
  · obtain ⟨a, ha, _⟩ := toV_ok h; exact sig_suf ha
  split at h
  · obtain ⟨a, ha, _⟩ := toV_ok h; exact oct_suf _ _ _ _ _ ha
  split at h
  · obtain ⟨a, ha, _⟩ := toV_ok h; exact txt_suf ha
  · simp only [Except.ok.injEq, Prod.mk.injEq] at h; exact ⟨[], by rw [h.2]; rfl⟩
theorem chk_ok {R : Except Nat (V × List UInt8)} {v : V} {t : List UInt8} (h : chk R = .ok (v, t)) : R = .ok (v, t) ∧ v.right = true := by
  cases R with
  | error x => cases h
  | ok at' =>
    obtain ⟨a, u⟩ := at'
    simp only [chk] at h
    split at h
    · rename_i hr
      simp only [Except.ok.injEq, Prod.mk.injEq] at h
      obtain ⟨rfl, rfl⟩ := h
      exact ⟨rfl, hr⟩
    · cases h
theorem val_suf {l t : List UInt8} {v : V} (h : val l = .ok (v, t)) : ∃ pre, l = pre ++ t := by
  unfold val valR at h
  split at h
  · rename_i c u hc
    obtain ⟨pre, hp⟩ := one_suf hc
    obtain ⟨pre2, hp2⟩ := body_suf (chk_ok h).1
    exact ⟨pre ++ pre2, by rw [hp, hp2, List.append_assoc]⟩
  · cases h
set_option maxHeartbeats 4000000 in
set_option maxRecDepth 100000 in
theorem row_part (r : Nat) (s : ByteArray) (p : Nat) (e : Int) (w : World) (h : Rdr r s p e w) (hp : p ≤ s.size) (hs : s.size ≤ 281474976710656) :
    Calls Try.prog 57 #[.pointer (some ⟨r, 0, none⟩)] w fun en w' => Part r s e w (VRow w.heap.size) (row (s.data.toList.drop p)) en w' := by
  obtain ⟨i0, hi, hz0, hz1, hz2⟩ := info_parts infoV
  have hlen := length_any r s p e 1000 (by omega) w h hp hs
  have hrlt := h.lt
  obtain ⟨R, hR⟩ : ∃ R, R = len 1000 (s.data.toList.drop p) := ⟨_, rfl⟩
  obtain ⟨F, hF⟩ : ∃ F, F = row (s.data.toList.drop p) := ⟨_, rfl⟩
  rw [← hF]
  unfold row at hF
  rw [← hR] at hlen hF
  have HR0 := hidm hR
  have HFF := hidm hF
  clear hR hF
  go_enter Try.func57, Try.ntmps57
  go_wp2_with fail
  refine hlen.mono ?_
  cases R with
  | error x =>
    rintro en w1 ⟨q, rfl, hv⟩
    have HV := hidm hv
    clear hv
    go_wp2_with fail
    refine ⟨rfl, ?_⟩
    rw [HFF.out]
    exact ⟨q, rfl, HV.out⟩
  | ok at' =>
    obtain ⟨m, t⟩ := at'
    rintro en w1 ⟨v, rfl, rfl, hv, hbt⟩
    have hln := (len_ok HR0.out.symm)
    have hm1000 := hln.2
    have hrest := rest_at (read_ok hln.1).1
    have HV := hidm hv
    have HT := hidm hbt
    have HF : Hid (F = vls m [] t) := HFF
    have HH := hidm hrest
    clear hv hbt hrest hln hlen
    go_wp2_with fail
    go_loopw [3, 6] (fun sl ii wr => ∃ (i q : Nat) (acc : List V), ii = .int .i64 i ∧ i ≤ m ∧ q ≤ s.size ∧ acc.length = i ∧ Hid (F = vls (m - i) acc (s.data.toList.drop q)) ∧ Hid (Rdr r s q e wr) ∧ Hid (But r w wr) ∧ wr.ownsRow w.heap.size 33 4 sl i (flat acc)) (fun _ ii _ => (m - (intOf ii).toNat))
    case atStart => exact ⟨0, s.size - t.length, [], rfl, by omega, HH.out.2.1, rfl, by rw [HH.out.1]; exact HF, HV, HT, World.ownsRow_nil _ _ _ _⟩
    case round =>
      obtain ⟨i, q, acc, rfl, him, hq, hacc, HM, HRr, HB, hown⟩ := hrel
      have hsz := HB.out.size
      rcases Nat.eq_or_lt_of_le him with hie | hie
      · have f1 : ¬ (i : Int) < m := by omega
        have HI := hidm hie
        have HA := hidm hacc
        have HO := hidm hown
        clear hie hacc hown
        go_wp2_with fail
        go_ret
        rw [HM.out, show m - i = 0 by have := HI.out; omega]
        exact ⟨_, rfl, by have := HA.out; rw [← this] at HO; exact HO.out, by rw [back_at s q hq]; exact HRr.out, HB.out⟩
      · have f1 : (i : Int) < m := by omega
        have hval := value_part r s q e wr HRr.out hq hs
        obtain ⟨G, hG⟩ : ∃ G, G = val (s.data.toList.drop q) := ⟨_, rfl⟩
        rw [← hG] at hval
        have HG := hidm hG
        have HA := hidm hacc
        clear hG hacc
        go_wp2_with fail
        refine hval.mono ?_
        cases G with
        | error x =>
          rintro en w2 ⟨q2, rfl, hr2, hb2⟩
          have HR2 := hidm hr2
          have HB2 := hidm (HB.out.trans hb2)
          clear hr2 hb2
          go_wp2_with fail
          refine ⟨rfl, ?_⟩
          have : vls (m - i) acc (s.data.toList.drop q) = .error x := by
            rw [show m - i = (m - (i + 1)) + 1 by omega]
            simp only [vls]
            rw [← HG.out]
          rw [HM.out, this]
          exact ⟨_, rfl, HR2.out, HB2.out⟩
        | ok at2 =>
          obtain ⟨x, u⟩ := at2
          rintro en w2 ⟨_, rfl, rfl, hr2, hb2⟩
          have HX : Hid (F = vls (m - (i + 1)) (acc ++ [x]) u) := by
            refine hidm ?_
            rw [HM.out, show m - i = (m - (i + 1)) + 1 by omega]
            simp only [vls]
            rw [← HG.out]
          have HR2 := hidm hr2
          have HB2 := hidm (HB.out.trans hb2)
          have hown2 := owns_but hown hrlt hb2
          have hsz2 : w.heap.size ≤ w2.heap.size := Nat.le_trans hsz hb2.size
          clear hr2 hb2 hown
          simp only [V.agg]
          go_wp2_with (at_builtin; refine wpList_append_own _ rfl _ _ 36 rfl w.heap.size 33 i0 (.agg #[.int .i64 0, .int .i64 0, .int .u64 0, .string ⟨#[]⟩]) 4 40 Try.underlying36 hi hz0 hz1 hz2 rfl (by decide) _ _ _ rfl (hown2.alloc _) ⟨w2.heap.size, 0, none⟩ 1 1 [.int .i64 x.k, .int .i64 x.n, .int .u64 x.b, .string (S x.s)] rfl rfl ?c1 ?c2 ?c3 ?c4 ?c5 ?_)
          case c1 =>
            intro j y hj
            rcases cell_four _ _ _ _ j y hj with ⟨rfl, rfl⟩ | ⟨rfl, rfl⟩ | ⟨rfl, rfl⟩ | ⟨rfl, rfl⟩
            · exact (Vb.new w2 x.k x.n x.b (S x.s)).c0
            · exact (Vb.new w2 x.k x.n x.b (S x.s)).c1
            · exact (Vb.new w2 x.k x.n x.b (S x.s)).c2
            · exact (Vb.new w2 x.k x.n x.b (S x.s)).c3
          case c2 => intro y hy; simp at hy; rcases hy with rfl | rfl | rfl | rfl <;> rfl
          case c3 => unfold maxLen; omega
          case c4 => omega
          case c5 => simp; omega
          intro v' w3 hown' hgrow _
          have hlt2 := hown2.lt
          have HB3 := hidm ((HB2.out.alloc (.cells #[.int .i64 x.k, .int .i64 x.n, .int .u64 x.b, .string (S x.s)] 33)).grown hgrow (fun k hk => (hlt2 k hk).1))
          have HR3 := hidm ((HR2.out.past (.cells #[.int .i64 x.k, .int .i64 x.n, .int .u64 x.b, .string (S x.s)] 33)).grown hgrow (fun k hk => by have := (hlt2 k hk).1; omega))
          have hfl : flat acc ++ [.int .i64 x.k, .int .i64 x.n, .int .u64 x.b, .string (S x.s)] = flat (acc ++ [x]) := (flat_snoc acc x).symm
          rw [hfl] at hown'
          have HO := hidm hown'
          obtain ⟨pre, hpre⟩ := val_suf HG.out.symm
          have HU := hidm (rest_at hpre)
          clear hown' hgrow hown2 hlt2 hfl hpre
          go_wp2
          go_roundw
          case rel => exact ⟨i + 1, s.size - u.length, acc ++ [x], by go_num, hie, HU.out.2.1, by have := HA.out; rw [List.length_append, this]; rfl, by rw [HU.out.1]; exact HX, HR3, HB3, HO.out⟩
          case measure => simp [intOf]; omega
end Cod
end Go.Proofs.Ytinnkdbojgoicaa
