/- Contracts of readLetter, readBytes, readText. Conditions: the text takes at most 2^45 bytes; the listed error variables read as the rows list them. -/
import Derived.Test.YtppdebhcaodcnaaDoorRd
namespace Go.Proofs.YtppdebhcaodcnaaDoor
open Go.RowKit
namespace Rd
theorem list_of (s : ByteArray) {c : UInt8} {r : List UInt8} (h : s.data.toList = c :: r) : ∃ h0 : 0 < s.size, s[0] = c ∧ s.size = r.length + 1 := by
  have hl : s.data.toList.length = s.size := by simp
  have h0 : 0 < s.size := by rw [← hl, h]; simp
  refine ⟨h0, ?_, by rw [← hl, h]; simp⟩
  rw [← nth s 0 h0]
  simp [h]
theorem list_of2 (s : ByteArray) {c d : UInt8} {r : List UInt8} (h : s.data.toList = c :: d :: r) : ∃ h1 : 1 < s.size, s[1] = d := by
  have hl : s.data.toList.length = s.size := by simp
  have h1 : 1 < s.size := by rw [← hl, h]; simp
  refine ⟨h1, ?_⟩
  rw [← nth s 1 h1]
  simp [h]
theorem ne92 (c : UInt8) : ((c.toNat : Int) != 92) = !(decide (c = 92)) := by
  have h : (c = 92) ↔ (c.toNat : Int) = 92 := Val.toNat_eq (k := 92) (by omega)
  by_cases g : c = 92
  · have := h.1 g; simp [g]
  · have : ¬ (c.toNat : Int) = 92 := fun e => g (h.2 e)
    simp [g, this]
theorem readLetter_ok (s : ByteArray) (c : UInt8) (n : Nat) (h : rdLet s.data.toList = some (c, n)) (hmax : s.size ≤ 281474976710656) (w : World) :
    Calls Tryd.prog 92 #[.string s] w fun e w' => e = .returned (.tuple #[.int .u8 c.toNat, .int .i64 n, .bool true]) ∧ Below w.heap.size w w' := by
  rcases hl : s.data.toList with _ | ⟨a, r⟩
  · rw [hl] at h; cases h
  · obtain ⟨h0, ha, hsz⟩ := list_of s hl
    rw [hl] at h
    simp only [rdLet] at h
    by_cases g : a = 92
    · have hn : ((s[0].toNat : Int) != 92) = false := by rw [ha, ne92, g]; rfl
      rw [if_neg (by simp [g])] at h
      rcases r with _ | ⟨d, q⟩
      · cases h
      · obtain ⟨h1, hd⟩ := list_of2 s hl
        simp only at h
        by_cases gx : d = 120
        · rw [if_pos gx] at h
          have hp : Lib.hasPrefix s.data.toList [92, 120] = true := by rw [hl, g, gx]; rfl
          cases hx : rdHex q with
          | none => rw [hx] at h; cases h
          | some x =>
            rw [hx] at h
            simp only [Option.some.injEq, Prod.mk.injEq] at h
            obtain ⟨rfl, rfl⟩ := h
            exact let_hex_ok s h0 hn hp (by omega) hmax x (by rw [hl]; exact hx) w
        · rw [if_neg gx] at h
          simp only [Option.some.injEq, Prod.mk.injEq] at h
          obtain ⟨rfl, rfl⟩ := h
          have hp : Lib.hasPrefix s.data.toList [92, 120] = false := by
            rw [hl, g]
            simp [Lib.hasPrefix, List.isPrefixOf]
            exact fun e => gx e.symm
          refine (let_two s h0 hn hp h1 w).mono ?_
          rintro e w' ⟨rfl, rfl⟩
          exact ⟨by rw [hd]; rfl, Below.refl _ _⟩
    · have hn : ((s[0].toNat : Int) != 92) = true := by rw [ha, ne92]; simp [g]
      rw [if_pos g] at h
      simp only [Option.some.injEq, Prod.mk.injEq] at h
      obtain ⟨rfl, rfl⟩ := h
      refine (let_one s h0 hn w).mono ?_
      rintro e w' ⟨rfl, rfl⟩
      exact ⟨by rw [ha]; rfl, Below.refl _ _⟩
theorem readLetter_err (s : ByteArray) (hpos : 0 < s.size) (h : rdLet s.data.toList = none) (hmax : s.size ≤ 281474976710656) (w : World) (he : Val.Env w) :
    Calls Tryd.prog 92 #[.string s] w (LetErr w) := by
  rcases hl : s.data.toList with _ | ⟨a, r⟩
  · have : s.data.toList.length = s.size := by simp
    rw [hl] at this; simp at this; omega
  · obtain ⟨h0, ha, hsz⟩ := list_of s hl
    rw [hl] at h
    simp only [rdLet] at h
    by_cases g : a = 92
    · have hn : ((s[0].toNat : Int) != 92) = false := by rw [ha, ne92, g]; rfl
      rw [if_neg (by simp [g])] at h
      rcases r with _ | ⟨d, q⟩
      · have hp : Lib.hasPrefix s.data.toList [92, 120] = false := by rw [hl, g]; rfl
        exact let_end s h0 hn hp (by rw [hsz]; simp) w
      · obtain ⟨h1, hd⟩ := list_of2 s hl
        simp only at h
        by_cases gx : d = 120
        · rw [if_pos gx] at h
          have hp : Lib.hasPrefix s.data.toList [92, 120] = true := by rw [hl, g, gx]; rfl
          cases hx : rdHex q with
          | none => exact let_hex_err s h0 hn hp (by omega) hmax (by rw [hl]; exact hx) w he
          | some x => rw [hx] at h; cases h
        · rw [if_neg gx] at h; cases h
    · rw [if_pos g] at h; cases h
theorem rdLet_step {l : List UInt8} {c : UInt8} {n : Nat} (h : rdLet l = some (c, n)) : 1 ≤ n ∧ n ≤ 4 ∧ n ≤ l.length := by
  rcases l with _ | ⟨a, r⟩
  · cases h
  · simp only [rdLet] at h
    split at h
    · simp only [Option.some.injEq, Prod.mk.injEq] at h
      obtain ⟨rfl, rfl⟩ := h; simp
    · split at h
      · cases h
      · rename_i d q
        split at h
        · split at h
          · rename_i x hx
            simp only [Option.some.injEq, Prod.mk.injEq] at h
            obtain ⟨rfl, rfl⟩ := h
            unfold rdHex at hx
            split at hx
            · cases hx
            · simp only [List.length_cons]; omega
          · cases h
        · simp only [Option.some.injEq, Prod.mk.injEq] at h
          obtain ⟨rfl, rfl⟩ := h; simp
def rdBytes : List UInt8 → Option (List UInt8)
  | [] => some []
  | [_] => none
  | a :: b :: r => match rdHex [a, b] with
    | none => none
    | some c => match rdBytes r with
      | none => none
      | some q => some (c :: q)
theorem rdHex_two (a b : UInt8) (r : List UInt8) : rdHex (a :: b :: r) = rdHex [a, b] := by
  unfold rdHex
  rw [if_neg (by simp), if_neg (by simp)]
  rfl
def rdText : Nat → List UInt8 → Option (List UInt8)
  | _, [] => some []
  | 0, _ :: _ => none
  | f + 1, a :: r => match rdLet (a :: r) with
    | none => none
    | some (c, n) => match rdText f ((a :: r).drop n) with
      | none => none
      | some q => some (c :: q)
def StrErr (w : World) (e : Ending) (w' : World) : Prop := e = .returned (.tuple #[.string ⟨#[]⟩, .bool false]) ∧ Below w.heap.size w w'
/-- one step of readBytes -/
theorem rdBytes_ok {l bs : List UInt8} (h : rdBytes l = some bs) (hl : l ≠ []) : ∃ c q, rdHex l = some c ∧ rdBytes (l.drop 2) = some q ∧ bs = c :: q ∧ 2 ≤ l.length := by
  rcases l with _ | ⟨a, _ | ⟨b, r⟩⟩
  · exact absurd rfl hl
  · cases h
  · simp only [rdBytes] at h
    cases hx : rdHex [a, b] with
    | none => rw [hx] at h; cases h
    | some c =>
      rw [hx] at h
      cases hq : rdBytes r with
      | none => rw [hq] at h; cases h
      | some q =>
        rw [hq] at h
        exact ⟨c, q, by rw [rdHex_two]; exact hx, by simpa using hq, by simpa using h.symm, by simp⟩
theorem rdBytes_err {l : List UInt8} (h : rdBytes l = none) : l ≠ [] ∧ (rdHex l = none ∨ ∃ c, rdHex l = some c ∧ rdBytes (l.drop 2) = none ∧ 2 ≤ l.length) := by
  rcases l with _ | ⟨a, _ | ⟨b, r⟩⟩
  · cases h
  · exact ⟨by simp, Or.inl rfl⟩
  · simp only [rdBytes] at h
    refine ⟨by simp, ?_⟩
    rw [rdHex_two]
    cases hx : rdHex [a, b] with
    | none => exact Or.inl rfl
    | some c =>
      rw [hx] at h
      cases hq : rdBytes r with
      | none => exact Or.inr ⟨c, rfl, by simpa using hq, by simp⟩
      | some q => rw [hq] at h; cases h
set_option maxHeartbeats 2000000 in
set_option maxRecDepth 100000 in
theorem readBytes_ok (s : ByteArray) (bs : List UInt8) (h : rdBytes s.data.toList = some bs) (hmax : s.size ≤ 35184372088832) (w : World) :
    Calls Tryd.prog 64 #[.string s] w fun e w' => e = .returned (.tuple #[.string ⟨bs.toArray⟩, .bool true]) ∧ Below w.heap.size w w' := by
  have hfr := Bld.fresh w
  have H := Lib.hid h
  clear h
  go_enter Tryd.func64, Tryd.ntmps64
  go_wp2_with fail
  go_loopw [5] (fun i wr => ∃ (k : Nat) (acc rest : List UInt8), k ≤ s.size ∧ i = .int .i64 k ∧ Bld.Is w.heap.size w.heap.size acc wr ∧ acc.length ≤ k ∧ Hid (rdBytes (s.data.toList.drop k) = some rest ∧ acc ++ rest = bs) ∧ Below w.heap.size w wr ∧ w.heap.size < wr.heap.size) (fun i _ => s.size - (intOf i).toNat)
  case atStart => exact ⟨0, [], bs, Nat.zero_le _, rfl, hfr, Nat.le_refl _, ⟨by simpa using H.out, rfl⟩, (Below.refl _ _).alloc (Nat.le_refl _) _, by simp⟩
  case round =>
    obtain ⟨k, acc, rest, hk, rfl, hI, hal, hR, hB, hz⟩ := hrel
    clear hfr H
    by_cases hlt : k < s.size
    · obtain ⟨c, q, hx, hq, hbq, hlen⟩ := rdBytes_ok hR.out.1 (by intro e; have := congrArg List.length e; simp at this; omega)
      have hk2 : k + 2 ≤ s.size := by simp at hlen; omega
      have hext : rdHex (s.extract k s.size).data.toList = some c := by
        rw [ext_list, List.take_of_length_le (by simp)]; exact hx
      have HX := Lib.hid hext
      have HN : Hid (rdBytes (s.data.toList.drop (k + 2)) = some q ∧ (acc ++ [c]) ++ q = bs) := by
        refine Lib.hid ⟨by rw [← List.drop_drop]; exact hq, ?_⟩
        rw [List.append_assoc, ← hR.out.2, hbq]; rfl
      clear hx hq hbq hlen hext hR
      go_wp2_with fail
      refine (readHex_ok _ c HX.out (by simp; omega) _).mono ?_
      rintro e w1 ⟨rfl, hb1⟩
      have hI1 := hI.below hb1
      have hB1 := hB.trans (hb1.mono (by omega))
      have hz1 : w.heap.size < w1.heap.size := by have := hb1.size; omega
      clear hI hB hz hb1
      go_wp2_with fail
      refine (Bld.writeByte w.heap.size w.heap.size _ c _ hI1 (by omega) (by omega)).mono ?_
      rintro e w2 ⟨rfl, hI2, hb2⟩
      go_wp2_with fail
      go_roundw
      case rel => exact ⟨k + 2, acc ++ [c], q, by omega, by go_num, hI2, by simp; omega, HN, hB1.trans hb2, by have := hb2.size; omega⟩
      case measure => simp [intOf]; omega
    · have hkk : k = s.size := by omega
      have hfin : acc = bs := by
        have h1 := hR.out.1
        rw [List.drop_of_length_le (by simp; omega)] at h1
        have h2 := hR.out.2
        simp only [rdBytes, Option.some.injEq] at h1
        rw [← h1, List.append_nil] at h2
        exact h2
      subst hfin
      clear hkk hR
      go_wp2_with fail
      refine (Bld.string_any w.heap.size w.heap.size _ _ hI (by omega)).mono ?_
      rintro e w3 ⟨rfl, h3, hb3⟩
      go_wp2_with fail
      go_ret2
      exact ⟨rfl, hB.trans hb3⟩
set_option maxHeartbeats 2000000 in
set_option maxRecDepth 100000 in
theorem readBytes_err (s : ByteArray) (h : rdBytes s.data.toList = none) (hmax : s.size ≤ 35184372088832) (w : World) (he : Val.Env w) :
    Calls Tryd.prog 64 #[.string s] w (StrErr w) := by
  have hfr := Bld.fresh w
  have H := Lib.hid h
  have HE := Lib.hid he
  clear h he
  go_enter Tryd.func64, Tryd.ntmps64
  go_wp2_with fail
  go_loopw [5] (fun i wr => ∃ (k : Nat) (acc : List UInt8), k ≤ s.size ∧ i = .int .i64 k ∧ Bld.Is w.heap.size w.heap.size acc wr ∧ acc.length ≤ k ∧ Hid (rdBytes (s.data.toList.drop k) = none) ∧ Below w.heap.size w wr ∧ w.heap.size < wr.heap.size) (fun i _ => s.size - (intOf i).toNat)
  case atStart => exact ⟨0, [], Nat.zero_le _, rfl, hfr, Nat.le_refl _, (by show rdBytes _ = none; simpa using H.out), (Below.refl _ _).alloc (Nat.le_refl _) _, by simp⟩
  case round =>
    obtain ⟨k, acc, hk, rfl, hI, hal, hR, hB, hz⟩ := hrel
    clear hfr H
    obtain ⟨hne, hcase⟩ := rdBytes_err hR.out
    have hlt : k < s.size := by
      rcases Nat.lt_or_ge k s.size with g | g
      · exact g
      · exact absurd (List.drop_of_length_le (by simp; omega)) hne
    have HE1 := Lib.hid (HE.out.below hB)
    clear hne hR
    rcases hcase with hx | ⟨c, hx, hq, hlen⟩
    · have hext : rdHex (s.extract k s.size).data.toList = none := by
        rw [ext_list, List.take_of_length_le (by simp)]; exact hx
      have HX := Lib.hid hext
      clear hx hext
      go_wp2_with fail
      refine (readHex_err _ HX.out (by simp; omega) _ HE1.out).mono ?_
      rintro e w1 ⟨x, rfl, hb1⟩
      go_wp2_with fail
      go_ret2
      exact ⟨rfl, hB.trans (hb1.mono (by omega))⟩
    · have hk2 : k + 2 ≤ s.size := by simp at hlen; omega
      have hext : rdHex (s.extract k s.size).data.toList = some c := by
        rw [ext_list, List.take_of_length_le (by simp)]; exact hx
      have HX := Lib.hid hext
      have HN : Hid (rdBytes (s.data.toList.drop (k + 2)) = none) := by
        refine Lib.hid ?_
        rw [← List.drop_drop]; exact hq
      clear hx hq hlen hext
      go_wp2_with fail
      refine (readHex_ok _ c HX.out (by simp; omega) _).mono ?_
      rintro e w1 ⟨rfl, hb1⟩
      have hI1 := hI.below hb1
      have hB1 := hB.trans (hb1.mono (by omega))
      have hz1 : w.heap.size < w1.heap.size := by have := hb1.size; omega
      clear hI hB hz hb1
      go_wp2_with fail
      refine (Bld.writeByte w.heap.size w.heap.size _ c _ hI1 (by omega) (by omega)).mono ?_
      rintro e w2 ⟨rfl, hI2, hb2⟩
      go_wp2_with fail
      go_roundw
      case rel => exact ⟨k + 2, acc ++ [c], by omega, by go_num, hI2, by simp; omega, HN, hB1.trans hb2, by have := hb2.size; omega⟩
      case measure => simp [intOf]; omega
theorem rdText_ok {f : Nat} {l bs : List UInt8} (h : rdText f l = some bs) (hl : l ≠ []) : ∃ g c n q, rdLet l = some (c, n) ∧ rdText g (l.drop n) = some q ∧ bs = c :: q := by
  rcases l with _ | ⟨a, r⟩
  · exact absurd rfl hl
  · rcases f with _ | f
    · cases h
    · simp only [rdText] at h
      cases hx : rdLet (a :: r) with
      | none => rw [hx] at h; cases h
      | some p =>
        obtain ⟨c, n⟩ := p
        rw [hx] at h
        simp only at h
        cases hq : rdText f ((a :: r).drop n) with
        | none => rw [hq] at h; cases h
        | some q =>
          rw [hq] at h
          exact ⟨f, c, n, q, rfl, hq, by simpa using h.symm⟩
theorem rdText_err {f : Nat} {l : List UInt8} (h : rdText f l = none) (hf : l.length ≤ f) : l ≠ [] ∧ (rdLet l = none ∨ ∃ g c n, rdLet l = some (c, n) ∧ rdText g (l.drop n) = none ∧ (l.drop n).length ≤ g) := by
  rcases l with _ | ⟨a, r⟩
  · cases f <;> cases h
  · refine ⟨by simp, ?_⟩
    rcases f with _ | f
    · simp at hf
    · simp only [rdText] at h
      cases hx : rdLet (a :: r) with
      | none => exact Or.inl rfl
      | some p =>
        obtain ⟨c, n⟩ := p
        rw [hx] at h
        simp only at h
        have hs := rdLet_step hx
        cases hq : rdText f ((a :: r).drop n) with
        | none => exact Or.inr ⟨f, c, n, rfl, hq, by simp only [List.length_drop]; simp only [List.length_cons] at hf hs ⊢; omega⟩
        | some q => rw [hq] at h; cases h
set_option maxHeartbeats 2000000 in
set_option maxRecDepth 100000 in
theorem readText_ok (s : ByteArray) (f : Nat) (bs : List UInt8) (h : rdText f s.data.toList = some bs) (hmax : s.size ≤ 35184372088832) (w : World) :
    Calls Tryd.prog 65 #[.string s] w fun e w' => e = .returned (.tuple #[.string ⟨bs.toArray⟩, .bool true]) ∧ Below w.heap.size w w' := by
  have hfr := Bld.fresh w
  have H := Lib.hid h
  clear h
  go_enter Tryd.func65, Tryd.ntmps65
  go_wp2_with fail
  go_loopw [5] (fun i wr => ∃ (k : Nat) (acc rest : List UInt8), k ≤ s.size ∧ i = .int .i64 k ∧ Bld.Is w.heap.size w.heap.size acc wr ∧ acc.length ≤ k ∧ Hid ((∃ g, rdText g (s.data.toList.drop k) = some rest) ∧ acc ++ rest = bs) ∧ Below w.heap.size w wr ∧ w.heap.size < wr.heap.size) (fun i _ => s.size - (intOf i).toNat)
  case atStart => exact ⟨0, [], bs, Nat.zero_le _, rfl, hfr, Nat.le_refl _, ⟨⟨f, by simpa using H.out⟩, rfl⟩, (Below.refl _ _).alloc (Nat.le_refl _) _, by simp⟩
  case round =>
    obtain ⟨k, acc, rest, hk, rfl, hI, hal, hR, hB, hz⟩ := hrel
    clear hfr H
    by_cases hlt : k < s.size
    · obtain ⟨g0, hg0⟩ := hR.out.1
      obtain ⟨g, c, n, q, hx, hq, hbq⟩ := rdText_ok hg0 (by intro e; have := congrArg List.length e; simp at this; omega)
      have hst := rdLet_step hx
      have hkn : k + n ≤ s.size := by have := hst.2.2; simp at this; omega
      have hn1 : 1 ≤ n := hst.1
      have hn4 : n ≤ 4 := hst.2.1
      have hext : rdLet (s.extract k s.size).data.toList = some (c, n) := by
        rw [ext_list, List.take_of_length_le (by simp)]; exact hx
      have HX := Lib.hid hext
      have HN : Hid ((∃ g, rdText g (s.data.toList.drop (k + n)) = some q) ∧ (acc ++ [c]) ++ q = bs) := by
        refine Lib.hid ⟨⟨g, by rw [← List.drop_drop]; exact hq⟩, ?_⟩
        rw [List.append_assoc, ← hR.out.2, hbq]; rfl
      clear hx hq hbq hst hext hR hg0
      go_wp2_with fail
      refine (readLetter_ok _ c n HX.out (by simp; omega) _).mono ?_
      rintro e w1 ⟨rfl, hb1⟩
      have hI1 := hI.below hb1
      have hB1 := hB.trans (hb1.mono (by omega))
      have hz1 : w.heap.size < w1.heap.size := by have := hb1.size; omega
      clear hI hB hz hb1
      go_wp2_with fail
      refine (Bld.writeByte w.heap.size w.heap.size _ c _ hI1 (by omega) (by omega)).mono ?_
      rintro e w2 ⟨rfl, hI2, hb2⟩
      go_wp2_with fail
      go_roundw
      case rel => exact ⟨k + n, acc ++ [c], q, by omega, by go_num, hI2, by simp; omega, HN, hB1.trans hb2, by have := hb2.size; omega⟩
      case measure => simp [intOf]; omega
    · have hfin : acc = bs := by
        obtain ⟨⟨g0, h1⟩, h2⟩ := hR.out
        rw [List.drop_of_length_le (by simp; omega)] at h1
        have h3 : rest = [] := by cases g0 <;> simpa [rdText] using h1.symm
        rw [h3, List.append_nil] at h2
        exact h2
      subst hfin
      clear hR
      go_wp2_with fail
      refine (Bld.string_any w.heap.size w.heap.size _ _ hI (by omega)).mono ?_
      rintro e w3 ⟨rfl, h3, hb3⟩
      go_wp2_with fail
      go_ret2
      exact ⟨rfl, hB.trans hb3⟩
set_option maxHeartbeats 2000000 in
set_option maxRecDepth 100000 in
theorem readText_err (s : ByteArray) (f : Nat) (h : rdText f s.data.toList = none) (hf : s.data.toList.length ≤ f) (hmax : s.size ≤ 35184372088832) (w : World) (he : Val.Env w) :
    Calls Tryd.prog 65 #[.string s] w (StrErr w) := by
  have hfr := Bld.fresh w
  have H : Hid (∃ g, rdText g s.data.toList = none ∧ s.data.toList.length ≤ g) := ⟨f, h, hf⟩
  have HE := Lib.hid he
  clear h he hf
  go_enter Tryd.func65, Tryd.ntmps65
  go_wp2_with fail
  go_loopw [5] (fun i wr => ∃ (k : Nat) (acc : List UInt8), k ≤ s.size ∧ i = .int .i64 k ∧ Bld.Is w.heap.size w.heap.size acc wr ∧ acc.length ≤ k ∧ Hid (∃ g, rdText g (s.data.toList.drop k) = none ∧ (s.data.toList.drop k).length ≤ g) ∧ Below w.heap.size w wr ∧ w.heap.size < wr.heap.size) (fun i _ => s.size - (intOf i).toNat)
  case atStart => exact ⟨0, [], Nat.zero_le _, rfl, hfr, Nat.le_refl _, H, (Below.refl _ _).alloc (Nat.le_refl _) _, by simp⟩
  case round =>
    obtain ⟨k, acc, hk, rfl, hI, hal, hR, hB, hz⟩ := hrel
    clear hfr H
    obtain ⟨g0, hg0, hgl⟩ := hR.out
    obtain ⟨hne, hcase⟩ := rdText_err hg0 hgl
    have hlt : k < s.size := by
      rcases Nat.lt_or_ge k s.size with g | g
      · exact g
      · exact absurd (List.drop_of_length_le (by simp; omega)) hne
    have HE1 := Lib.hid (HE.out.below hB)
    clear hne hR hg0 hgl
    rcases hcase with hx | ⟨g, c, n, hx, hq, hlen⟩
    · have hext : rdLet (s.extract k s.size).data.toList = none := by
        rw [ext_list, List.take_of_length_le (by simp)]; exact hx
      have HX := Lib.hid hext
      clear hx hext
      go_wp2_with fail
      refine (readLetter_err _ (by simp; omega) HX.out (by simp; omega) _ HE1.out).mono ?_
      rintro e w1 ⟨x, n, rfl, hb1⟩
      go_wp2_with fail
      go_ret2
      exact ⟨rfl, hB.trans (hb1.mono (by omega))⟩
    · have hst := rdLet_step hx
      have hkn : k + n ≤ s.size := by have := hst.2.2; simp at this; omega
      have hn1 : 1 ≤ n := hst.1
      have hn4 : n ≤ 4 := hst.2.1
      have hext : rdLet (s.extract k s.size).data.toList = some (c, n) := by
        rw [ext_list, List.take_of_length_le (by simp)]; exact hx
      have HX := Lib.hid hext
      have HN : Hid (∃ g, rdText g (s.data.toList.drop (k + n)) = none ∧ (s.data.toList.drop (k + n)).length ≤ g) := by
        refine Lib.hid ⟨g, ?_, ?_⟩
        · rw [← List.drop_drop]; exact hq
        · rw [← List.drop_drop]; exact hlen
      clear hx hq hlen hext hst
      go_wp2_with fail
      refine (readLetter_ok _ c n HX.out (by simp; omega) _).mono ?_
      rintro e w1 ⟨rfl, hb1⟩
      have hI1 := hI.below hb1
      have hB1 := hB.trans (hb1.mono (by omega))
      have hz1 : w.heap.size < w1.heap.size := by have := hb1.size; omega
      clear hI hB hz hb1
      go_wp2_with fail
      refine (Bld.writeByte w.heap.size w.heap.size _ c _ hI1 (by omega) (by omega)).mono ?_
      rintro e w2 ⟨rfl, hI2, hb2⟩
      go_wp2_with fail
      go_roundw
      case rel => exact ⟨k + n, acc ++ [c], by omega, by go_num, hI2, by simp; omega, HN, hB1.trans hb2, by have := hb2.size; omega⟩
      case measure => simp [intOf]; omega
end Rd
end Go.Proofs.YtppdebhcaodcnaaDoor
