/- The document's guess at a string or a Bytes, and at any value; its Parse of a key (layer 4). Conditions: the text has at least one byte and at most a million. -/
import Derived.Test.YtppdebhcaodcnaaDoorYx
import Derived.Deep.LoopGhost
namespace Go.Proofs.YtppdebhcaodcnaaDoor
open Go.RowKit Cod
namespace Ky
/-- How far a text is read: what was taken, and what is still to come. -/
def Rel (L : List UInt8) (i : Nat) (l : List UInt8) : Prop := ∀ t0 t : List UInt8, L = esc t0 ++ 0 :: 1 :: t → (∃ B, t0 = l ++ B ∧ L.drop i = esc B ++ 0 :: 1 :: t) ∨ (l = t0 ∧ L.length ≤ i)
theorem Rel.start (L : List UInt8) : Rel L 0 [] := fun t0 t h => .inl ⟨t0, rfl, by simpa using h⟩
section
variable {L l : List UInt8} {i : Nat}
theorem next_get {X : List UInt8} (e : L.drop (i + 1) = X) : L[i + 1]? = X[0]? := by
  rw [← e, List.getElem?_drop]
theorem Rel.other (h : Rel L i l) (hi : i < L.length) (hc : L[i] ≠ 0) : Rel L (i + 1) (l ++ [L[i]]) := by
  intro t0 t e
  rcases h t0 t e with ⟨B, h1, h2⟩ | ⟨_, h2⟩
  · left
    rw [List.drop_eq_getElem_cons hi] at h2
    cases B with
    | nil =>
      simp only [esc, List.nil_append, List.cons.injEq] at h2
      exact absurd h2.1 hc
    | cons b B =>
      by_cases hb : b = 0
      · rw [hb, esc_zero] at h2
        simp only [List.cons_append, List.cons.injEq] at h2
        exact absurd h2.1 hc
      · rw [esc_other hb] at h2
        simp only [List.cons_append, List.cons.injEq] at h2
        exact ⟨B, by rw [h1, h2.1]; simp, h2.2⟩
  · omega
theorem Rel.zero (h : Rel L i l) (hi : i < L.length) (hc : L[i] = 0) (hn : L[i + 1]? ≠ some 1) : Rel L (i + 2) (l ++ [0]) := by
  intro t0 t e
  rcases h t0 t e with ⟨B, h1, h2⟩ | ⟨_, h2⟩
  · left
    rw [List.drop_eq_getElem_cons hi] at h2
    cases B with
    | nil =>
      simp only [esc, List.nil_append, List.cons.injEq] at h2
      exact absurd (next_get h2.2) hn
    | cons b B =>
      by_cases hb : b = 0
      · rw [hb, esc_zero] at h2
        simp only [List.cons_append, List.cons.injEq] at h2
        refine ⟨B, by rw [h1, hb]; simp, ?_⟩
        have h3 := congrArg (List.drop 1) h2.2
        rw [List.drop_drop] at h3
        simpa using h3
      · rw [esc_other hb] at h2
        simp only [List.cons_append, List.cons.injEq] at h2
        exact absurd (h2.1.symm.trans hc) hb
  · omega
theorem Rel.stop (h : Rel L i l) (hi : i < L.length) (hc : L[i] = 0) (hn : L[i + 1]? = some 1) : Rel L (L.length + 1) l := by
  intro t0 t e
  rcases h t0 t e with ⟨B, h1, h2⟩ | ⟨_, h2⟩
  · right
    rw [List.drop_eq_getElem_cons hi] at h2
    cases B with
    | nil => exact ⟨by rw [h1, List.append_nil], by omega⟩
    | cons b B =>
      by_cases hb : b = 0
      · rw [hb, esc_zero] at h2
        simp only [List.cons_append, List.cons.injEq] at h2
        have := (next_get h2.2).symm.trans hn
        simp at this
      · rw [esc_other hb] at h2
        simp only [List.cons_append, List.cons.injEq] at h2
        exact absurd (h2.1.symm.trans hc) hb
  · omega
theorem Rel.done (h : Rel L i l) (hi : L.length ≤ i) (t0 t : List UInt8) (e : L = esc t0 ++ 0 :: 1 :: t) : l = t0 := by
  rcases h t0 t e with ⟨B, _, h2⟩ | ⟨h1, _⟩
  · rw [List.drop_of_length_le hi] at h2
    have := congrArg List.length h2
    simp at this
  · exact h1
end
/-- The text that the bytes of a row of the call's own make, an empty one too. -/
theorem str_own {w : World} {base : Nat} {l : List UInt8} {v : Value} (h : w.ownsRow base 5 1 v l.length (Lib.byteCells l)) :
    (convert 55 9 v).run Tryd.prog w = .ok (.string (S l)) w := by
  cases l with
  | nil =>
    rcases h.2 with ⟨hv, _⟩ | ⟨g, cap, cur, hv, _⟩
    · subst hv; exact run_convert_bytes_nil w _ _ Tryd.underlying55 Tryd.underlying5 0 0 _ Tryd.underlying9
    · subst hv
      exact run_convert_bytes_back (P := Tryd.prog) w _ _ _ _ _ [] Tryd.underlying55 Tryd.underlying5 Tryd.underlying9 (fun j hj => by cases hj)
  | cons c l => exact str_of_own h rfl (by simp)
/-- The row of bytes that grows, beside the two boxes. -/
structure Tst (w : World) (k : Int) (l : List UInt8) (v : Value) (u : World) : Prop where
  own : u.ownsRow (w.heap.size + 2) 5 1 v l.length (Lib.byteCells l)
  box : Ref.Gst w k 0 0 u
theorem Tst.put {w u u' w1 : World} {k : Int} {l : List UInt8} {v v' : Value} (h : Tst w k l v u) (hb : Below u.heap.size u u') (c : UInt8) (hown : w1.ownsRow (w.heap.size + 2) 5 1 v' (l.length + 1) (Lib.byteCells l ++ [.int .u8 (c.toNat : Int)])) (hg : u'.grownBy w1 v.ownBlock) : Tst w k (l ++ [c]) v' w1 := by
  have hk : ∀ j, v.ownBlock = some j → w.heap.size + 2 ≤ j := fun j hj => (h.own.lt j hj).1
  obtain ⟨b1, b2, b3, b4⟩ := h.box.later hb
  refine ⟨?_, ?_, ?_, ?_, ?_⟩
  · rw [List.length_append, Lib.byteCells_append]; exact hown
  · exact b1.grown hg (by omega) (fun j hj => by have := hk j hj; omega)
  · exact Nat.le_trans b2 hg.size
  · unfold Ref.Vb; rw [hg.block _ b3.lt (fun e => by have := hk _ e.symm; omega)]; exact b3
  · unfold Ref.Vb; rw [hg.block _ b4.lt (fun e => by have := hk _ e.symm; omega)]; exact b4
open Ref in
set_option maxRecDepth 100000 in
set_option maxHeartbeats 4000000 in
theorem guess_text4 (s : ByteArray) (w : World) (h0 : 0 < s.size) (hs : s.size ≤ 1000000) (hc : (s[0].toNat : Int) = 5) :
    Calls Tryd.prog 50 #[.string s] w (GOut s w) := by
  obtain ⟨i0, hi0, hz0, hz1, hz2⟩ := info_parts (P := Tryd.prog) (e := 5) (z := .int .u8 0) (size := 1) (bytes := 1) (by kernel_rfl)
  have hpos : (0 : Int) < s.size := by omega
  have hs1 : (1 : Int) ≤ s.size := by omega
  have HC := Lib.hid hc
  have HT0 : Hid (Tst w 4 [] (.slice none 0 0) ((w.alloc (.cells #[.int .i64 0, .int .i64 0, .int .u64 0, .string ⟨#[]⟩] 25)).alloc (.cells #[.int .i64 4, .int .i64 0, .int .u64 0, .string ⟨#[]⟩] 25))) := Lib.hid ⟨World.ownsRow_nil _ _ _ _, gst_new w 4⟩
  obtain ⟨R0, hR0⟩ : ∃ R0, R0 = s.extract 1 s.size := ⟨_, rfl⟩
  have HR : Hid (R0 = s.extract 1 s.size) := Lib.hid hR0
  have hRs : R0.size ≤ 1000000 := by rw [hR0]; simp; omega
  have HRS := Lib.hid hRs
  go_enter Tryd.func50, Tryd.ntmps50
  clear hs hRs
  go_wp2_with fail
  rw [← hR0]
  have hRs := HRS.out
  clear hR0
  go_loopw [6, 7] (fun vv ii wr => ∃ (i : Nat) (l : List UInt8), ii = .int .i64 i ∧ i ≤ R0.size + 1 ∧ l.length ≤ i ∧ Hid (Rel R0.data.toList i l) ∧ Hid (Tst w 4 l vv wr)) (fun _ ii _ => (R0.size + 1 - (intOf ii).toNat))
  case atStart => exact ⟨0, [], rfl, by omega, by simp, Lib.hid (Rel.start _), HT0⟩
  case round =>
    clear HT0
    obtain ⟨i, l, rfl, his, hli, HL, HT⟩ := hrel
    obtain ⟨ao, n', cap, rfl⟩ : ∃ ao n' cap, u6 = .slice ao n' cap := by
      rcases HT.out.own.2 with ⟨hv, _⟩ | ⟨g, cap, cur, hv, _⟩
      · exact ⟨_, _, _, hv⟩
      · exact ⟨_, _, _, hv⟩
    have hlen : R0.data.toList.length = R0.size := by simp
    rcases Nat.lt_or_ge i R0.size with h1 | h1
    · have f1 : (i : Int) < R0.size := by omega
      have hiL : i < R0.data.toList.length := by omega
      have hgi : R0.data.toList[i] = R0[i] := byte_get R0 i h1
      obtain ⟨c, hcc⟩ : ∃ c, c = R0[i] := ⟨_, rfl⟩
      have hw1 : IntKind.i64.wrap ((i : Int) + 1) = (i : Int) + 1 := by rw [IntKind.wrap_i64]; omega
      have hw5 : (0 : Int) ≤ (i : Int) + 1 := by omega
      have hw6 : ((i : Int) + 1).toNat = i + 1 := by omega
      have HLEN := Lib.hid hlen
      have HCC := Lib.hid hcc
      have HGI := Lib.hid hgi
      clear hlen hgi
      by_cases hz : c = 0
      · have g : ((R0[i].toNat : Int) == 0) = true := by rw [← hcc, hz]; rfl
        have g' : ((c.toNat : Int) == 0) = true := by rw [hz]; rfl
        rw [← hcc] at g
        have hcz : R0[i] = c := hcc.symm
        have HZ := Lib.hid hz
        clear hz hcc
        rcases Nat.lt_or_ge (i + 1) R0.size with h2 | h2
        · have f2 : (i : Int) + 1 < R0.size := by omega
          have hgj : R0.data.toList[i + 1]? = some R0[i + 1] := by
            rw [List.getElem?_eq_getElem (by have := HLEN.out; omega)]
            exact congrArg some (byte_get R0 (i + 1) h2)
          have HGJ := Lib.hid hgj
          clear hgj
          by_cases hd : R0[i + 1] = 1
          · have g2 : ((R0[i + 1].toNat : Int) == 1) = true := by rw [hd]; rfl
            have HL2 : Hid (Rel R0.data.toList (R0.size + 1) l) := Lib.hid (by
              have := HL.out.stop hiL (by rw [HGI.out, ← HCC.out, HZ.out]) (by rw [HGJ.out, hd])
              rwa [HLEN.out] at this)
            clear hd
            go_wp2_with fail
            go_roundw
            case rel => exact ⟨R0.size + 1, l, by go_num, by omega, by omega, HL2, HT⟩
            case measure => simp [intOf]; omega
          · have g2 : ((R0[i + 1].toNat : Int) == 1) = false := by
              rw [Bool.eq_false_iff]; intro q
              exact hd (UInt8.toNat_inj.1 (by have := eq_of_beq q; have e9 : (1 : UInt8).toNat = 1 := rfl; omega))
            have HL2 : Hid (Rel R0.data.toList (i + 2) (l ++ [c])) := Lib.hid (by
              rw [HZ.out]
              exact HL.out.zero hiL (by rw [HGI.out, ← HCC.out, HZ.out]) (by rw [HGJ.out]; intro q; exact hd (Option.some.inj q)))
            clear hd
            go_wp2_with (at_builtin; refine wpList_append_own _ rfl _ _ 55 rfl (w.heap.size + 2) 5 i0 (.int .u8 0) 1 1 Tryd.underlying55 hi0 hz0 hz1 hz2 rfl (by decide) _ _ _ rfl (HT.out.own.alloc _) ⟨wr.heap.size, 0, none⟩ 1 1 [.int .u8 (c.toNat : Int)] rfl rfl ?c1_1 ?c2_1 ?c3_1 ?c4_1 ?c5_1 ?_)
            try (case c1_1 => (intro j u hj; obtain ⟨rfl, rfl⟩ := cell_one _ j u hj; simp [Addr.add]))
            case c2_1 => first | rfl | (intro u hu; simp at hu; subst hu; rfl)
            case c3_1 => unfold maxLen; omega
            case c4_1 => omega
            case c5_1 => have := HT.out.box.2.1; simp; omega
            intro v' w1 hown hgrow _
            have HT2 := Lib.hid (HT.out.put ((Below.refl wr.heap.size wr).alloc (Nat.le_refl _) (.cells #[.int .u8 (c.toNat : Int)] 5)) c hown hgrow)
            clear hown hgrow
            go_wp2_with fail
            go_roundw
            case rel => exact ⟨i + 2, l ++ [c], by go_num, by omega, by simp; omega, HL2, HT2⟩
            case measure => simp [intOf]; omega
        · have f2 : ¬ (i : Int) + 1 < R0.size := by omega
          have HL2 : Hid (Rel R0.data.toList (i + 2) (l ++ [c])) := Lib.hid (by
            rw [HZ.out]
            exact HL.out.zero hiL (by rw [HGI.out, ← HCC.out, HZ.out]) (by rw [List.getElem?_eq_none (by have := HLEN.out; omega)]; simp))
          go_wp2_with (at_builtin; refine wpList_append_own _ rfl _ _ 55 rfl (w.heap.size + 2) 5 i0 (.int .u8 0) 1 1 Tryd.underlying55 hi0 hz0 hz1 hz2 rfl (by decide) _ _ _ rfl (HT.out.own.alloc _) ⟨wr.heap.size, 0, none⟩ 1 1 [.int .u8 (c.toNat : Int)] rfl rfl ?c1_2 ?c2_2 ?c3_2 ?c4_2 ?c5_2 ?_)
          try (case c1_2 => (intro j u hj; obtain ⟨rfl, rfl⟩ := cell_one _ j u hj; simp [Addr.add]))
          case c2_2 => first | rfl | (intro u hu; simp at hu; subst hu; rfl)
          case c3_2 => unfold maxLen; omega
          case c4_2 => omega
          case c5_2 => have := HT.out.box.2.1; simp; omega
          intro v' w1 hown hgrow _
          have HT2 := Lib.hid (HT.out.put ((Below.refl wr.heap.size wr).alloc (Nat.le_refl _) (.cells #[.int .u8 (c.toNat : Int)] 5)) c hown hgrow)
          clear hown hgrow
          go_wp2_with fail
          go_roundw
          case rel => exact ⟨i + 2, l ++ [c], by go_num, by omega, by simp; omega, HL2, HT2⟩
          case measure => simp [intOf]; omega
      · have g : ((R0[i].toNat : Int) == 0) = false := by
          rw [Bool.eq_false_iff]; intro q
          exact hz (UInt8.toNat_inj.1 (by have := eq_of_beq q; rw [hcc]; have e9 : (0 : UInt8).toNat = 0 := rfl; omega))
        rw [← hcc] at g
        have hcz : R0[i] = c := hcc.symm
        have HL2 : Hid (Rel R0.data.toList (i + 1) (l ++ [c])) := Lib.hid (by
          have := HL.out.other hiL (by rw [HGI.out, ← hcc]; exact hz)
          rwa [HGI.out, ← hcc] at this)
        clear hz hcc
        go_wp2_with (at_builtin; refine wpList_append_own _ rfl _ _ 55 rfl (w.heap.size + 2) 5 i0 (.int .u8 0) 1 1 Tryd.underlying55 hi0 hz0 hz1 hz2 rfl (by decide) _ _ _ rfl (HT.out.own.alloc _) ⟨wr.heap.size, 0, none⟩ 1 1 [.int .u8 (c.toNat : Int)] rfl rfl ?c1_3 ?c2_3 ?c3_3 ?c4_3 ?c5_3 ?_)
        try (case c1_3 => (intro j u hj; obtain ⟨rfl, rfl⟩ := cell_one _ j u hj; simp [Addr.add]))
        case c2_3 => first | rfl | (intro u hu; simp at hu; subst hu; rfl)
        case c3_3 => unfold maxLen; omega
        case c4_3 => omega
        case c5_3 => have := HT.out.box.2.1; simp; omega
        intro v' w1 hown hgrow _
        have HT2 := Lib.hid (HT.out.put ((Below.refl wr.heap.size wr).alloc (Nat.le_refl _) (.cells #[.int .u8 (c.toNat : Int)] 5)) c hown hgrow)
        clear hown hgrow
        go_wp2_with fail
        go_roundw
        case rel => exact ⟨i + 1, l ++ [c], by go_num, by omega, by simp; omega, HL2, HT2⟩
        case measure => simp [intOf]; omega
    · have f1 : ¬ (i : Int) < R0.size := by omega
      have hstr := str_own HT.out.own
      have HD := Lib.hid (HL.out.done (by omega))
      have HB2 := Lib.hid (HT.out.box.2.2.1.other (a := ⟨w.heap.size + 1, 3, none⟩) (by simp) (.string (S l)))
      have HB1 := Lib.hid (HT.out.box.1.setCell (p := ⟨w.heap.size + 1, 3, none⟩) (by simp) (.string (S l)))
      obtain ⟨Q, hQ⟩ : ∃ Q, Q = S l := ⟨_, rfl⟩
      rw [← hQ] at hstr HB2 HB1
      have HQ := Lib.hid hQ
      clear hlen hQ
      have a0 := HT.out.box.2.2.1.c0
      have a1 := HT.out.box.2.2.1.c1
      have a2 := HT.out.box.2.2.1.c2
      have a3 := HT.out.box.2.2.1.c3
      have az := HT.out.box.2.2.1.z
      have k0 := HT.out.box.2.2.2.c0
      have k1 := HT.out.box.2.2.2.c1
      have k2 := HT.out.box.2.2.2.c2
      have k3 := HT.out.box.2.2.2.c3
      have kz := HT.out.box.2.2.2.z
      go_wp2_with fail
      have HP := Lib.hid (put4_vb (k := 4) (n := 0) (x := 0) (t := Q) HB2.out)
      have p0 := HP.out.c0
      have p1 := HP.out.c1
      have p2 := HP.out.c2
      have p3 := HP.out.c3
      show bodyPost _ _ _ _ _ (put4 (wr.setCell ⟨w.heap.size + 1, 3, none⟩ (.string Q)) w.heap.size (.int .i64 4) (.int .i64 0) (.int .u64 0) (.string Q))
      refine bodyPost_ret (v := .agg #[.int .i64 4, .int .i64 0, .int .u64 0, .string Q]) (by simp [results, Tryd.results50, go_sem, p0, p1, p2, p3]) rfl ?_
      refine ⟨⟨4, 0, 0, l⟩, by rw [HQ.out]; rfl, ⟨⟨by show _ ≤ (4 : Int); omega, by show (4 : Int) ≤ _; omega, by show _ ≤ (0 : Int); omega, by show (0 : Int) ≤ _; omega, by show (0 : Nat) < _; omega⟩, fun u t hr _ e => ?_⟩, put4_below _ _ _ _ _ (Nat.le_refl _) HB1.out⟩
      obtain ⟨hk, hl⟩ := head_of s h0 hr e
      obtain ⟨t0, rfl⟩ := (form_k hr).2.2.2.2.1 (by have := HC.out; omega)
      have e2 : rest ⟨4, 0, 0, t0⟩ = esc t0 ++ [0, 1] := rfl
      rw [e2, ← HR.out, List.append_assoc] at hl
      rw [HD.out t0 t hl]
open Ref in
set_option maxRecDepth 100000 in
set_option maxHeartbeats 4000000 in
theorem guess_text5 (s : ByteArray) (w : World) (h0 : 0 < s.size) (hs : s.size ≤ 1000000) (hc : (s[0].toNat : Int) = 6) :
    Calls Tryd.prog 50 #[.string s] w (GOut s w) := by
  obtain ⟨i0, hi0, hz0, hz1, hz2⟩ := info_parts (P := Tryd.prog) (e := 5) (z := .int .u8 0) (size := 1) (bytes := 1) (by kernel_rfl)
  have hpos : (0 : Int) < s.size := by omega
  have hs1 : (1 : Int) ≤ s.size := by omega
  have HC := Lib.hid hc
  have HT0 : Hid (Tst w 5 [] (.slice none 0 0) ((w.alloc (.cells #[.int .i64 0, .int .i64 0, .int .u64 0, .string ⟨#[]⟩] 25)).alloc (.cells #[.int .i64 5, .int .i64 0, .int .u64 0, .string ⟨#[]⟩] 25))) := Lib.hid ⟨World.ownsRow_nil _ _ _ _, gst_new w 5⟩
  obtain ⟨R0, hR0⟩ : ∃ R0, R0 = s.extract 1 s.size := ⟨_, rfl⟩
  have HR : Hid (R0 = s.extract 1 s.size) := Lib.hid hR0
  have hRs : R0.size ≤ 1000000 := by rw [hR0]; simp; omega
  have HRS := Lib.hid hRs
  go_enter Tryd.func50, Tryd.ntmps50
  clear hs hRs
  go_wp2_with fail
  rw [← hR0]
  have hRs := HRS.out
  clear hR0
  go_loopw [6, 7] (fun vv ii wr => ∃ (i : Nat) (l : List UInt8), ii = .int .i64 i ∧ i ≤ R0.size + 1 ∧ l.length ≤ i ∧ Hid (Rel R0.data.toList i l) ∧ Hid (Tst w 5 l vv wr)) (fun _ ii _ => (R0.size + 1 - (intOf ii).toNat))
  case atStart => exact ⟨0, [], rfl, by omega, by simp, Lib.hid (Rel.start _), HT0⟩
  case round =>
    clear HT0
    obtain ⟨i, l, rfl, his, hli, HL, HT⟩ := hrel
    obtain ⟨ao, n', cap, rfl⟩ : ∃ ao n' cap, u6 = .slice ao n' cap := by
      rcases HT.out.own.2 with ⟨hv, _⟩ | ⟨g, cap, cur, hv, _⟩
      · exact ⟨_, _, _, hv⟩
      · exact ⟨_, _, _, hv⟩
    have hlen : R0.data.toList.length = R0.size := by simp
    rcases Nat.lt_or_ge i R0.size with h1 | h1
    · have f1 : (i : Int) < R0.size := by omega
      have hiL : i < R0.data.toList.length := by omega
      have hgi : R0.data.toList[i] = R0[i] := byte_get R0 i h1
      obtain ⟨c, hcc⟩ : ∃ c, c = R0[i] := ⟨_, rfl⟩
      have hw1 : IntKind.i64.wrap ((i : Int) + 1) = (i : Int) + 1 := by rw [IntKind.wrap_i64]; omega
      have hw5 : (0 : Int) ≤ (i : Int) + 1 := by omega
      have hw6 : ((i : Int) + 1).toNat = i + 1 := by omega
      have HLEN := Lib.hid hlen
      have HCC := Lib.hid hcc
      have HGI := Lib.hid hgi
      clear hlen hgi
      by_cases hz : c = 0
      · have g : ((R0[i].toNat : Int) == 0) = true := by rw [← hcc, hz]; rfl
        have g' : ((c.toNat : Int) == 0) = true := by rw [hz]; rfl
        rw [← hcc] at g
        have hcz : R0[i] = c := hcc.symm
        have HZ := Lib.hid hz
        clear hz hcc
        rcases Nat.lt_or_ge (i + 1) R0.size with h2 | h2
        · have f2 : (i : Int) + 1 < R0.size := by omega
          have hgj : R0.data.toList[i + 1]? = some R0[i + 1] := by
            rw [List.getElem?_eq_getElem (by have := HLEN.out; omega)]
            exact congrArg some (byte_get R0 (i + 1) h2)
          have HGJ := Lib.hid hgj
          clear hgj
          by_cases hd : R0[i + 1] = 1
          · have g2 : ((R0[i + 1].toNat : Int) == 1) = true := by rw [hd]; rfl
            have HL2 : Hid (Rel R0.data.toList (R0.size + 1) l) := Lib.hid (by
              have := HL.out.stop hiL (by rw [HGI.out, ← HCC.out, HZ.out]) (by rw [HGJ.out, hd])
              rwa [HLEN.out] at this)
            clear hd
            go_wp2_with fail
            go_roundw
            case rel => exact ⟨R0.size + 1, l, by go_num, by omega, by omega, HL2, HT⟩
            case measure => simp [intOf]; omega
          · have g2 : ((R0[i + 1].toNat : Int) == 1) = false := by
              rw [Bool.eq_false_iff]; intro q
              exact hd (UInt8.toNat_inj.1 (by have := eq_of_beq q; have e9 : (1 : UInt8).toNat = 1 := rfl; omega))
            have HL2 : Hid (Rel R0.data.toList (i + 2) (l ++ [c])) := Lib.hid (by
              rw [HZ.out]
              exact HL.out.zero hiL (by rw [HGI.out, ← HCC.out, HZ.out]) (by rw [HGJ.out]; intro q; exact hd (Option.some.inj q)))
            clear hd
            go_wp2_with (at_builtin; refine wpList_append_own _ rfl _ _ 55 rfl (w.heap.size + 2) 5 i0 (.int .u8 0) 1 1 Tryd.underlying55 hi0 hz0 hz1 hz2 rfl (by decide) _ _ _ rfl (HT.out.own.alloc _) ⟨wr.heap.size, 0, none⟩ 1 1 [.int .u8 (c.toNat : Int)] rfl rfl ?c1_4 ?c2_4 ?c3_4 ?c4_4 ?c5_4 ?_)
            try (case c1_4 => (intro j u hj; obtain ⟨rfl, rfl⟩ := cell_one _ j u hj; simp [Addr.add]))
            case c2_4 => first | rfl | (intro u hu; simp at hu; subst hu; rfl)
            case c3_4 => unfold maxLen; omega
            case c4_4 => omega
            case c5_4 => have := HT.out.box.2.1; simp; omega
            intro v' w1 hown hgrow _
            have HT2 := Lib.hid (HT.out.put ((Below.refl wr.heap.size wr).alloc (Nat.le_refl _) (.cells #[.int .u8 (c.toNat : Int)] 5)) c hown hgrow)
            clear hown hgrow
            go_wp2_with fail
            go_roundw
            case rel => exact ⟨i + 2, l ++ [c], by go_num, by omega, by simp; omega, HL2, HT2⟩
            case measure => simp [intOf]; omega
        · have f2 : ¬ (i : Int) + 1 < R0.size := by omega
          have HL2 : Hid (Rel R0.data.toList (i + 2) (l ++ [c])) := Lib.hid (by
            rw [HZ.out]
            exact HL.out.zero hiL (by rw [HGI.out, ← HCC.out, HZ.out]) (by rw [List.getElem?_eq_none (by have := HLEN.out; omega)]; simp))
          go_wp2_with (at_builtin; refine wpList_append_own _ rfl _ _ 55 rfl (w.heap.size + 2) 5 i0 (.int .u8 0) 1 1 Tryd.underlying55 hi0 hz0 hz1 hz2 rfl (by decide) _ _ _ rfl (HT.out.own.alloc _) ⟨wr.heap.size, 0, none⟩ 1 1 [.int .u8 (c.toNat : Int)] rfl rfl ?c1_5 ?c2_5 ?c3_5 ?c4_5 ?c5_5 ?_)
          try (case c1_5 => (intro j u hj; obtain ⟨rfl, rfl⟩ := cell_one _ j u hj; simp [Addr.add]))
          case c2_5 => first | rfl | (intro u hu; simp at hu; subst hu; rfl)
          case c3_5 => unfold maxLen; omega
          case c4_5 => omega
          case c5_5 => have := HT.out.box.2.1; simp; omega
          intro v' w1 hown hgrow _
          have HT2 := Lib.hid (HT.out.put ((Below.refl wr.heap.size wr).alloc (Nat.le_refl _) (.cells #[.int .u8 (c.toNat : Int)] 5)) c hown hgrow)
          clear hown hgrow
          go_wp2_with fail
          go_roundw
          case rel => exact ⟨i + 2, l ++ [c], by go_num, by omega, by simp; omega, HL2, HT2⟩
          case measure => simp [intOf]; omega
      · have g : ((R0[i].toNat : Int) == 0) = false := by
          rw [Bool.eq_false_iff]; intro q
          exact hz (UInt8.toNat_inj.1 (by have := eq_of_beq q; rw [hcc]; have e9 : (0 : UInt8).toNat = 0 := rfl; omega))
        rw [← hcc] at g
        have hcz : R0[i] = c := hcc.symm
        have HL2 : Hid (Rel R0.data.toList (i + 1) (l ++ [c])) := Lib.hid (by
          have := HL.out.other hiL (by rw [HGI.out, ← hcc]; exact hz)
          rwa [HGI.out, ← hcc] at this)
        clear hz hcc
        go_wp2_with (at_builtin; refine wpList_append_own _ rfl _ _ 55 rfl (w.heap.size + 2) 5 i0 (.int .u8 0) 1 1 Tryd.underlying55 hi0 hz0 hz1 hz2 rfl (by decide) _ _ _ rfl (HT.out.own.alloc _) ⟨wr.heap.size, 0, none⟩ 1 1 [.int .u8 (c.toNat : Int)] rfl rfl ?c1_6 ?c2_6 ?c3_6 ?c4_6 ?c5_6 ?_)
        try (case c1_6 => (intro j u hj; obtain ⟨rfl, rfl⟩ := cell_one _ j u hj; simp [Addr.add]))
        case c2_6 => first | rfl | (intro u hu; simp at hu; subst hu; rfl)
        case c3_6 => unfold maxLen; omega
        case c4_6 => omega
        case c5_6 => have := HT.out.box.2.1; simp; omega
        intro v' w1 hown hgrow _
        have HT2 := Lib.hid (HT.out.put ((Below.refl wr.heap.size wr).alloc (Nat.le_refl _) (.cells #[.int .u8 (c.toNat : Int)] 5)) c hown hgrow)
        clear hown hgrow
        go_wp2_with fail
        go_roundw
        case rel => exact ⟨i + 1, l ++ [c], by go_num, by omega, by simp; omega, HL2, HT2⟩
        case measure => simp [intOf]; omega
    · have f1 : ¬ (i : Int) < R0.size := by omega
      have hstr := str_own HT.out.own
      have HD := Lib.hid (HL.out.done (by omega))
      have HB2 := Lib.hid (HT.out.box.2.2.1.other (a := ⟨w.heap.size + 1, 3, none⟩) (by simp) (.string (S l)))
      have HB1 := Lib.hid (HT.out.box.1.setCell (p := ⟨w.heap.size + 1, 3, none⟩) (by simp) (.string (S l)))
      obtain ⟨Q, hQ⟩ : ∃ Q, Q = S l := ⟨_, rfl⟩
      rw [← hQ] at hstr HB2 HB1
      have HQ := Lib.hid hQ
      clear hlen hQ
      have a0 := HT.out.box.2.2.1.c0
      have a1 := HT.out.box.2.2.1.c1
      have a2 := HT.out.box.2.2.1.c2
      have a3 := HT.out.box.2.2.1.c3
      have az := HT.out.box.2.2.1.z
      have k0 := HT.out.box.2.2.2.c0
      have k1 := HT.out.box.2.2.2.c1
      have k2 := HT.out.box.2.2.2.c2
      have k3 := HT.out.box.2.2.2.c3
      have kz := HT.out.box.2.2.2.z
      go_wp2_with fail
      have HP := Lib.hid (put4_vb (k := 5) (n := 0) (x := 0) (t := Q) HB2.out)
      have p0 := HP.out.c0
      have p1 := HP.out.c1
      have p2 := HP.out.c2
      have p3 := HP.out.c3
      show bodyPost _ _ _ _ _ (put4 (wr.setCell ⟨w.heap.size + 1, 3, none⟩ (.string Q)) w.heap.size (.int .i64 5) (.int .i64 0) (.int .u64 0) (.string Q))
      refine bodyPost_ret (v := .agg #[.int .i64 5, .int .i64 0, .int .u64 0, .string Q]) (by simp [results, Tryd.results50, go_sem, p0, p1, p2, p3]) rfl ?_
      refine ⟨⟨5, 0, 0, l⟩, by rw [HQ.out]; rfl, ⟨⟨by show _ ≤ (5 : Int); omega, by show (5 : Int) ≤ _; omega, by show _ ≤ (0 : Int); omega, by show (0 : Int) ≤ _; omega, by show (0 : Nat) < _; omega⟩, fun u t hr _ e => ?_⟩, put4_below _ _ _ _ _ (Nat.le_refl _) HB1.out⟩
      obtain ⟨hk, hl⟩ := head_of s h0 hr e
      obtain ⟨t0, rfl⟩ := (form_k hr).2.2.2.2.2 (by have := HC.out; omega)
      have e2 : rest ⟨5, 0, 0, t0⟩ = esc t0 ++ [0, 1] := rfl
      rw [e2, ← HR.out, List.append_assoc] at hl
      rw [HD.out t0 t hl]
theorem guess_any (s : ByteArray) (w : World) (h0 : 0 < s.size) (hs : s.size ≤ 1000000) :
    Calls Tryd.prog 50 #[.string s] w (GOut s w) := by
  by_cases g1 : (s[0].toNat : Int) = 2
  · exact guess_bool s w h0 g1
  by_cases g2 : (s[0].toNat : Int) = 3
  · exact guess_int s w h0 hs g2
  by_cases g3 : (s[0].toNat : Int) = 4
  · exact guess_float s w h0 hs g3
  by_cases g4 : (s[0].toNat : Int) = 5
  · exact guess_text4 s w h0 hs g4
  by_cases g5 : (s[0].toNat : Int) = 6
  · exact guess_text5 s w h0 hs g5
  exact guess_none s w h0 (by rw [beq_eq_false_iff_ne]; omega) (by rw [beq_eq_false_iff_ne]; omega) (by rw [beq_eq_false_iff_ne]; omega) (by rw [beq_eq_false_iff_ne]; omega) (by rw [beq_eq_false_iff_ne]; omega)
theorem Sofar.value {s0 s : ByteArray} {vs : List V} (h : Sofar s0 s vs) (c : UInt8) (r : List UInt8) (hs : s.data.toList = c :: r) (hc : c ≠ 0) (us : List V) (hg : Good us) (hb : body us = s0.data.toList) :
    vs.length < 8 ∧ ∃ u X, u.right = true ∧ u.inn ∧ s.data.toList = one u ++ X ∧ vs ++ [u] = us.take (vs.length + 1) ∧ X = body (us.drop (vs.length + 1)) := by
  obtain ⟨h1, h2⟩ := h us hg hb
  have hl : vs.length < us.length := by
    rcases Nat.lt_or_ge vs.length us.length with q | q
    · exact q
    · exfalso
      rw [List.drop_of_length_le q, body_nil_head, hs] at h2
      simp only [List.cons.injEq] at h2
      exact hc h2.1
  have hu : us[vs.length] ∈ us := List.getElem_mem hl
  rw [List.drop_eq_getElem_cons hl, body_cons] at h2
  refine ⟨by have := hg.len; omega, us[vs.length], _, hg.right _ hu, hg.2 _ hu, h2, ?_, rfl⟩
  rw [List.take_succ_eq_append_getElem hl, ← h1]
theorem one_pos (v : V) : 1 ≤ (one v).length := by unfold one; simp
theorem cut_front (s : ByteArray) (n : Nat) : (s.extract 0 n).toList = s.data.toList.take n := by
  rw [Lib.extract_toList]
  simp
theorem cut_back (s : ByteArray) (n : Nat) : (s.extract n s.size).data.toList = s.data.toList.drop n := by
  have := Lib.extract_toList s n s.size
  rw [ByteArray.toList_eq] at this
  rw [this, List.take_of_length_le (by simp)]
def NoKey (s : ByteArray) : Prop := ∀ us, Good us → body us ≠ s.data.toList
set_option maxRecDepth 100000 in
set_option maxHeartbeats 4000000 in
theorem rparse_any (s0 : ByteArray) (hs0 : s0.size ≤ 1000000) (w : World) :
    Calls Tryd.prog 24 #[.string s0] w (POut s0 w) := by
  obtain ⟨i0, hi, hz0, hz1, hz2⟩ : ∃ i, Tryd.prog.info? 25 = some i ∧ i.zero = some (.agg #[.int .i64 0, .int .i64 0, .int .u64 0, .string ⟨#[]⟩]) ∧ i.size = 4 ∧ i.bytes = 40 := by
    have h := infoV
    cases hi : Tryd.prog.info? 25 with
    | none => rw [hi] at h; cases h
    | some i => rw [hi] at h; simp only [Option.map_some, Option.some.injEq, Prod.mk.injEq] at h; exact ⟨i, rfl, h.1, h.2.1, h.2.2⟩
  have H0 := Lib.hid hs0
  clear hs0
  go_enter Tryd.func24, Tryd.ntmps24
  go_wp2_with fail
  go_loopw [4, 5] (fun lv sv wr => ∃ (s : ByteArray) (vs : List V), sv = .string s ∧ s.size ≤ 1000000 ∧ vs.length ≤ 8 ∧ Hid (∀ x ∈ vs, x.right = true ∧ x.inn) ∧ Hid (s0.data.toList = vs.flatMap one ++ s.data.toList) ∧ Hid (Own w.heap.size vs lv wr) ∧ Hid (Below w.heap.size w wr) ∧ Hid (Sofar s0 s vs)) (fun _ sv _ => strLen sv)
  case atStart => exact ⟨s0, [], rfl, H0.out, by simp, Lib.hid (by simp), Lib.hid (by simp), Lib.hid (World.ownsRow_nil _ _ _ _), Lib.hid (Below.refl _ _), Lib.hid (Sofar.start s0)⟩
  case round =>
    obtain ⟨s, vs, rfl, hs, hv8, HI, HX, HO, HB, HS⟩ := hrel
    obtain ⟨ao, n', cap, rfl, hn'⟩ : ∃ ao n' cap, u4 = .slice ao n' cap ∧ n' = vs.length := by
      rcases HO.out.2 with ⟨hv, h0⟩ | ⟨g, cap, cur, hv, _⟩
      · exact ⟨_, _, _, hv, h0.symm⟩
      · exact ⟨_, _, _, hv, rfl⟩
    subst hn'
    rcases hsl : s.data.toList with _ | ⟨c, r⟩
    · have hz : s.size = 0 := by
        have : s.data.toList.length = s.size := by simp
        rw [hsl] at this
        simpa using this.symm
      have f0 : ¬ (0 : Int) < s.size := by omega
      have HN : Hid (NoKey s0) := Lib.hid (fun us h1 h2 => by
        obtain ⟨_, h3⟩ := HS.out us h1 h2
        rw [hsl] at h3
        have := body_pos (us.drop vs.length)
        rw [← h3] at this
        simp at this)
      have g : (s.toList == [0]) = false := by rw [ByteArray.toList_eq, hsl]; rfl
      have g' : (s.toList != [0]) = true := by rw [ByteArray.toList_eq, hsl]; rfl
      clear hsl hz
      go_wp2_with fail
      go_ret2
      exact .inr ⟨HN.out, rfl, HB.out⟩
    · obtain ⟨h0, hc, hsz⟩ := Rd.list_of s hsl
      have hpos : (0 : Int) < s.size := by omega
      rcases Decidable.em (c = 0) with hc0 | hc0
      · have g2 : ((s[0].toNat : Int) != 0) = false := by rw [hc, hc0]; rfl
        have HA : Hid (∀ us, Good us → body us = s0.data.toList → vs = us) := Lib.hid (HS.out.all (.inr (.inl ⟨r, by rw [hsl, hc0]⟩)))
        by_cases hr : r = []
        · have g : (s.toList == [0]) = true := by rw [ByteArray.toList_eq, hsl, hc0, hr]; rfl
          have g' : (s.toList != [0]) = false := by rw [ByteArray.toList_eq, hsl, hc0, hr]; rfl
          have HG : Hid (Good vs ∧ body vs = s0.data.toList) := Lib.hid (by
            refine ⟨⟨?_, fun x hx => (HI.out x hx).2⟩, ?_⟩
            · unfold isK
              rw [decide_eq_true hv8, List.all_eq_true.2 (fun x hx => (HI.out x hx).1)]; rfl
            · rw [HX.out, hsl, hc0, hr]; rfl)
          clear hsl hc hc0 hr
          go_wp2_with fail
          go_ret2
          exact .inl ⟨vs, _, HG.out.1, HG.out.2, rfl, HO.out, HB.out⟩
        · have hne : ¬ s.data.toList = [0] := by
            rw [hsl]; intro q
            simp only [List.cons.injEq] at q
            exact hr q.2
          have g : (s.toList == [0]) = false := by rw [ByteArray.toList_eq]; simpa using hne
          have g' : (s.toList != [0]) = true := by rw [ByteArray.toList_eq]; simpa using hne
          have HN : Hid (NoKey s0) := Lib.hid (fun us h1 h2 => by
            have h3 := HA.out us h1 h2
            subst h3
            rw [HX.out] at h2
            unfold body at h2
            exact hne (List.append_cancel_left h2).symm)
          clear hsl hc hc0 hr hne
          go_wp2_with fail
          go_ret2
          exact .inr ⟨HN.out, rfl, HB.out⟩
      · have g2 : ((s[0].toNat : Int) != 0) = true := by
          rw [hc, bne_iff_ne]; intro q
          exact hc0 (UInt8.toNat_inj.1 (by have e9 : (0 : UInt8).toNat = 0 := rfl; omega))
        have HNX : Hid (∀ us, Good us → body us = s0.data.toList → vs.length < 8 ∧ ∃ u X, u.right = true ∧ u.inn ∧ s.data.toList = one u ++ X ∧ vs ++ [u] = us.take (vs.length + 1) ∧ X = body (us.drop (vs.length + 1))) := Lib.hid (HS.out.value c r hsl hc0)
        have hgs := fun u => guess_any s u h0 hs
        clear hc hsl hc0 hsz
        go_wp2_with fail
        refine (hgs _).mono ?_
        rintro e w1 ⟨v, rfl, ⟨hvi, hvu⟩, hb1⟩
        have HVI := Lib.hid hvi
        have HVU := Lib.hid hvu
        have HB1 := Lib.hid (HB.out.trans (hb1.mono HB.out.size))
        have HO1 := Lib.hid (owns_later HO.out hb1)
        have HV1 := Lib.hid (Ref.Vb.new w1 v.k v.n v.b (S v.s))
        have HBA := Lib.hid (HB1.out.alloc HB1.out.size (.cells #[.int .i64 v.k, .int .i64 v.n, .int .u64 v.b, .string (S v.s)] 25))
        have HOA := Lib.hid (owns_later HO1.out ((Below.refl w1.heap.size w1).alloc (Nat.le_refl _) (.cells #[.int .i64 v.k, .int .i64 v.n, .int .u64 v.b, .string (S v.s)] 25)))
        have hR := fun u => rright_v v hvi.b u
        simp only [V.agg] at hR ⊢
        have hR2 := hR
        clear hvi hvu hb1 hgs hR
        rcases hvr : v.right with _ | _
        · have HN : Hid (NoKey s0) := Lib.hid (fun us h1 h2 => by
            obtain ⟨_, u, X, hr, hiu, hl, _⟩ := HNX.out us h1 h2
            have := HVU.out u X hr hiu hl
            rw [this, hr] at hvr; cases hvr)
          rw [hvr] at hR2
          clear hvr
          go_wp2_with fail
          refine (hR2 _).mono ?_
          rintro e w2 ⟨rfl, hb2⟩
          have HB2 := Lib.hid (HBA.out.trans (hb2.mono HBA.out.size))
          clear hb2 hR2
          go_wp2_with fail
          go_ret2
          exact .inr ⟨HN.out, rfl, HB2.out⟩
        · rw [hvr] at hR2
          have HVR := Lib.hid hvr
          clear hvr
          rcases Nat.lt_or_ge vs.length 8 with h8 | h8
          · have g8 : ((vs.length : Int) == 8) = false := by rw [beq_eq_false_iff_ne]; omega
            obtain ⟨E, hE⟩ : ∃ E, E = S (one v) := ⟨_, rfl⟩
            have hone := fun u => rone_any v HVR.out HVI.out u
            rw [← hE] at hone
            simp only [V.agg] at hone
            have hEs : E.size = (one v).length := by rw [hE, S_size]
            have hE1 : 1 ≤ E.size := by rw [hEs]; exact one_pos v
            have HE := Lib.hid hE
            have HES := Lib.hid hEs
            clear hE hEs
            go_wp2_with fail
            refine (hR2 _).mono ?_
            rintro e w2 ⟨rfl, hb2⟩
            have HB2 := Lib.hid (HBA.out.trans (hb2.mono HBA.out.size))
            have HO2 := Lib.hid (owns_later HOA.out hb2)
            have HV2 := Lib.hid (HV1.out.later hb2)
            clear hb2 hR2 HBA HOA HV1 HB1 HO1
            have q0 := HV2.out.c0
            have q1 := HV2.out.c1
            have q2 := HV2.out.c2
            have q3 := HV2.out.c3
            go_wp2_with fail
            refine (hone _).mono ?_
            rintro e w3 ⟨rfl, hb3⟩
            have HB3 := Lib.hid (HB2.out.trans (hb3.mono HB2.out.size))
            have HO3 := Lib.hid (owns_later HO2.out hb3)
            have HV3 := Lib.hid (HV2.out.later hb3)
            clear hb3 hone HB2 HO2 HV2 q0 q1 q2 q3
            have q0 := HV3.out.c0
            have q1 := HV3.out.c1
            have q2 := HV3.out.c2
            have q3 := HV3.out.c3
            rcases Nat.lt_or_ge s.size E.size with hbig | hfit
            · have f10 : (s.size : Int) < E.size := by omega
              have HN : Hid (NoKey s0) := Lib.hid (fun us h1 h2 => by
                obtain ⟨_, u, X, hr, hiu, hl, _⟩ := HNX.out us h1 h2
                have h3 := HVU.out u X hr hiu hl
                rw [← h3] at hl
                have h4 := congrArg List.length hl
                have h5 : s.data.toList.length = s.size := by simp
                rw [h5, List.length_append, ← HES.out] at h4
                omega)
              clear hbig
              go_wp2_with fail
              go_ret2
              exact .inr ⟨HN.out, rfl, HB3.out⟩
            · have f10 : ¬ (s.size : Int) < E.size := by omega
              have f11 : (E.size : Int) ≤ s.size := by omega
              by_cases heq : (s.extract 0 E.size).toList = E.toList
              · have g : ((s.extract 0 E.size).toList == E.toList) = true := by simpa using heq
                have g' : ((s.extract 0 E.size).toList != E.toList) = false := by simpa using heq
                have HEQ : Hid (s.data.toList = one v ++ (s.extract E.size s.size).data.toList) := Lib.hid (by
                  have h3 : E.toList = one v := by rw [HE.out, ByteArray.toList_eq]
                  rw [cut_front, h3] at heq
                  rw [cut_back]
                  conv => lhs; rw [← List.take_append_drop E.size s.data.toList, heq])
                have hVs : (s.extract E.size s.size).size = s.size - E.size := by simp
                have HVs := Lib.hid hVs
                have HO4 := HO3.out
                have hsz3 := HB3.out.size
                clear heq hVs
                go_wp2_with (at_builtin; refine wpList_append_own _ rfl _ _ 30 rfl w.heap.size 25 i0 (.agg #[.int .i64 0, .int .i64 0, .int .u64 0, .string ⟨#[]⟩]) 4 40 Tryd.underlying30 hi hz0 hz1 hz2 rfl (by decide) _ _ _ rfl (HO4.alloc _) ⟨w3.heap.size, 0, none⟩ 1 1 [.int .i64 v.k, .int .i64 v.n, .int .u64 v.b, .string (S v.s)] rfl rfl ?c1 ?c2 ?c3 ?c4 ?c5 ?_)
                case c1 =>
                  intro j y hj
                  rcases cell_four _ _ _ _ j y hj with ⟨rfl, rfl⟩ | ⟨rfl, rfl⟩ | ⟨rfl, rfl⟩ | ⟨rfl, rfl⟩
                  · exact (Ref.Vb.new w3 v.k v.n v.b (S v.s)).c0
                  · exact (Ref.Vb.new w3 v.k v.n v.b (S v.s)).c1
                  · exact (Ref.Vb.new w3 v.k v.n v.b (S v.s)).c2
                  · exact (Ref.Vb.new w3 v.k v.n v.b (S v.s)).c3
                case c2 => intro y hy; simp at hy; rcases hy with rfl | rfl | rfl | rfl <;> rfl
                case c3 => unfold maxLen; omega
                case c4 => omega
                case c5 => simp; omega
                intro v' w4 hown' hgrow _
                have hlt2 := World.ownsRow.lt HO4
                have HB4 := Lib.hid ((HB3.out.alloc hsz3 (.cells #[.int .i64 v.k, .int .i64 v.n, .int .u64 v.b, .string (S v.s)] 25)).grown hgrow (by simp; omega) (fun k hk => (hlt2 k hk).1))
                have HO5 : Hid (Own w.heap.size (vs ++ [v]) v' w4) := Lib.hid (by
                  unfold Own
                  rw [List.length_append, flat_snoc]
                  exact hown')
                have HI3 : Hid (∀ x ∈ vs ++ [v], x.right = true ∧ x.inn) := Lib.hid (by
                  intro x hx
                  rcases List.mem_append.1 hx with hx | hx
                  · exact HI.out x hx
                  · rw [List.mem_singleton.1 hx]; exact ⟨HVR.out, HVI.out⟩)
                have HX3 : Hid (s0.data.toList = (vs ++ [v]).flatMap one ++ (s.extract E.size s.size).data.toList) := Lib.hid (by
                  rw [HX.out, HEQ.out, List.flatMap_append]
                  simp)
                have HS3 : Hid (Sofar s0 (s.extract E.size s.size) (vs ++ [v])) := Lib.hid (by
                  intro us h1 h2
                  obtain ⟨_, u, X, hr, hiu, hl, htk, hX⟩ := HNX.out us h1 h2
                  have h3 := HVU.out u X hr hiu hl
                  rw [← h3] at hl htk
                  rw [HEQ.out] at hl
                  rw [List.length_append, List.length_singleton]
                  exact ⟨htk, by rw [List.append_cancel_left hl, hX]⟩)
                have HVS2 : (s.extract E.size s.size).size ≤ 1000000 := by rw [HVs.out]; omega
                have HVS3 : (s.extract E.size s.size).size < s.size := by rw [HVs.out]; omega
                clear hown' hgrow HO4 hlt2
                go_wp2_with fail
                go_roundw
                case rel => exact ⟨s.extract E.size s.size, vs ++ [v], rfl, HVS2, by simp; omega, HI3, HX3, HO5, HB4, HS3⟩
                case measure => exact HVS3
              · have g : ((s.extract 0 E.size).toList == E.toList) = false := by simpa using heq
                have g' : ((s.extract 0 E.size).toList != E.toList) = true := by simpa using heq
                have HN : Hid (NoKey s0) := Lib.hid (fun us h1 h2 => by
                  obtain ⟨_, u, X, hr, hiu, hl, _⟩ := HNX.out us h1 h2
                  have h3 := HVU.out u X hr hiu hl
                  rw [← h3] at hl
                  apply heq
                  rw [cut_front, hl, HES.out, List.take_left, HE.out, ByteArray.toList_eq])
                clear heq
                go_wp2_with fail
                go_ret2
                exact .inr ⟨HN.out, rfl, HB3.out⟩
          · have g8 : ((vs.length : Int) == 8) = true := by rw [beq_iff_eq]; omega
            have HN : Hid (NoKey s0) := Lib.hid (fun us h1 h2 => by
              have := (HNX.out us h1 h2).1
              omega)
            go_wp2_with fail
            refine (hR2 _).mono ?_
            rintro e w2 ⟨rfl, hb2⟩
            have HB2 := Lib.hid (HBA.out.trans (hb2.mono HBA.out.size))
            clear hb2 hR2
            go_wp2_with fail
            go_ret2
            exact .inr ⟨HN.out, rfl, HB2.out⟩
end Ky
end Go.Proofs.YtppdebhcaodcnaaDoor
