/- The document's own bytes (layer 1): at x. Conditions: the text has at most 2^40 bytes and begins so. -/
import Derived.Test.YtppdebhcaodcnaaDoorTo
namespace Go.Proofs.YtppdebhcaodcnaaDoor
open Go.RowKit
namespace Ref
theorem hex_len (L : List UInt8) : (L.flatMap Txt.hex2).length = 2 * L.length := by
  induction L with
  | nil => rfl
  | cons c L ih => simp only [List.flatMap_cons, List.length_append, ih, List.length_cons]; simp [Txt.hex2]; omega
theorem hex_at (L : List UInt8) : ∀ (j : Nat) (h : j < L.length), (L.flatMap Txt.hex2)[2 * j]? = some (Txt.hexd (L[j].toNat / 16)) ∧ (L.flatMap Txt.hex2)[2 * j + 1]? = some (Txt.hexd (L[j].toNat % 16)) := by
  induction L with
  | nil => intro j h; cases h
  | cons c L ih =>
    intro j h
    cases j with
    | zero => exact ⟨rfl, rfl⟩
    | succ j =>
      obtain ⟨h1, h2⟩ := ih j (by simpa using h)
      have e : (c :: L).flatMap Txt.hex2 = Txt.hexd (c.toNat / 16) :: Txt.hexd (c.toNat % 16) :: L.flatMap Txt.hex2 := rfl
      rw [e, show 2 * (j + 1) = 2 * j + 1 + 1 by omega]
      exact ⟨by simpa using h1, by simpa using h2⟩
theorem byte_at (s : ByteArray) (i : Nat) (h : i < s.size) : s.data.toList[i]? = some s[i] := by
  rw [List.getElem?_eq_getElem (by simpa using h)]
  simp [ByteArray.getElem_eq_getElem_data]
theorem hexbyte (s : ByteArray) (L : List UInt8) (e : s.data.toList = 120 :: L.flatMap Txt.hex2) (j : Nat) (hj : j < L.length) (i : Nat) (hi : i = 1 + 2 * j) (h : i + 1 < s.size) (h2 : i < s.size) :
    s[i] = Txt.hexd (L[j].toNat / 16) ∧ s[i + 1] = Txt.hexd (L[j].toNat % 16) := by
  subst hi
  obtain ⟨g1, g2⟩ := hex_at L j hj
  have b1 := byte_at s (1 + 2 * j) h2
  have b2 := byte_at s (1 + 2 * j + 1) h
  have c1 : s.data.toList[1 + 2 * j]? = some (Txt.hexd (L[j].toNat / 16)) := by rw [e, Nat.add_comm, List.getElem?_cons_succ]; exact g1
  have c2 : s.data.toList[1 + 2 * j + 1]? = some (Txt.hexd (L[j].toNat % 16)) := by rw [e, show 1 + 2 * j + 1 = (2 * j + 1) + 1 by omega, List.getElem?_cons_succ]; exact g2
  exact ⟨Option.some.inj (b1.symm.trans c1), Option.some.inj (b2.symm.trans c2)⟩
theorem un_byte (c : UInt8) (p q : Nat) (hp : p = c.toNat / 16) (hq : q = c.toNat % 16) : (16 * p + q).toUInt8 = c := by
  apply UInt8.toNat_inj.1
  have := c.toNat_lt
  show (16 * p + q) % 256 = c.toNat
  omega
set_option maxHeartbeats 4000000 in
set_option maxRecDepth 100000 in
theorem bytes_x (s : ByteArray) (w : World) (h0 : 0 < s.size) (hs : s.size ≤ 1099511627776) (c0 : ((s[0].toNat : Int) == 120) = true) :
    Calls Tryd.prog 68 #[.string s] w fun e w' => ∃ t : List UInt8, e = .returned (.agg #[.int .i64 4, .int .i64 0, .int .u64 0, .string (Cod.S t)]) ∧ (∀ L : List UInt8, s.data.toList = 120 :: L.flatMap Txt.hex2 → t = L) ∧ Below w.heap.size w w' := by
  obtain ⟨i0, hi0, hz0, hz1, hz2⟩ := info_parts (P := Tryd.prog) (e := 5) (z := .int .u8 0) (size := 1) (bytes := 1) (by kernel_rfl)
  have H0 := Lib.hid (Bst.start w)
  have hpos : (0 : Int) < s.size := by omega
  go_enter Tryd.func68, Tryd.ntmps68
  go_wp2_with fail
  go_loopw [3, 4] (fun v ii wr => ∃ (i : Nat) (l : List UInt8), ii = .int .i64 i ∧ i ≤ s.size ∧ Hid (i = 1 + 2 * l.length) ∧ l.length ≤ i ∧ Hid (∀ L : List UInt8, s.data.toList = 120 :: L.flatMap Txt.hex2 → l = L.take l.length) ∧ Hid (Bst w l v wr)) (fun _ ii _ => (s.size - intOf ii).toNat)
  case atStart => exact ⟨1, [], rfl, by omega, Lib.hid rfl, by simp, Lib.hid (fun L _ => by simp), H0⟩
  case round =>
    clear H0
    obtain ⟨i, l, rfl, his, HI, hli, HL, HG⟩ := hrel
    rcases Nat.lt_or_ge (i + 1) s.size with h1 | h1
    · have f1 : (i : Int) + 1 < (s.size : Int) := by omega
      have hiz : i < s.size := by omega
      obtain ⟨r1, hr1, hd1, hdig1⟩ := digit_is s[i]
      obtain ⟨r2, hr2, hd2, hdig2⟩ := digit_is s[i + 1]
      have HD1 := Lib.hid hd1
      have HD2 := Lib.hid hd2
      have HNX := Lib.hid (show (((16 * r1 + r2 : Nat)).toUInt8.toNat : Int) = 16 * (r1 : Int) + r2 by show ((((16 * r1 + r2) % 256 : Nat)) : Int) = _; omega)
      have hw1 : IntKind.i64.wrap ((i : Int) + 1) = (i : Int) + 1 := by rw [IntKind.wrap_i64]; omega
      have hw2 : IntKind.i64.wrap (16 * (r1 : Int)) = 16 * (r1 : Int) := by rw [IntKind.wrap_i64]; omega
      have hw3 : IntKind.i64.wrap (16 * (r1 : Int) + (r2 : Int)) = 16 * (r1 : Int) + (r2 : Int) := by rw [IntKind.wrap_i64]; omega
      have hw4 : IntKind.u8.wrap (16 * (r1 : Int) + (r2 : Int)) = 16 * (r1 : Int) + (r2 : Int) := by rw [IntKind.wrap_u8]; omega
      have hw5 : (0 : Int) ≤ (i : Int) + 1 := by omega
      have hw6 : ((i : Int) + 1).toNat = i + 1 := by omega
      clear hd1 hd2
      go_wp2_with fail
      refine wp_region_held_drew (S := fun _ => True) (by kernel_rfl) trivial (fun _ => ?_)
      refine Man.take1 (i := 0) (v := ?_) rfl (by kernel_rfl) (by kernel_rfl) (by kernel_rfl) (fun _ _ _ h => h) (by rfl) ?_ (trivial) ?_
      rotate_left
      · (intro u hSu; go_simp; (try with_reducible rfl))
      (try simp only [Act.put, List.setIfInBounds_toArray, List.set_cons_zero, List.set_cons_succ])
      refine Man.take1 (i := 1) (v := ?_) rfl (by kernel_rfl) (by kernel_rfl) (by kernel_rfl) (fun _ _ _ h => h) (by rfl) ?_ (trivial) ?_
      rotate_left
      · (intro u hSu; go_simp; (try with_reducible rfl))
      (try simp only [Act.put, List.setIfInBounds_toArray, List.set_cons_zero, List.set_cons_succ])
      refine Man.take1 (i := 2) (v := ?_) rfl (by kernel_rfl) (by kernel_rfl) (by kernel_rfl) (fun _ _ _ h => h) (by rfl) ?_ (trivial) ?_
      rotate_left
      · (intro u hSu; go_simp; (try with_reducible rfl))
      (try simp only [Act.put, List.setIfInBounds_toArray, List.set_cons_zero, List.set_cons_succ])
      refine Man.take1 (i := 3) (v := ?_) rfl (by kernel_rfl) (by kernel_rfl) (by kernel_rfl) (fun _ _ _ h => h) (by rfl) ?_ (trivial) ?_
      rotate_left
      · (intro u hSu; go_simp; (try with_reducible rfl))
      (try simp only [Act.put, List.setIfInBounds_toArray, List.set_cons_zero, List.set_cons_succ])
      refine Man.take1 (i := 6) (v := ?_) rfl (by kernel_rfl) (by kernel_rfl) (by kernel_rfl) (fun _ _ _ h => h) (by rfl) ?_ (trivial) ?_
      rotate_left
      · (intro u hSu; go_simp; (try with_reducible rfl))
      (try simp only [Act.put, List.setIfInBounds_toArray, List.set_cons_zero, List.set_cons_succ])
      refine Man.take1 (i := 7) (v := ?_) rfl (by kernel_rfl) (by kernel_rfl) (by kernel_rfl) (fun _ _ _ h => h) (by rfl) ?_ (trivial) ?_
      rotate_left
      · (intro u hSu; go_simp; (try with_reducible rfl))
      (try simp only [Act.put, List.setIfInBounds_toArray, List.set_cons_zero, List.set_cons_succ])
      refine Man.take1 (i := 8) (v := ?_) rfl (by kernel_rfl) (by kernel_rfl) (by kernel_rfl) (fun _ _ _ h => h) (by rfl) ?_ (trivial) ?_
      rotate_left
      · (intro u hSu; go_simp; (try with_reducible rfl))
      (try simp only [Act.put, List.setIfInBounds_toArray, List.set_cons_zero, List.set_cons_succ])
      refine Man.take1 (i := 9) (v := ?_) rfl (by kernel_rfl) (by kernel_rfl) (by kernel_rfl) (fun _ _ _ h => h) (by rfl) ?_ (trivial) ?_
      rotate_left
      · (intro u hSu; go_simp; (try with_reducible rfl))
      (try simp only [Act.put, List.setIfInBounds_toArray, List.set_cons_zero, List.set_cons_succ])
      refine Man.one (i := 4) rfl (by kernel_rfl) (fun K hK => ?_)
      go_simp
      (go_at_call 67; (with_reducible refine (hdig1 _).mono ?_); rintro e wd ⟨rfl, rfl⟩)
      refine hK.out _ _ trivial (fun _ => ?_)
      clear hK K
      (try simp only [Act.put, List.setIfInBounds_toArray, List.set_cons_zero, List.set_cons_succ])
      refine Man.take1 (i := 5) (v := ?_) rfl (by kernel_rfl) (by kernel_rfl) (by kernel_rfl) (fun _ _ _ h => h) (by rfl) ?_ (trivial) ?_
      rotate_left
      · (intro u hSu; go_simp; (try with_reducible rfl))
      (try simp only [Act.put, List.setIfInBounds_toArray, List.set_cons_zero, List.set_cons_succ])
      refine Man.one (i := 10) rfl (by kernel_rfl) (fun K hK => ?_)
      go_simp
      (go_at_call 67; (with_reducible refine (hdig2 _).mono ?_); rintro e wd ⟨rfl, rfl⟩)
      refine hK.out _ _ trivial (fun _ => ?_)
      clear hK K
      (try simp only [Act.put, List.setIfInBounds_toArray, List.set_cons_zero, List.set_cons_succ])
      refine Man.take1 (i := 11) (v := ?_) rfl (by kernel_rfl) (by kernel_rfl) (by kernel_rfl) (fun _ _ _ h => h) (by rfl) ?_ (trivial) ?_
      rotate_left
      · (intro u hSu; go_simp; (try with_reducible rfl))
      (try simp only [Act.put, List.setIfInBounds_toArray, List.set_cons_zero, List.set_cons_succ])
      refine Man.take1 (i := 12) (v := ?_) rfl (by kernel_rfl) (by kernel_rfl) (by kernel_rfl) (fun _ _ _ h => h) (by rfl) ?_ (trivial) ?_
      rotate_left
      · (intro u hSu; go_simp; (try with_reducible rfl))
      (try simp only [Act.put, List.setIfInBounds_toArray, List.set_cons_zero, List.set_cons_succ])
      refine Man.one (i := 13) rfl (by kernel_rfl) (fun K hK => ?_)
      go_simp
      have HG2 := Lib.hid (HG.out.later (((Below.refl wr.heap.size wr).alloc (Nat.le_refl _) (.cells #[.int .u8 (16 * (r1 : Int) + (r2 : Int))] 5)).drew))
      refine hK.out _ _ trivial (fun _ => ?_)
      clear hK K
      (try simp only [Act.put, List.setIfInBounds_toArray, List.set_cons_zero, List.set_cons_succ])
      refine Man.one (i := 14) rfl (by kernel_rfl) (fun K hK => ?_)
      refine step_append_lies _ rfl _ _ 55 rfl (w.heap.size + 1) 5 i0 (.int .u8 0) 1 1 Tryd.underlying55 hi0 hz0 hz1 hz2 rfl (by decide) _ l.length (Lib.byteCells l) rfl HG2.out.own ⟨wr.heap.size, 0, none⟩ 1 1 [.int .u8 (16 * (r1 : Int) + (r2 : Int))] ?a1 rfl ?a2 ?a3 (by decide) ?a4 ?a5 ?a6 _ rfl (fun g cap w1 hown hgrow _ _ => ?_)
      case a1 => show _ = Value.slice _ 1 1; first | rfl | (simp; done)
      case a2 => intro j u hj; obtain ⟨rfl, rfl⟩ := byte_one _ j u hj; simp [Addr.add]
      case a3 => intro u hu; simp at hu; subst hu; rfl
      case a4 => unfold maxLen; omega
      case a5 => omega
      case a6 => have := HG.out.sz; simp; omega
      refine hK.out _ _ trivial (fun _ => ?_)
      clear hK K
      (try simp only [Act.put, List.setIfInBounds_toArray, List.set_cons_zero, List.set_cons_succ])
      refine Man.take1 (i := 15) (v := ?_) rfl (by kernel_rfl) (by kernel_rfl) (by kernel_rfl) (fun _ _ _ h => h) (by rfl) ?_ (trivial) ?_
      rotate_left
      · (intro u hSu; go_simp; (try with_reducible rfl))
      (try simp only [Act.put, List.setIfInBounds_toArray, List.set_cons_zero, List.set_cons_succ])
      refine wpAnyH_done (by kernel_rfl) ?_ _
      have HB := Lib.hid (HG2.out.put (16 * r1 + r2).toUInt8 HNX.out.symm hown hgrow)
      have HL2 : Hid (∀ L : List UInt8, s.data.toList = 120 :: L.flatMap Txt.hex2 → l ++ [(16 * r1 + r2).toUInt8] = L.take (l ++ [(16 * r1 + r2).toUInt8]).length) := Lib.hid (by
        intro L e
        have hl := HL.out L e
        have hi := HI.out
        have hsz : s.size = 1 + 2 * L.length := by
          have := congrArg List.length e
          simp only [List.length_cons, hex_len] at this
          have e2 : s.size = s.data.toList.length := by simp
          omega
        have hj : l.length < L.length := by omega
        obtain ⟨g1, g2⟩ := hexbyte s L e l.length hj i hi h1 hiz
        have hLt := (L[l.length]).toNat_lt
        have e1 := HD1.out _ (by omega) g1
        have e2 := HD2.out _ (by omega) g2
        rw [un_byte L[l.length] r1 r2 e1 e2]
        simp only [List.length_append, List.length_singleton]
        rw [List.take_succ_eq_append_getElem hj, ← hl])
      have HI2 : Hid (i + 2 = 1 + 2 * (l ++ [(16 * r1 + r2).toUInt8]).length) := Lib.hid (by have := HI.out; simp; omega)
      clear hown hgrow HG2
      go_wp2_with fail
      go_roundw
      case rel => exact ⟨i + 2, l ++ [(16 * r1 + r2).toUInt8], by go_num, by omega, HI2, by simp; omega, HL2, HB⟩
      case measure => simp [intOf]; omega
    · have f1 : ¬ (i : Int) + 1 < (s.size : Int) := by omega
      have hstr := str_own HG.out.own
      obtain ⟨ao, n', cap, rfl⟩ : ∃ ao n' cap, u3 = .slice ao n' cap := by
        rcases HG.out.own.2 with ⟨hv, _⟩ | ⟨g, cap, cur, hv, _⟩
        · exact ⟨_, _, _, hv⟩
        · exact ⟨_, _, _, hv⟩
      have a0 := HG.out.box.c0
      have a1 := HG.out.box.c1
      have a2 := HG.out.box.c2
      have a3 := HG.out.box.c3
      have az := HG.out.box.z
      have HP := Lib.hid (put4_vb (k := 4) (n := 0) (x := 0) (t := Cod.S l) HG.out.box)
      go_wp2_with fail
      have p0 := HP.out.c0
      have p1 := HP.out.c1
      have p2 := HP.out.c2
      have p3 := HP.out.c3
      show bodyPost _ _ _ _ _ (put4 wr w.heap.size (.int .i64 4) (.int .i64 0) (.int .u64 0) (.string (Cod.S l)))
      refine bodyPost_ret (v := .agg #[.int .i64 4, .int .i64 0, .int .u64 0, .string (Cod.S l)]) (by simp [results, Tryd.results68, go_sem, p0, p1, p2, p3]) rfl ?_
      refine ⟨l, rfl, fun L e => ?_, put4_below _ _ _ _ _ (Nat.le_refl _) HG.out.bel⟩
      have hl := HL.out L e
      have hi := HI.out
      have hsz : s.size = 1 + 2 * L.length := by
        have := congrArg List.length e
        simp only [List.length_cons, hex_len] at this
        have e2 : s.size = s.data.toList.length := by simp
        omega
      rw [hl, List.take_of_length_le (by omega)]
end Ref
end Go.Proofs.YtppdebhcaodcnaaDoor
