/- The document's own guess (layer 1): the Ints. Conditions: which first byte the text has; it has at most 2^40 bytes. -/
import Derived.Test.YtppdebhcaodcnaaDoorTh
namespace Go.Proofs.YtppdebhcaodcnaaDoor
open Go.RowKit
namespace Ref
set_option maxHeartbeats 4000000 in
set_option maxRecDepth 100000 in
theorem guess_pos (s : ByteArray) (w : World) (h0 : 0 < s.size) (hs : s.size ≤ 1099511627776) (a1 : (s.toList == [110, 117, 108, 108]) = false) (a2 : (s.toList == [116, 114, 117, 101]) = false) (a3 : (s.toList == [102, 97, 108, 115, 101]) = false) (c0 : ((s[0].toNat : Int) == 102) = false) (c1 : ((s[0].toNat : Int) == 120) = false) (c2 : ((s[0].toNat : Int) == 34) = false) (c3 : ((s[0].toNat : Int) == 45) = false) :
    Calls Tryd.prog 38 #[.string s] w fun e w' => ∃ x : Int, e = .returned (.agg #[.int .i64 2, .int .i64 x, .int .u64 0, .string ⟨#[]⟩]) ∧ ((-9223372036854775808 ≤ x ∧ x ≤ 9223372036854775807) ∧ ∀ v : Nat, v ≤ 9223372036854775807 → s.data.toList = Lib.decDigits v → x = (v : Int)) ∧ Below w.heap.size w w' := by
  have H0 := Lib.hid (gst_new w 2)
  have hpos : (0 : Int) < s.size := by omega
  go_enter Tryd.func38, Tryd.ntmps38
  go_wp2_with fail
  go_loopw [6] (fun ii wx => ∃ (i : Nat) (x : Int), ii = .int .i64 i ∧ i ≤ s.size ∧ (-9223372036854775808 ≤ x ∧ x ≤ 9223372036854775807) ∧ Hid (∀ v : Nat, v ≤ 9223372036854775807 → s.data.toList = Lib.decDigits v → x = ((v / 10 ^ (s.size - i) : Nat) : Int)) ∧ Hid (Gst w 2 x 0 wx)) (fun ii _ => (s.size - intOf ii).toNat)
  case atStart => exact ⟨0, 0, rfl, by omega, by omega, Lib.hid (fun v hv e => by
    have h1 := (dec_at v).1
    have hl : (Lib.decDigits v).length ≤ s.size := by
      have := congrArg List.length e
      simp at this; omega
    rw [Nat.sub_zero, Nat.div_eq_of_lt (Nat.lt_of_lt_of_le h1 (Nat.pow_le_pow_right (by decide) hl))]; rfl), H0⟩
  case round =>
    clear H0
    obtain ⟨i, x, rfl, his, hx, HX, HG⟩ := hrel
    have k0 := HG.out.2.2.2.c0
    have k1 := HG.out.2.2.2.c1
    have k2 := HG.out.2.2.2.c2
    have k3 := HG.out.2.2.2.c3
    have kz := HG.out.2.2.2.z
    have a0 := HG.out.2.2.1.c0
    have a1 := HG.out.2.2.1.c1
    have a2 := HG.out.2.2.1.c2
    have a3 := HG.out.2.2.1.c3
    have az := HG.out.2.2.1.z
    rcases Nat.eq_or_lt_of_le his with h1 | h1
    · have f1 : ¬ (i : Int) < (s.size : Int) := by omega
      have H1 := Lib.hid h1
      have HP := Lib.hid (put4_vb (k := 2) (n := x) (x := 0) (t := ⟨#[]⟩) HG.out.2.2.1)
      clear h1
      go_wp2_with fail
      have p0 := HP.out.c0
      have p1 := HP.out.c1
      have p2 := HP.out.c2
      have p3 := HP.out.c3
      show bodyPost _ _ _ _ _ (put4 wr w.heap.size (.int .i64 2) (.int .i64 x) (.int .u64 0) (.string ⟨#[]⟩))
      refine bodyPost_ret (v := .agg #[.int .i64 2, .int .i64 x, .int .u64 0, .string ⟨#[]⟩]) (by simp [results, Tryd.results38, go_sem, p0, p1, p2, p3]) rfl ?_
      refine ⟨x, rfl, ⟨hx, fun v hv e => ?_⟩, put4_below _ _ _ _ _ (Nat.le_refl _) HG.out.1⟩
      rw [HX.out v hv e, H1.out]; simp
    · have f1 : (i : Int) < (s.size : Int) := by omega
      clear a0 a1 a2 a3 az
      obtain ⟨y, hy⟩ : ∃ y, y = IntKind.i64.wrap (IntKind.i64.wrap (10 * x) + IntKind.i64.wrap (IntKind.u8.wrap ((s[i].toNat : Int) - 48))) := ⟨_, rfl⟩
      have hyb : -9223372036854775808 ≤ y ∧ y ≤ 9223372036854775807 := by rw [hy, IntKind.wrap_i64]; omega
      have HY : Hid (∀ v : Nat, v ≤ 9223372036854775807 → s.data.toList = Lib.decDigits v → y = ((v / 10 ^ (s.size - (i + 1)) : Nat) : Int)) := Lib.hid (fun v hv e => by
        obtain ⟨d, hd, hc, hq⟩ := dig_step s [] v i e (by simp) h1
        have h4 := HX.out v hv e
        have h6 : v / 10 ^ (s.size - (i + 1)) ≤ v := Nat.div_le_self _ _
        have e1 : IntKind.u8.wrap (((48 + d : Nat) : Int) - 48) = (d : Int) := by rw [IntKind.wrap_u8]; omega
        have e2 : IntKind.i64.wrap (d : Int) = (d : Int) := by rw [IntKind.wrap_i64]; omega
        obtain ⟨q, hq2⟩ : ∃ q : Nat, q = v / 10 ^ (s.size - i) := ⟨_, rfl⟩
        rw [← hq2] at h4 hq
        rw [hq] at h6 ⊢
        have e3 : IntKind.i64.wrap (10 * x) = 10 * x := by rw [IntKind.wrap_i64, h4]; omega
        rw [hy, hc, e1, e2, e3, IntKind.wrap_i64, h4]
        omega)
      have hwr : wrap64 (wrap64 (10 * x) + ((s[i].toNat : Int) - 48) % 256) = y := by rw [hy]; first | rfl | (simp only [IntKind.wrap_i64, IntKind.wrap_u8]; done) | (simp only [IntKind.wrap_i64, IntKind.wrap_u8, wrap64]; have := s[i].toNat_lt; omega)
      clear hy
      have HG1 := Lib.hid (HG.out.later (Below.refl _ _).drew)
      go_wp2_with fail
      go_region
      all_goals (try simp only [hwr])
      all_goals go_wp2_with fail
      all_goals go_roundw
      all_goals first | (simp [intOf]; omega) | exact ⟨i + 1, y, by go_num, by omega, hyb, HY, Lib.hid (HG1.out.put1 y)⟩ | exact ⟨i + 1, y, by go_num, by omega, hyb, HY, Lib.hid ((HG.out.put1 y).later (Below.refl _ _).drew)⟩ | exact ⟨i + 1, y, by go_num, by omega, hyb, HY, Lib.hid (HG.out.put1 y)⟩
end Ref
end Go.Proofs.YtppdebhcaodcnaaDoor
