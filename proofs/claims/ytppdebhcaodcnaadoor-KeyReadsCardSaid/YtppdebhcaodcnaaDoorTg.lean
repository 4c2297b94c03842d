/- The document's own guess (layer 1): the Floats. Conditions: the text begins with f and is not false; it has at most 2^40 bytes. -/
import Derived.Test.YtppdebhcaodcnaaDoorTf
import Derived.Deep.LoopGhost
namespace Go.Proofs.YtppdebhcaodcnaaDoor
open Go.RowKit
namespace Ref
def Vb (b : Nat) (k n x : Int) (t : ByteArray) (w : World) : Prop := w.heap[b]? = some (.cells #[.int .i64 k, .int .i64 n, .int .u64 x, .string t] 25 (0, 0))
section
variable {b : Nat} {k n x : Int} {t : ByteArray} {w w' : World}
theorem Vb.lt (h : Vb b k n x t w) : b < w.heap.size := lt_of_block h
theorem Vb.c0 (h : Vb b k n x t w) : w.cell? ⟨b, 0, none⟩ = some (.int .i64 k) := by unfold Vb at h; simp [World.cell?, h]
theorem Vb.c1 (h : Vb b k n x t w) : w.cell? ⟨b, 1, none⟩ = some (.int .i64 n) := by unfold Vb at h; simp [World.cell?, h]
theorem Vb.c2 (h : Vb b k n x t w) : w.cell? ⟨b, 2, none⟩ = some (.int .u64 x) := by unfold Vb at h; simp [World.cell?, h]
theorem Vb.c3 (h : Vb b k n x t w) : w.cell? ⟨b, 3, none⟩ = some (.string t) := by unfold Vb at h; simp [World.cell?, h]
theorem Vb.z (h : Vb b k n x t w) (j : Nat) : w.frozen? ⟨b, j, none⟩ = false := by unfold Vb at h; simp [World.frozen?, h]
theorem Vb.later (h : Vb b k n x t w) (hb : Below w.heap.size w w') : Vb b k n x t w' := Rd.below_block hb h
theorem Vb.past (h : Vb b k n x t w) (o : Obj) : Vb b k n x t (w.alloc o) := h.later ((Below.refl _ _).alloc (Nat.le_refl _) _)
theorem Vb.other (h : Vb b k n x t w) {a : Addr} (ha : b ≠ a.block) (u : Value) : Vb b k n x t (w.setCell a u) := by
  unfold Vb; rw [Below.heap_setCell _ _ _ _ ha]; exact h
theorem Vb.new (w : World) (k n x : Int) (t : ByteArray) : Vb w.heap.size k n x t (w.alloc (.cells #[.int .i64 k, .int .i64 n, .int .u64 x, .string t] 25)) := heap_alloc_new _ _
theorem vb_set (h : Vb b k n x t w) (j : Nat) (u : Value) : (w.setCell ⟨b, j, none⟩ u).heap[b]? = some (.cells (#[.int .i64 k, .int .i64 n, .int .u64 x, .string t].setIfInBounds j u) 25 (0, 0)) := by
  have hlt := lt_of_block h
  have h' : w.heap[b] = .cells #[.int .i64 k, .int .i64 n, .int .u64 x, .string t] 25 (0, 0) := by simpa [Vb, Array.getElem?_eq_getElem hlt] using h
  show (w.heap.modify b _)[b]? = _
  rw [Array.getElem?_eq_getElem (by simpa using hlt), Array.getElem_modify_self, h']
  rfl
theorem Vb.set0 (h : Vb b k n x t w) (u : Int) : Vb b u n x t (w.setCell ⟨b, 0, none⟩ (.int .i64 u)) := vb_set h 0 _
theorem Vb.set1 (h : Vb b k n x t w) (u : Int) : Vb b k u x t (w.setCell ⟨b, 1, none⟩ (.int .i64 u)) := vb_set h 1 _
theorem Vb.set2 (h : Vb b k n x t w) (u : Int) : Vb b k n u t (w.setCell ⟨b, 2, none⟩ (.int .u64 u)) := vb_set h 2 _
theorem Vb.set3 (h : Vb b k n x t w) (u : ByteArray) : Vb b k n x u (w.setCell ⟨b, 3, none⟩ (.string u)) := vb_set h 3 _
end
def put4 (w1 : World) (B : Nat) (x0 x1 x2 x3 : Value) : World := (((w1.setCell ⟨B, 0, none⟩ x0).setCell ⟨B, 1, none⟩ x1).setCell ⟨B, 2, none⟩ x2).setCell ⟨B, 3, none⟩ x3
theorem put4_vb {w1 : World} {B : Nat} {k n x : Int} {t : ByteArray} {k' n' x' : Int} {t' : ByteArray} (h : Vb B k' n' x' t' w1) : Vb B k n x t (put4 w1 B (.int .i64 k) (.int .i64 n) (.int .u64 x) (.string t)) :=
  (((h.set0 k).set1 n).set2 x).set3 t
theorem put4_below {B0 : Nat} {w w1 : World} (B : Nat) (x0 x1 x2 x3 : Value) (hB : B0 ≤ B) (h : Below B0 w w1) : Below B0 w (put4 w1 B x0 x1 x2 x3) :=
  (((h.setCell (p := ⟨B, 0, none⟩) hB _).setCell (p := ⟨B, 1, none⟩) hB _).setCell (p := ⟨B, 2, none⟩) hB _).setCell (p := ⟨B, 3, none⟩) hB _
theorem lowhex_get (b : Nat) : ∀ m j (h : j < (lowhex b m).length), (lowhex b m)[j] = Txt.hexd (b / 16 ^ (m - 1 - j) % 16)
  | 0, j, h => by simp [lowhex] at h
  | m + 1, 0, h => by simp [lowhex]
  | m + 1, j + 1, h => by
    simp only [lowhex, List.getElem_cons_succ]
    rw [lowhex_get b m j (by simpa [lowhex] using h)]
    congr 4
    omega
/-- How the two boxes stand. -/
def Gst (w : World) (k n x : Int) (u : World) : Prop := Below w.heap.size w u ∧ w.heap.size + 2 ≤ u.heap.size ∧ Vb w.heap.size 0 0 0 ⟨#[]⟩ u ∧ Vb (w.heap.size + 1) k n x ⟨#[]⟩ u
section
variable {w u u' : World} {k n x : Int}
theorem Gst.later (h : Gst w k n x u) (hb : Below u.heap.size u u') : Gst w k n x u' := ⟨h.1.trans (hb.mono (by have := h.2.1; omega)), Nat.le_trans h.2.1 hb.size, h.2.2.1.later hb, h.2.2.2.later hb⟩
theorem Gst.put2 (h : Gst w k n x u) (y : Int) : Gst w k n y (u.setCell ⟨w.heap.size + 1, 2, none⟩ (.int .u64 y)) :=
  ⟨h.1.setCell (p := ⟨w.heap.size + 1, 2, none⟩) (by simp) _, by have := h.2.1; simpa using this, h.2.2.1.other (a := ⟨w.heap.size + 1, 2, none⟩) (by simp) _, h.2.2.2.set2 y⟩
theorem Gst.put1 (h : Gst w k n x u) (y : Int) : Gst w k y x (u.setCell ⟨w.heap.size + 1, 1, none⟩ (.int .i64 y)) :=
  ⟨h.1.setCell (p := ⟨w.heap.size + 1, 1, none⟩) (by simp) _, by have := h.2.1; simpa using this, h.2.2.1.other (a := ⟨w.heap.size + 1, 1, none⟩) (by simp) _, h.2.2.2.set1 y⟩
theorem Gst.put0 (h : Gst w k n x u) (y : Int) : Gst w y n x (u.setCell ⟨w.heap.size + 1, 0, none⟩ (.int .i64 y)) :=
  ⟨h.1.setCell (p := ⟨w.heap.size + 1, 0, none⟩) (by simp) _, by have := h.2.1; simpa using this, h.2.2.1.other (a := ⟨w.heap.size + 1, 0, none⟩) (by simp) _, h.2.2.2.set0 y⟩
end
theorem gst_new (w : World) (k : Int) : Gst w k 0 0 ((w.alloc (.cells #[.int .i64 0, .int .i64 0, .int .u64 0, .string ⟨#[]⟩] 25)).alloc (.cells #[.int .i64 k, .int .i64 0, .int .u64 0, .string ⟨#[]⟩] 25)) :=
  ⟨((Below.refl _ _).alloc (Nat.le_refl _) _).alloc (by simp) _, by simp, (Vb.new w 0 0 0 ⟨#[]⟩).past _, by have h := Vb.new (w.alloc (.cells #[.int .i64 0, .int .i64 0, .int .u64 0, .string ⟨#[]⟩] 25)) k 0 0 ⟨#[]⟩; rwa [show (w.alloc (.cells #[.int .i64 0, .int .i64 0, .int .u64 0, .string ⟨#[]⟩] 25)).heap.size = w.heap.size + 1 from by simp] at h⟩
/-- One digit more. -/
theorem hex_step (s : ByteArray) (i x r : Nat) (h : i < s.size) (h1 : 1 ≤ i) (hr : ∀ k, k < 16 → s[i] = Txt.hexd k → r = k) (hx : ∀ b, b < 18446744073709551616 → s.data.toList = 102 :: lowhex b 16 → x = b / 16 ^ (17 - i)) :
    ∀ b, b < 18446744073709551616 → s.data.toList = 102 :: lowhex b 16 → (16 * x + r) % 18446744073709551616 = b / 16 ^ (17 - (i + 1)) := by
  intro b hb e
  have hl : s.size = 17 := by
    have := congrArg List.length e
    simpa [lowhex_len] using this
  have hg : s[i] = Txt.hexd (b / 16 ^ (16 - i) % 16) := by
    obtain ⟨j, rfl⟩ : ∃ j, i = j + 1 := ⟨i - 1, by omega⟩
    have e2 : s[j + 1] = s.data.toList[j + 1]'(by simpa using h) := by simp [ByteArray.getElem_eq_getElem_data]
    rw [e2]
    simp only [e, List.getElem_cons_succ]
    rw [lowhex_get b 16 j (by rw [lowhex_len]; omega)]
    congr 4; omega
  have h3 := hr _ (Nat.mod_lt _ (by decide)) hg
  have h4 := hx b hb e
  have h5 : b / 16 ^ (17 - i) = b / 16 ^ (16 - i) / 16 := by
    rw [Nat.div_div_eq_div_mul, show 17 - i = (16 - i) + 1 by omega, Nat.pow_succ]
  have h6 : b / 16 ^ (16 - i) ≤ b := Nat.div_le_self _ _
  rw [h3, h4, h5, show 17 - (i + 1) = 16 - i by omega]
  omega
set_option maxHeartbeats 4000000 in
set_option maxRecDepth 100000 in
theorem guess_f (s : ByteArray) (w : World) (h0 : 0 < s.size) (hs : s.size ≤ 1099511627776) (a1 : (s.toList == [110, 117, 108, 108]) = false) (a2 : (s.toList == [116, 114, 117, 101]) = false) (a3 : (s.toList == [102, 97, 108, 115, 101]) = false) (c0 : ((s[0].toNat : Int) == 102) = true) :
    Calls Tryd.prog 38 #[.string s] w fun e w' => ∃ x : Nat, e = .returned (.agg #[.int .i64 3, .int .i64 0, .int .u64 x, .string ⟨#[]⟩]) ∧ (x < 18446744073709551616 ∧ ∀ b, b < 18446744073709551616 → s.data.toList = 102 :: lowhex b 16 → x = b) ∧ Below w.heap.size w w' := by
  have H0 := Lib.hid (gst_new w 3)
  have hpos : (0 : Int) < s.size := by omega
  go_enter Tryd.func38, Tryd.ntmps38
  go_wp2_with fail
  go_loopw [5] (fun ii wx => ∃ i x : Nat, ii = .int .i64 i ∧ 1 ≤ i ∧ i ≤ s.size ∧ x < 18446744073709551616 ∧ Hid (∀ b, b < 18446744073709551616 → s.data.toList = 102 :: lowhex b 16 → x = b / 16 ^ (17 - i)) ∧ Hid (Gst w 3 0 x wx)) (fun ii _ => (s.size - intOf ii).toNat)
  case atStart => exact ⟨1, 0, rfl, by omega, by omega, by omega, Lib.hid (fun b hb e => by
    have hl : s.size = 17 := by
      have := congrArg List.length e
      simpa [lowhex_len] using this
    rw [show 17 - 1 = 16 from rfl]; omega), H0⟩
  case round =>
    clear H0
    obtain ⟨i, x, rfl, hi1, his, hx, HX, HG⟩ := hrel
    have k0 := HG.out.2.2.2.c0
    have k1 := HG.out.2.2.2.c1
    have k2 := HG.out.2.2.2.c2
    have k3 := HG.out.2.2.2.c3
    have kz := HG.out.2.2.2.z
    have a0 := HG.out.2.2.1.c0
    have a1 := HG.out.2.2.1.c1
    have a2 := HG.out.2.2.1.c2
    have a3 := HG.out.2.2.1.c3
    have az := HG.out.2.2.1.z
    rcases Nat.eq_or_lt_of_le his with h1 | h1
    · have f1 : ¬ (i : Int) < (s.size : Int) := by omega
      have H1 := Lib.hid h1
      have HP := Lib.hid (put4_vb (k := 3) (n := 0) (x := (x : Nat)) (t := ⟨#[]⟩) HG.out.2.2.1)
      clear h1
      go_wp2_with fail
      have p0 := HP.out.c0
      have p1 := HP.out.c1
      have p2 := HP.out.c2
      have p3 := HP.out.c3
      show bodyPost _ _ _ _ _ (put4 wr w.heap.size (.int .i64 3) (.int .i64 0) (.int .u64 (x : Nat)) (.string ⟨#[]⟩))
      refine bodyPost_ret (v := .agg #[.int .i64 3, .int .i64 0, .int .u64 (x : Nat), .string ⟨#[]⟩]) (by simp [results, Tryd.results38, go_sem, p0, p1, p2, p3]) rfl ?_
      refine ⟨x, rfl, ⟨hx, fun b hb e => ?_⟩, put4_below _ _ _ _ _ (Nat.le_refl _) HG.out.1⟩
      have hl : s.size = 17 := by
        have := congrArg List.length e
        simpa [lowhex_len] using this
      rw [HX.out b hb e, H1.out, hl]; simp
    · have f1 : (i : Int) < (s.size : Int) := by omega
      obtain ⟨r, hr16, hr, hdig⟩ := digit_is s[i]
      obtain ⟨y, hy⟩ : ∃ y, y = (16 * x + r) % 18446744073709551616 := ⟨_, rfl⟩
      have hyl : y < 18446744073709551616 := by rw [hy]; exact Nat.mod_lt _ (by decide)
      have HY : Hid (∀ b, b < 18446744073709551616 → s.data.toList = 102 :: lowhex b 16 → y = b / 16 ^ (17 - (i + 1))) := Lib.hid (by rw [hy]; exact hex_step s i x r h1 hi1 hr HX.out)
      have HG1 := Lib.hid (HG.out.later (Below.refl _ _).drew)
      have HG2 := Lib.hid (HG.out.later (below_drewN (Below.refl _ _) 1))
      have hwr : IntKind.u64.wrap (IntKind.u64.wrap (16 * (x : Int)) + IntKind.u64.wrap (r : Int)) = (y : Int) := by
        simp only [IntKind.wrap_u64]; omega
      have HR := Lib.hid hr
      clear hy hr a0 a1 a2 a3 az
      go_wp2_with fail
      go_region_with (go_at_call 67; (with_reducible refine (hdig _).mono ?_); rintro e w2 ⟨rfl, rfl⟩)
      all_goals (try simp only [hwr])
      all_goals go_wp2_with fail
      all_goals go_roundw
      all_goals first | (simp [intOf]; omega) | exact ⟨i + 1, y, by go_num, by omega, by omega, hyl, HY, Lib.hid (HG1.out.put2 y)⟩ | exact ⟨i + 1, y, by go_num, by omega, by omega, hyl, HY, Lib.hid (HG2.out.put2 y)⟩ | exact ⟨i + 1, y, by go_num, by omega, by omega, hyl, HY, Lib.hid ((HG.out.put2 y).later (Below.refl _ _).drew)⟩ | exact ⟨i + 1, y, by go_num, by omega, by omega, hyl, HY, Lib.hid (HG.out.put2 y)⟩
end Ref
end Go.Proofs.YtppdebhcaodcnaaDoor
