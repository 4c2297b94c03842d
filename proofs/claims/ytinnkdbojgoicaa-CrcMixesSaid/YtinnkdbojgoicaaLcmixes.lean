/- CrcMixes is proved: for every two texts the law returns true and its arguments read as they did. No other condition. -/
import Derived.Test.YtinnkdbojgoicaaKv
import Derived.Test.YtinnkdbojgoicaaFra
import Derived.Deep.DeepCutAuto
import Derived.OwnWalk
namespace Go.Proofs.Ytinnkdbojgoicaa
open Go.ChangeShapes Go.WideShapes Go.ChangeAt Go.RowKit
open Go.ChangeMaps (open_string shut_string)
namespace LaCrcMixes
open Crc
/-- Block B is a row of these bytes. -/
def Bw (B : Nat) (L : List UInt8) (w : World) : Prop := w.heap[B]? = some (.cells (Lib.byteCells L).toArray 5 (0, 0))
section
variable {B : Nat} {L : List UInt8} {w w' : World}
theorem Bw.lt (h : Bw B L w) : B < w.heap.size := lt_of_block h
theorem Bw.cell (h : Bw B L w) (j : Nat) (hj : j < L.length) : w.cell? ⟨B, j, none⟩ = some (.int .u8 (L[j].toNat : Int)) := by
  rw [cell_of_row _ _ j _ _ (0, 0) h]
  simp [Lib.byteCells, hj]
theorem Bw.z (h : Bw B L w) (j : Nat) : w.frozen? ⟨B, j, none⟩ = false := by unfold Bw at h; simp [World.frozen?, h]
theorem Bw.later (h : Bw B L w) (hb : Below w.heap.size w w') : Bw B L w' := below_keeps' hb h
theorem Bw.other (h : Bw B L w) {a : Addr} (ha : B ≠ a.block) (u : Value) : Bw B L (w.setCell a u) := by
  unfold Bw; rw [Below.heap_setCell _ _ _ _ ha]; exact h
theorem Bw.set (h : Bw B L w) (j : Nat) (x : UInt8) : Bw B (L.set j x) (w.setCell ⟨B, j, none⟩ (.int .u8 (x.toNat : Int))) := by
  have hlt := lt_of_block h
  have h' : w.heap[B] = .cells (Lib.byteCells L).toArray 5 (0, 0) := by simpa [Bw, Array.getElem?_eq_getElem hlt] using h
  show (w.heap.modify B _)[B]? = _
  rw [Array.getElem?_eq_getElem (by simpa using hlt), Array.getElem_modify_self, h']
  simp [Lib.byteCells, List.map_set]
theorem Bw.text (h : Bw B L w) (n : Nat) (hn : L.length = n) : (convert 22 9 (.slice (some ⟨B, 0, none⟩) n n)).run Try.prog w = .ok (.string (S L)) w := by
  subst hn
  refine run_convert_bytes_back (P := Try.prog) w 22 9 5 ⟨B, 0, none⟩ L.length L Try.underlying22 Try.underlying5 Try.underlying9 ?_
  intro j hj
  have hadd : (⟨B, 0, none⟩ : Addr).add j = ⟨B, j, none⟩ := by unfold Addr.add; split <;> simp_all
  rw [hadd]
  exact h.cell j hj
end
theorem made_bytes (w : World) (n : Nat) : Bw w.heap.size (List.replicate n 0) (w.alloc (.cells (madeCells #[.int .u8 0] n) 5)) := by
  unfold Bw
  rw [heap_alloc_last]
  congr 2
  apply Array.toList_inj.1
  rw [toList_madeCells_one]
  simp [Lib.byteCells]
theorem mix_keep {B C : Nat} {L M : List UInt8} {w u u' : World} (h : Hid (Bw B L u ∧ Bw C M u ∧ Below w.heap.size w u)) (hb : Below u.heap.size u u') : Hid (Bw B L u' ∧ Bw C M u' ∧ Below w.heap.size w u') :=
  hidm ⟨h.out.1.later hb, h.out.2.1.later hb, h.out.2.2.trans (hb.mono h.out.2.2.size)⟩
/-- The row that is being filled. -/
def part (zl : List UInt8) (n k : Nat) : List UInt8 := zl.take k ++ List.replicate (n - k) 0
theorem part_next (zl : List UInt8) (n k : Nat) (hz : zl.length = n) (hk : k < n) : (part zl n k).set k (zl[k]'(by omega)) = part zl n (k + 1) := by
  unfold part
  have hl : (zl.take k).length = k := by simp; omega
  rw [List.set_append_right _ _ (by omega), hl, Nat.sub_self, show n - k = (n - (k + 1)) + 1 by omega, List.replicate_succ, List.set_cons_zero, List.take_succ_eq_append_getElem (by omega), List.append_assoc]
  rfl
theorem part_len (zl : List UInt8) (n k : Nat) (hz : zl.length = n) (hk : k ≤ n) : (part zl n k).length = n := by
  unfold part; simp; omega
set_option maxHeartbeats 2000000 in
set_option maxRecDepth 100000 in
theorem law_any (a b : ByteArray) (w : World) : Calls Try.prog 8 #[.string a, .string b] w fun e w' => e = .returned (.bool true) ∧ Below w.heap.size w w' := by
  obtain ⟨n, hn⟩ : ∃ n : Nat, n = min (min a.size b.size) 1000 := ⟨_, rfl⟩
  have hna : n ≤ a.size := by omega
  have hnb : n ≤ b.size := by omega
  have hnk : n ≤ 1000 := by omega
  have HN := hidm hn
  clear hn
  obtain ⟨i0, hi, hz0, hz1, hz2⟩ := info_parts (P := Try.prog) (e := 5) (z := .int .u8 0) (size := 1) (bytes := 1) (by kernel_rfl)
  have mk : ∀ w : World, (Instr.makeSlice 22 (.int .i64 (n : Int)) (.int .i64 (n : Int))).run Try.prog w = .ok (.slice (some ⟨w.heap.size, 0, none⟩) n n) (w.alloc (.cells (madeCells #[.int .u8 0] n) 5)) := fun w => by
    have := run_makeSlice (P := Try.prog) (w := w) 22 5 i0 (.int .u8 0) Try.underlying22 hi hz0 .i64 .i64 n n (by omega) (Int.le_refl _) (by rw [hz1]; omega) (by rw [hz2]; omega) (by omega)
    rw [hz1] at this
    simp only [Int.toNat_natCast, Nat.mul_one] at this
    exact this
  obtain ⟨al, hal⟩ : ∃ al, al = a.extract 0 n := ⟨_, rfl⟩
  obtain ⟨bl, hbl⟩ : ∃ bl, bl = b.extract 0 n := ⟨_, rfl⟩
  have hals : al.size = n := by rw [hal, ByteArray.size_extract]; omega
  have hbls : bl.size = n := by rw [hbl, ByteArray.size_extract]; omega
  obtain ⟨zl, hzl⟩ : ∃ zl, zl = List.zipWith (· ^^^ ·) al.data.toList bl.data.toList := ⟨_, rfl⟩
  have hzll : zl.length = n := by rw [hzl, List.length_zipWith, len_eq, len_eq]; omega
  have HZ : Hid (∀ k, (hk : k < n) → zl[k]? = some (a[k]'(Nat.lt_of_lt_of_le hk hna) ^^^ b[k]'(Nat.lt_of_lt_of_le hk hnb))) := by
    refine hidm ?_
    intro k hk
    rw [hzl, List.getElem?_zipWith, hal, hbl, cut_take, cut_take, List.getElem?_take, List.getElem?_take, if_pos hk, if_pos hk, List.getElem?_eq_getElem (by rw [len_eq]; omega), List.getElem?_eq_getElem (by rw [len_eq]; omega)]
    rfl
  have HMIX := hidm (more_mix al.data.toList bl.data.toList (by rw [len_eq, len_eq, hals, hbls]))
  rw [← hzl, len_eq, hals] at HMIX
  have HA := hidm hal.symm
  have HB := hidm hbl.symm
  have HLA := hidm hals
  have HLB := hidm hbls
  have HLZ := hidm hzll
  clear hal hbl hals hbls hzl hzll hi hz0 hz1 hz2
  go_enter Try.func8, Try.ntmps8
  go_upto_region 1 with fail
  go_cut [5] (fun s5 wx => s5 = .int .i64 (n : Int) ∧ wx = w)
  case first =>
    rcases Nat.lt_or_ge b.size a.size with h1 | h1
    all_goals (go_wp2_with fail)
    all_goals go_meet
    all_goals exact ⟨by rw [HN.out]; congr 1; omega, rfl⟩
  case rest =>
    obtain ⟨rfl, rfl⟩ := hcut
    have hm0 := Bw.later (made_bytes wc n) ((Below.refl (wc.alloc (.cells (madeCells #[.int .u8 0] n) 5)).heap.size _).alloc (Nat.le_refl _) (.cells (madeCells #[.int .u8 0] n) 5))
    have hm1 := made_bytes (wc.alloc (.cells (madeCells #[.int .u8 0] n) 5)) n
    rw [show (wc.alloc (.cells (madeCells #[.int .u8 0] n) 5)).heap.size = wc.heap.size + 1 by simp] at hm1
    have HM0 := hidm hm0
    have HM1 := hidm hm1
    have HBB := hidm (((Below.refl wc.heap.size wc).alloc (Nat.le_refl _) (.cells (madeCells #[.int .u8 0] n) 5)).alloc (by simp) (.cells (madeCells #[.int .u8 0] n) 5))
    clear hm0 hm1
    go_wp2_with fail
    clear mk
    go_loopg [8] n (fun g ii wx => ∃ k : Nat, k + g = n ∧ ii = .int .i64 k ∧ Hid (Bw wc.heap.size (part zl n k) wx) ∧ Hid (Bw (wc.heap.size + 1) (List.replicate n 0) wx) ∧ Hid (Below wc.heap.size wc wx))
    case atStart => exact ⟨0, by omega, rfl, hidm (by rw [show part zl n 0 = List.replicate n 0 from rfl]; exact HM0.out), HM1, HBB⟩
    case round =>
      clear HM0 HM1 HBB
      obtain ⟨k, hkg, rfl, HX, HY, HBB⟩ := hrel
      cases gk with
      | zero =>
        obtain rfl : k = n := by omega
        have hlt : ¬ (k : Int) < (k : Int) := by omega
        obtain ⟨X, hX⟩ : ∃ X, X = S zl := ⟨_, rfl⟩
        obtain ⟨Z, hZ⟩ : ∃ Z, Z = S (List.replicate k 0) := ⟨_, rfl⟩
        have HXX : Hid (Bw wc.heap.size zl wr) := by
          have h := HX.out
          rw [show part zl k k = zl by unfold part; rw [Nat.sub_self, List.take_of_length_le (by rw [HLZ.out]; omega)]; simp] at h
          exact hidm h
        have EX : ∀ u, Hid (Bw wc.heap.size zl u ∧ Bw (wc.heap.size + 1) (List.replicate k 0) u ∧ Below wc.heap.size wc u) → (convert 22 9 (.slice (some ⟨wc.heap.size, 0, none⟩) k k)).run Try.prog u = .ok (.string X) u := fun u h => by
          rw [hX]; exact h.out.1.text k HLZ.out
        have EZ : ∀ u, Hid (Bw wc.heap.size zl u ∧ Bw (wc.heap.size + 1) (List.replicate k 0) u ∧ Below wc.heap.size wc u) → (convert 22 9 (.slice (some ⟨wc.heap.size + 1, 0, none⟩) k k)).run Try.prog u = .ok (.string Z) u := fun u h => by
          rw [hZ]; exact h.out.2.1.text k (by simp)
        have hXs : X.size = k := by rw [hX, S_size, HLZ.out]
        have hZs : Z.size = k := by rw [hZ, S_size]; simp
        obtain ⟨x1, h1⟩ : ∃ x, x = more 0 X.data.toList := ⟨_, rfl⟩
        obtain ⟨x2, h2⟩ : ∃ x, x = more 0 al.data.toList := ⟨_, rfl⟩
        obtain ⟨x3, h3⟩ : ∃ x, x = more 0 bl.data.toList := ⟨_, rfl⟩
        obtain ⟨x4, h4⟩ : ∃ x, x = more 0 Z.data.toList := ⟨_, rfl⟩
        have hmix : x1 = x2 ^^^ x3 ^^^ x4 := by
          rw [h1, h2, h3, h4, hX, hZ]
          exact HMIX.out
        have l2 : x2 < 4294967296 := by rw [h2]; exact more_lt _ _
        have l3 : x3 < 4294967296 := by rw [h3]; exact more_lt _ _
        have l4 : x4 < 4294967296 := by rw [h4]; exact more_lt _ _
        have o1 := fun w => of_any X (by omega) w
        have o2 := fun w => of_any al (by have := HLA.out; omega) w
        have o3 := fun w => of_any bl (by have := HLB.out; omega) w
        have o4 := fun w => of_any Z (by omega) w
        rw [← h1] at o1
        rw [← h2] at o2
        rw [← h3] at o3
        rw [← h4] at o4
        have q1 := u32_xor_nat x2 x3 l2 l3
        obtain ⟨y, hy⟩ : ∃ y, y = x2 ^^^ x3 := ⟨_, rfl⟩
        rw [← hy] at q1 hmix
        have q2 := u32_xor_nat y x4 (by rw [hy]; exact Nat.xor_lt_two_pow (n := 32) l2 l3) l4
        rw [← hmix] at q2
        have hkn := fun w => known_any w
        have HST : Hid (Bw wc.heap.size zl wr ∧ Bw (wc.heap.size + 1) (List.replicate k 0) wr ∧ Below wc.heap.size wc wr) := hidm ⟨HXX.out, HY.out, HBB.out⟩
        have HST2 := mix_keep HST (below_drewN (Below.refl _ _) 1)
        have HST3 := mix_keep HST (Below.refl _ _).drew
        have hna2 : (k : Int) ≤ (a.size : Int) := by omega
        have hnb2 : (k : Int) ≤ (b.size : Int) := by omega
        clear HX HY HBB HXX hX hZ hXs hZs h1 h2 h3 h4 hmix l2 l3 l4 hy HMIX HZ HLZ hkg
        have e1 : a.extract 0 k = al := HA.out
        have e2 : b.extract 0 k = bl := HB.out
        go_wp2_with fail
        go_region_held3 (fun u => Hid (Bw wc.heap.size zl u ∧ Bw (wc.heap.size + 1) (List.replicate k 0) u ∧ Below wc.heap.size wc u))
          (first | (exact mix_keep (by assumption) hb) | (exact HST) | (exact HST2) | (exact HST3) | go_keep)
          (first | (go_at_call 30; (first | (with_reducible refine (o1 _).mono ?_) | (with_reducible refine (o2 _).mono ?_) | (with_reducible refine (o3 _).mono ?_) | (with_reducible refine (o4 _).mono ?_)); rintro e w' ⟨rfl, hb⟩) | (go_at_call 27; (with_reducible refine (hkn _).mono ?_); rintro e w' ⟨rfl, hb⟩))
        all_goals (rename_i hS; have HS := hidm hS.out.2.2; clear hS)
        all_goals go_wp2_with fail
        all_goals go_ret
        all_goals exact ⟨rfl, HS.out⟩
      | succ g =>
        have hk : k < n := by omega
        have hk1 : (k : Int) < (n : Int) := by omega
        have hka : (k : Int) < (a.size : Int) := by omega
        have hkb : (k : Int) < (b.size : Int) := by omega
        obtain ⟨c, hc⟩ : ∃ c : UInt8, a[k]'(by omega) = c := ⟨_, rfl⟩
        obtain ⟨d, hd⟩ : ∃ d : UInt8, b[k]'(by omega) = d := ⟨_, rfl⟩
        have hcl := c.toNat_lt
        have hdl := d.toNat_lt
        have hx := u8_xor_nat c.toNat d.toNat (by omega) (by omega)
        rw [← UInt8.toNat_xor] at hx
        obtain ⟨x, hxx⟩ : ∃ x, x = c ^^^ d := ⟨_, rfl⟩
        rw [← hxx] at hx
        have hzk : zl[k]'(by rw [HLZ.out]; omega) = x := by
          have := HZ.out k hk
          rw [List.getElem?_eq_getElem (by rw [HLZ.out]; omega)] at this
          rw [Option.some.inj this, hxx, hc, hd]
        have hnx := part_next zl n k HLZ.out hk
        rw [hzk] at hnx
        have hpl := part_len zl n k HLZ.out (by omega)
        have hcell := HX.out.cell k (by rw [hpl]; omega)
        have hfro := HX.out.z k
        obtain ⟨v, hv⟩ : ∃ v : Int, v = ((part zl n k)[k]'(by rw [hpl]; omega)).toNat := ⟨_, rfl⟩
        rw [← hv] at hcell
        have HX2 := hidm (HX.out.set k x)
        rw [hnx] at HX2
        clear hnx hzk hpl hv hxx
        go_wp2_with fail
        go_region
        all_goals go_wp2_with fail
        all_goals go_roundg g
        all_goals first | omega | exact ⟨k + 1, by omega, by go_num, hidm (HX2.out.later (Below.refl _ _).drew), hidm ((HY.out.other (a := ⟨wc.heap.size, k, none⟩) (by show wc.heap.size + 1 ≠ wc.heap.size; omega) _).later (Below.refl _ _).drew), hidm ((HBB.out.setCell (p := ⟨wc.heap.size, k, none⟩) (Nat.le_refl _) _).drew)⟩
set_option maxRecDepth 100000 in
theorem contract (H : Type) (enc : TypeId × Value → H) (W : World) (base : Nat) (args : Array Value) (ds gs : List (DataW H)) (before : List MemPlace)
    (hval : ∀ (j : Nat) t v, Try.f8.params[j]? = some t → args[j]? = some v → Value.okWide Try.prog W .any base t v)
    (hW : DataW.Whole enc Try.prog Try.f8.params.toList Rows.crcMixesSpec.vars false W args.toList ds gs before) :
    Calls Try.prog 8 args W fun e W' => ∃ v, e = .returned v ∧ Rows.crcMixesSpec.post enc Try.prog Try.f8 false true false false W args v W' := by
  have hW' := hW
  obtain ⟨p, q, hA0, hV, rfl, hfz, hnd⟩ := hW
  have hA : DataW.TrodAll enc Try.prog W 0 (fun _ => true) true Try.f8.params.toList args.toList ds p := hA0
  rw [Try.params8] at hA hval
  obtain ⟨v0, vs0, d0, ds0, p0, q0, hargs, rfl, rfl, h0, r0⟩ := trodAll_cons hA
  obtain ⟨v1, vs1, d1, ds1, p1, q1, rfl, rfl, rfl, h1, r1⟩ := trodAll_cons r0
  obtain ⟨rfl, rfl, rfl⟩ := trodAll_nil r1
  obtain rfl : args = #[v0, v1] := by cases args; simp_all
  obtain ⟨rfl, rfl⟩ := trodVars_none hV
  obtain ⟨t, rfl, rfl, rfl, wt⟩ := open_string Try.underlying9 (hval 0 9 v0 rfl rfl) h0
  obtain ⟨u, rfl, rfl, rfl, wu⟩ := open_string Try.underlying9 (hval 1 9 v1 rfl rfl) h1
  clear hA0
  simp only [List.append_nil] at hW'
  have walk := law_any t u W
  refine walk.mono fun e W' ⟨he, hg⟩ => ?_
  subst he
  exact ⟨_, rfl, Fr.post_made (pa := []) (pv := []) hW' (fun _ _ _ => trodAll_cons_mk (shut_bool Try.underlying4 _) trodAll_mk0) (fun _ _ => trodAll_cons_mk (shut_string Try.underlying9 wt) (trodAll_cons_mk (shut_string Try.underlying9 wu) trodAll_mk0)) (fun _ _ => rfl) rfl hg (ok_one (by kernel_rfl) rfl (okWide_bool_mk Try.underlying4 _))⟩
set_option maxRecDepth 100000 in
theorem lifted (os : Os) (started : os.Started) (H : Type) (enc : TypeId × Value → H) :
    ReturnsInHanded {} Try.checked os 8 .any (Rows.crcMixesSpec.pre6 enc Try.prog Try.f8 Rows.crcMixesRow.domain false) (Rows.crcMixesSpec.post enc Try.prog Try.f8 false true false false) := by
  refine returnsInHanded_of_change (C := Try.checked) Fr.own started (by kernel_rfl) Try.func8
    (ChangeSpec.witness6 (enc := enc) (C := Try.checked) false ⟨#[], #[.string ⟨#[]⟩, .string ⟨#[]⟩], []⟩ 8 (by kernel_rfl) (by kernel_rfl) (by kernel_rfl) (by kernel_rfl)) ?_
  intro W base args ds gs before hval hW _ _
  exact contract H enc W base args ds gs before hval hW
theorem said : Rows.CrcMixesSaid :=
  OpenClaim.holds_of_wide 8 Try.f8 rfl rfl rfl rfl rfl rfl rfl ⟨rfl, rfl, rfl, rfl, rfl⟩ rfl rfl rfl rfl rfl (by kernel_rfl) Try.func8 (by kernel_rfl)
    (of_decide_eq_true (by kernel_rfl)) (by unfold Func.isWrapper; first | (rw [if_pos (by decide +kernel)]; kernel_rfl) | (rw [if_neg (by decide +kernel)]; exact ⟨rfl, rfl⟩))
    (fun os started H enc _ => lifted os started H enc)
end LaCrcMixes
end Go.Proofs.Ytinnkdbojgoicaa
