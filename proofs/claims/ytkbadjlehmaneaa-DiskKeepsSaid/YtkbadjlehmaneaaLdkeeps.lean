/- DiskKeeps is proved: for every script the law returns true and its argument reads as it did. No other condition. -/
import Derived.Test.YtkbadjlehmaneaaDr
import Derived.Test.YtkbadjlehmaneaaFra
import Derived.WideKeyPair
import Derived.SizedLaws
namespace Go.Proofs.Ytkbadjlehmaneaa
open Go.ChangeShapes Go.WideShapes Go.ChangeAt Go.RowKit
open Go.ChangeMaps (open_string shut_string)
namespace LaDiskKeeps
open Dsk
theorem wstep_is (d : PD) (k : Int) (s : ByteArray) : (d.wstep k s).n = d.n ∧ (d.wstep k s).fu = d.fu ∧ (d.wstep k s).cs.length ≤ d.cs.length + 1 ∧ (d.wstep k s).wr ≤ d.wr + 1 ∧ (d.wstep k s).fl = d.fl := by
  unfold PD.wstep
  split
  · refine ⟨rfl, rfl, ?_, Nat.le_refl _, rfl⟩
    simp [PD.burn, PD.write]
  · exact ⟨rfl, rfl, Nat.le_succ _, Nat.le_succ _, rfl⟩
theorem fstep_is (d : PD) : d.fstep.n = d.n ∧ d.fstep.fu = d.fu ∧ d.fstep.cs.length ≤ d.cs.length ∧ d.fstep.wr = d.wr ∧ d.fstep.fl ≤ d.fl + 1 := by
  unfold PD.fstep
  split
  · exact ⟨rfl, rfl, Nat.le_refl _, rfl, Nat.le_succ _⟩
  · exact ⟨rfl, rfl, Nat.zero_le _, rfl, Nat.le_refl _⟩
theorem redo_snoc (f : Int → List UInt8) (cs : List Wt) (x : Wt) : redo f (cs ++ [x]) (List.replicate (cs ++ [x]).length true) = upd (redo f cs (List.replicate cs.length true)) x.pos x.laid := by
  unfold redo
  rw [List.length_append, List.length_singleton, List.replicate_succ', List.zip_append (by simp), List.foldl_append]
  rfl
theorem redo_none (f : Int → List UInt8) (cs : List Wt) (m : Nat) : redo f cs (List.replicate m false) = f := by
  unfold redo
  have h : ∀ (l : List (Wt × Bool)) (f : Int → List UInt8), (∀ p ∈ l, p.2 = false) → l.foldl (fun f p => if p.2 then upd f p.1.pos p.1.laid else f) f = f := by
    intro l
    induction l with
    | nil => intro f _; rfl
    | cons p l ih =>
      intro f hp
      rw [List.foldl_cons, hp p (List.mem_cons_self ..)]
      exact ih _ (fun q hq => hp q (List.mem_cons_of_mem _ hq))
  exact h _ _ (fun p hp => List.eq_of_mem_replicate (List.of_mem_zip hp).2)
theorem redo_nil (f : Int → List UInt8) (cs : List Wt) : redo f cs [] = f := by
  unfold redo
  rw [List.zip_nil_right]; rfl
/-- What was written is what is laid anew. -/
def Full (d : PD) : Prop := redo (undoW d.f d.cs) d.cs (List.replicate d.cs.length true) = d.f
theorem Full.new (n : Nat) : Full (PD.new n) := rfl
theorem Full.write {d : PD} (h : Full d) (k : Nat) (s : List UInt8) : Full (d.write k s) := by
  show redo (undoW (upd d.f k (pad s)) (d.cs ++ [(⟨k, pad s, d.f k⟩ : Wt)])) (d.cs ++ [(⟨k, pad s, d.f k⟩ : Wt)]) (List.replicate (d.cs ++ [(⟨k, pad s, d.f k⟩ : Wt)]).length true) = upd d.f k (pad s)
  rw [undoW_write, redo_snoc, h]
theorem Full.flush (d : PD) : Full d.flush := rfl
theorem Full.burn {d : PD} (h : Full d) : Full d.burn := h
theorem Full.wstep {d : PD} (h : Full d) (k : Int) (s : ByteArray) : Full (d.wstep k s) := by
  unfold PD.wstep
  split
  · exact (h.write _ _).burn
  · exact h
theorem Full.fstep {d : PD} (h : Full d) : Full d.fstep := by
  unfold PD.fstep
  split
  · exact h
  · exact (Full.flush d).burn
/-- What a script leaves of a disk of eight sectors without a fuse. -/
def Small (i : Nat) (d : PD) : Prop := d.n = 8 ∧ d.fu = false ∧ d.cs.length ≤ i ∧ d.wr ≤ i ∧ d.fl ≤ i ∧ Full d
theorem Small.write {i : Nat} {d : PD} (h : Small i d) (k : Int) (s : ByteArray) : Small (i + 1) (d.wstep k s) := by
  obtain ⟨h1, h2, h3, h4, h5, h6⟩ := h
  obtain ⟨g1, g2, g3, g4, g5⟩ := wstep_is d k s
  exact ⟨g1.trans h1, g2.trans h2, by omega, by omega, by omega, h6.wstep _ _⟩
theorem Small.flush {i : Nat} {d : PD} (h : Small i d) : Small (i + 1) d.fstep := by
  obtain ⟨h1, h2, h3, h4, h5, h6⟩ := h
  obtain ⟨g1, g2, g3, g4, g5⟩ := fstep_is d
  exact ⟨g1.trans h1, g2.trans h2, by omega, by omega, by omega, h6.fstep⟩
theorem Small.more {i j : Nat} {d : PD} (h : Small i d) (hj : i ≤ j) : Small j d := by
  obtain ⟨h1, h2, h3, h4, h5, h6⟩ := h
  exact ⟨h1, h2, by omega, by omega, by omega, h6⟩
/-- The blocks from a on, ahead of b. -/
def Zn (a b k : Nat) : Prop := a ≤ k ∧ k < b
theorem zn_not {a b c e : Nat} (h : b ≤ c ∨ e ≤ a) : ∀ k, Zn a b k → ¬ Zn c e k := fun k h1 h2 => by
  have := h1.1; have := h1.2; have := h2.1; have := h2.2; omega
/-- The row of truths of which the first k have been laid. -/
def part (n k : Nat) : List Bool := List.replicate k true ++ List.replicate (n - k) false
theorem part_len {n k : Nat} (h : k ≤ n) : (part n k).length = n := by simp [part]; omega
theorem part_set {n k : Nat} (h : k < n) : (part n k).set k true = part n (k + 1) := by
  unfold part
  rw [List.set_append_right _ _ (by simp), List.length_replicate, Nat.sub_self, show n - k = (n - (k + 1)) + 1 by omega, List.replicate_succ, List.set_cons_zero, List.replicate_succ', List.append_assoc]
  rfl
theorem part_all (n : Nat) : part n n = List.replicate n true := by simp [part]
def bls (ks : List Bool) : Array Value := (ks.map Value.bool).toArray
theorem bls_made (n : Nat) : madeCells #[.bool false] n = bls (List.replicate n false) := by
  apply Array.toList_inj.1
  rw [toList_madeCells_one]
  simp [bls]
theorem bls_set (ks : List Bool) (k : Nat) : (bls ks).setIfInBounds k (.bool true) = bls (ks.set k true) := by
  apply Array.toList_inj.1
  simp [bls, List.map_set]
theorem bools_row {ks : List Bool} {G : Nat} {w : World} (h : w.heap[G]? = some (.cells (bls ks) 4 (0, 0))) (hl : ks.length ≤ 1000000) : BoolsAt ks (some ⟨G, 0, none⟩) ks.length w := by
  refine ⟨Nat.le_refl _, by omega, fun _ => ⟨G, 0, rfl, lt_of_block h, fun j hj => ?_⟩⟩
  rw [Nat.zero_add, cell_of_row _ _ j _ _ (0, 0) h]
  simp [bls, hj]
theorem infoB : (Try.prog.info? 4).map (fun i => (i.zero, i.size, i.bytes)) = some (some (.bool false), 1, 1) := by kernel_rfl
theorem make_bools (n : Nat) (hn : n ≤ 1000000) (w : World) : (Instr.makeSlice 31 (.int .i64 (n : Int)) (.int .i64 (n : Int))).run Try.prog w = .ok (.slice (some ⟨w.heap.size, 0, none⟩) n n) (w.alloc (.cells (bls (List.replicate n false)) 4)) := by
  obtain ⟨i0, hi, hz0, hz1, hz2⟩ := info_parts infoB
  have := run_makeSlice (P := Try.prog) (w := w) 31 4 i0 (.bool false) Try.underlying31 hi hz0 .i64 .i64 n n (by omega) (Int.le_refl _) (by rw [hz1]; omega) (by rw [hz2]; omega) (by omega)
  rw [hz1] at this
  simp only [Int.toNat_natCast, Nat.mul_one] at this
  rw [this, show (Value.bool false).cells = #[.bool false] from rfl, bls_made]
set_option maxHeartbeats 8000000 in
set_option maxRecDepth 100000 in
theorem main_any (l : List Opv) (lo : Option Addr) (n lc : Nat) (w : World) (hn : n = l.length) (hnb : n ≤ 9223372036854775807) (hin : OpsAt l (.slice lo n lc) w) :
    Calls Try.prog 5 #[.slice lo n lc] w fun e w' => e = .returned (.bool true) ∧ Below w.heap.size w w' := by
  have HL := hidm hin
  have HN := hidm hn
  clear hin hn
  go_enter Try.func5, Try.ntmps5
  go_wp2_with fail
  refine (m_new (W := w) 8 (by decide) (by decide) (Below.refl _ _)).mono ?_
  rintro e w1 ⟨rfl, hm, hb⟩
  have H0 := hidm hm
  clear hm hb
  obtain ⟨D, hD⟩ : ∃ D, D = w.heap.size + 1 := ⟨_, rfl⟩
  rw [← hD] at H0 ⊢
  clear hD
  go_wp2_with fail
  go_loopw [5] (fun ii wr => ∃ (i : Nat) (d : PD), ii = .int .i64 i ∧ i ≤ n ∧ i ≤ 40 ∧ Hid (Mine w (fun _ => False) D d wr) ∧ Hid (Small i d)) (fun ii _ => (n - (intOf ii).toNat))
  case atStart => exact ⟨0, _, rfl, by omega, by omega, H0, hidm ⟨rfl, rfl, Nat.le_refl _, Nat.le_refl _, Nat.le_refl _, Full.new _⟩⟩
  case round =>
    rename World => wr
    obtain ⟨i, d, rfl, hi, hi2, HM, HD⟩ := hrel
    rcases Nat.lt_or_ge i n with hlt | hge
    · rcases Nat.lt_or_ge i 40 with hlt2 | hge2
      · have g1 : (i : Int) < n := by omega
        have g2 : (i : Int) < 40 := by omega
        have hil : i < l.length := by have := HN.out; omega
        obtain ⟨b, o, cp, he, hb, q0, q1, q2, q3⟩ := HL.out.at i hil
        simp only [Value.slice.injEq] at he
        obtain ⟨rfl, -, rfl⟩ := he
        obtain ⟨x, hx⟩ : ∃ x, x = l[i] := ⟨_, rfl⟩
        rw [← hx] at q0 q1 q2
        have Q0 := hidm q0
        have Q1 := hidm q1
        have Q2 := hidm q2
        have hbel := HM.out.bel
        have p0 := (hbel.cell (p := ⟨b, o + i * 4, none⟩) hb).trans q0
        have p1 := (hbel.cell (p := ⟨b, o + i * 4 + 1, none⟩) hb).trans q1
        have p2 := (hbel.cell (p := ⟨b, o + i * 4 + 2, none⟩) hb).trans q2
        have HBL := hidm hbel
        clear hx q0 q1 q2 q3 hbel
        by_cases hk0 : x.kind = 0
        · rw [hk0] at p0
          go_wp2_with fail
          have HSK := hidm (show ∀ w5, Below w.heap.size w w5 → w5.cell? ⟨b, o + i * 4 + 1, none⟩ = some (.int .i64 x.pos) ∧ w5.cell? ⟨b, o + i * 4 + 2, none⟩ = some (.string x.s) from fun w5 h5 => ⟨(h5.cell (p := ⟨b, o + i * 4 + 1, none⟩) hb).trans Q1.out, (h5.cell (p := ⟨b, o + i * 4 + 2, none⟩) hb).trans Q2.out⟩)
          refine wp_region_held_drew (S := fun u => u.cell? ⟨b, o + i * 4 + 1, none⟩ = some (.int .i64 x.pos) ∧ u.cell? ⟨b, o + i * 4 + 2, none⟩ = some (.string x.s)) (by kernel_rfl) (HSK.out _ (HBL.out.drew)) (fun hHeld => ?_)
          have HM := hidm (HM.out.later ((Below.refl _ _).drew))
          refine Man.take1 (i := 0) (v := ?_) rfl (by kernel_rfl) (by kernel_rfl) (by kernel_rfl) (fun _ _ _ h => h) (by rfl) ?_ (by assumption) ?_
          rotate_left
          · (intro u hSu; (try dsimp only at hSu); go_simp; (try with_reducible rfl))
          (try simp only [Act.put, List.setIfInBounds_toArray, List.set_cons_zero, List.set_cons_succ])
          refine Man.take1 (i := 1) (v := ?_) rfl (by kernel_rfl) (by kernel_rfl) (by kernel_rfl) (fun _ _ _ h => h) (by rfl) ?_ (by assumption) ?_
          rotate_left
          · (intro u hSu; (try dsimp only at hSu); go_simp; (try with_reducible rfl))
          (try simp only [Act.put, List.setIfInBounds_toArray, List.set_cons_zero, List.set_cons_succ])
          refine Man.take1 (i := 2) (v := ?_) rfl (by kernel_rfl) (by kernel_rfl) (by kernel_rfl) (fun _ _ _ h => h) (by rfl) ?_ (by assumption) ?_
          rotate_left
          · (intro u hSu; (try dsimp only at hSu); go_simp; (try with_reducible rfl))
          (try simp only [Act.put, List.setIfInBounds_toArray, List.set_cons_zero, List.set_cons_succ])
          refine Man.take1 (i := 3) (v := ?_) rfl (by kernel_rfl) (by kernel_rfl) (by kernel_rfl) (fun _ _ _ h => h) (by rfl) ?_ (by assumption) ?_
          rotate_left
          · (intro u hSu; (try dsimp only at hSu); go_simp; (try with_reducible rfl))
          (try simp only [Act.put, List.setIfInBounds_toArray, List.set_cons_zero, List.set_cons_succ])
          refine Man.take1 (i := 4) (v := ?_) rfl (by kernel_rfl) (by kernel_rfl) (by kernel_rfl) (fun _ _ _ h => h) (by rfl) ?_ (by assumption) ?_
          rotate_left
          · (intro u hSu; (try dsimp only at hSu); go_simp; (try with_reducible rfl))
          (try simp only [Act.put, List.setIfInBounds_toArray, List.set_cons_zero, List.set_cons_succ])
          refine Man.take1 (i := 5) (v := ?_) rfl (by kernel_rfl) (by kernel_rfl) (by kernel_rfl) (fun _ _ _ h => h) (by rfl) ?_ (by assumption) ?_
          rotate_left
          · (intro u hSu; (try dsimp only at hSu); go_simp; (try with_reducible rfl))
          (try simp only [Act.put, List.setIfInBounds_toArray, List.set_cons_zero, List.set_cons_succ])
          refine Man.take1 (i := 6) (v := ?_) rfl (by kernel_rfl) (by kernel_rfl) (by kernel_rfl) (fun _ _ _ h => h) (by rfl) ?_ (by assumption) ?_
          rotate_left
          · (intro u hSu; (try dsimp only at hSu); go_simp; (try with_reducible rfl))
          (try simp only [Act.put, List.setIfInBounds_toArray, List.set_cons_zero, List.set_cons_succ])
          refine Man.take1 (i := 7) (v := ?_) rfl (by kernel_rfl) (by kernel_rfl) (by kernel_rfl) (fun _ _ _ h => h) (by rfl) ?_ (by assumption) ?_
          rotate_left
          · (intro u hSu; (try dsimp only at hSu); go_simp; (try with_reducible rfl))
          (try simp only [Act.put, List.setIfInBounds_toArray, List.set_cons_zero, List.set_cons_succ])
          refine Man.take1 (i := 8) (v := ?_) rfl (by kernel_rfl) (by kernel_rfl) (by kernel_rfl) (fun _ _ _ h => h) (by rfl) ?_ (by assumption) ?_
          rotate_left
          · (intro u hSu; (try dsimp only at hSu); go_simp; (try with_reducible rfl))
          (try simp only [Act.put, List.setIfInBounds_toArray, List.set_cons_zero, List.set_cons_succ])
          refine Man.take1 (i := 9) (v := ?_) rfl (by kernel_rfl) (by kernel_rfl) (by kernel_rfl) (fun _ _ _ h => h) (by rfl) ?_ (by assumption) ?_
          rotate_left
          · (intro u hSu; (try dsimp only at hSu); go_simp; (try with_reducible rfl))
          (try simp only [Act.put, List.setIfInBounds_toArray, List.set_cons_zero, List.set_cons_succ])
          refine Man.take1 (i := 10) (v := ?_) rfl (by kernel_rfl) (by kernel_rfl) (by kernel_rfl) (fun _ _ _ h => h) (by rfl) ?_ (by assumption) ?_
          rotate_left
          · (intro u hSu; (try dsimp only at hSu); go_simp; (try with_reducible rfl))
          (try simp only [Act.put, List.setIfInBounds_toArray, List.set_cons_zero, List.set_cons_succ])
          refine Man.one (i := 11) rfl (by kernel_rfl) (fun K hK => ?_)
          go_simp
          refine (m_write_any x.pos x.s HM.out (by have := HD.out.2.2.1; omega) (by have := HD.out.2.2.2.1; omega)).mono ?_
          rintro e w5 ⟨rfl, hm5, hk5⟩
          have HM5 := hidm hm5
          clear hm5 hk5
          refine hK.out _ _ (HSK.out w5 HM5.out.bel) (fun hNew => ?_)
          clear hK K hHeld hNew
          (try simp only [Act.put, List.setIfInBounds_toArray, List.set_cons_zero, List.set_cons_succ])
          refine wpAnyH_done (by kernel_rfl) ?_ _
          have r0 : w5.cell? ⟨b, o + i * 4, none⟩ = some (.int .i64 0) := by rw [HM5.out.bel.cell (p := ⟨b, o + i * 4, none⟩) hb, Q0.out, hk0]
          clear p0 p1 p2
          go_wp2_with fail
          go_roundw
          case rel => exact ⟨i + 1, _, by go_num, by omega, by omega, HM5, hidm (HD.out.write _ _)⟩
          case measure => simp [intOf]; omega
        · have g3 : (x.kind == 0) = false := by simpa using hk0
          by_cases hk2 : x.kind = 2
          · rw [hk2] at p0
            go_wp2_with fail
            refine (m_flush_any HM.out (by have := HD.out.2.2.2.2.1; omega)).mono ?_
            rintro e w5 ⟨rfl, hm5, hk5⟩
            have HM5 := hidm hm5
            clear hm5 hk5
            go_wp2_with fail
            go_roundw
            case rel => exact ⟨i + 1, _, by go_num, by omega, by omega, HM5, hidm HD.out.flush⟩
            case measure => simp [intOf]; omega
          · have g4 : (x.kind == 2) = false := by simpa using hk2
            go_wp2_with fail
            go_roundw
            case rel => exact ⟨i + 1, d, by go_num, by omega, by omega, HM, hidm (HD.out.more (Nat.le_succ i))⟩
            case measure => simp [intOf]; omega
      · have g1 : (i : Int) < n := by omega
        have g2 : ¬ (i : Int) < 40 := by omega
        have HF := hidm HD.out.2.2.2.2.2
        have HN8 := hidm HD.out.1
        have HBU := hidm (show d.burnt = false from by unfold PD.burnt; rw [HD.out.2.1]; rfl)
        have HCL := hidm (show d.cs.length ≤ 40 from by have := HD.out.2.2.1; omega)
        have HFL := hidm (show d.fl < 1000000 from by have := HD.out.2.2.2.2.1; omega)
        have HB0 := hidm HM.out.bel
        obtain ⟨T, hT, hq⟩ := HM.out.ex
        have hA := hT.wider (T' := Zn w.heap.size wr.heap.size) (fun k hk => ⟨(hq k hk).1, hT.lt k hk⟩) (fun k hk => hk.2)
        have HA := hidm hA
        clear hT hq hA HD
        clear hge2
        go_wp2_with fail
        refine (copy_any wr HA.out).mono ?_
        rintro e w1 ⟨rfl, hd, hb⟩
        have HA1 := hidm (HA.out.later hb)
        have HBd := hidm (show DiskIs wr.heap.size d (Zn wr.heap.size w1.heap.size) w1 from hd)
        have HB1 := hidm (HB0.out.trans (hb.mono HB0.out.size))
        have s1 := hb.size
        clear hd hb
        obtain ⟨DB, hDB⟩ : ∃ DB, DB = wr.heap.size := ⟨_, rfl⟩
        rw [← hDB] at HA1 HBd s1 ⊢
        clear hDB
        go_wp2_with fail
        refine (copy_any w1 HA1.out).mono ?_
        rintro e w2 ⟨rfl, hd, hb⟩
        have HA2 := hidm (HA1.out.later hb)
        have HBd2 := hidm (HBd.out.later hb)
        have HC2 := hidm (show DiskIs w1.heap.size d (Zn w1.heap.size w2.heap.size) w2 from hd)
        have HB2 := hidm (HB1.out.trans (hb.mono HB1.out.size))
        have s2 := hb.size
        clear hd hb HA1 HBd HA HB1
        obtain ⟨DC, hDC⟩ : ∃ DC, DC = w1.heap.size := ⟨_, rfl⟩
        rw [← hDC] at HC2 HBd2 s1 s2 ⊢
        clear hDC
        go_wp2_with fail
        refine (flush_on w2 HA2.out HBU.out HFL.out).mono ?_
        rintro e w3 ⟨rfl, hd, ho⟩
        have HA3 := hidm hd
        have HB3 := hidm (HBd2.out.keep ho (zn_not (.inr (Nat.le_refl _))))
        have HC3 := hidm (HC2.out.keep ho (zn_not (.inr s1)))
        have HE3 := hidm (HB2.out.trans (ho.below (fun k hk => hk.1) HB2.out.size))
        have s3 := ho.size
        clear hd ho HA2 HBd2 HC2 HB2
        obtain ⟨dA, hdA⟩ : ∃ dA, dA = d.flush.burn := ⟨_, rfl⟩
        rw [← hdA] at HA3
        have HDA := hidm (show dA.f = d.f ∧ dA.n = d.n from by rw [hdA]; exact ⟨rfl, rfl⟩)
        obtain ⟨s2n, hs2n⟩ : ∃ s, s = w2.heap.size := ⟨_, rfl⟩
        rw [← hs2n] at HC3 s2 s3
        clear hdA hs2n
        go_wp2_with fail
        refine (dirty_any w3 HB3.out).mono ?_
        rintro e w4 ⟨vd, rfl, hi4, hb⟩
        have HA4 := hidm (HA3.out.later hb)
        have HB4 := hidm (HB3.out.later hb)
        have HC4 := hidm (HC3.out.later hb)
        have HE4 := hidm (HE3.out.trans (hb.mono HE3.out.size))
        have s4 := hb.size
        obtain ⟨vo, vc, hvd, hv1, hv2⟩ := hi4.form
        rw [dirty_len] at hvd hv1
        subst hvd
        clear hb hi4 HA3 HB3 HC3 HE3
        obtain ⟨nd, hnd⟩ : ∃ nd, nd = d.cs.length := ⟨_, rfl⟩
        have HND := hidm hnd
        have hn40 : nd ≤ 40 := by rw [hnd]; exact HCL.out
        rw [← hnd] at hv1 ⊢
        clear hnd
        have mk := make_bools nd (by omega)
        go_wp2_with fail
        clear mk
        obtain ⟨W5, hW5⟩ : ∃ W5, W5 = w4.alloc (.cells (bls (List.replicate nd false)) 4) := ⟨_, rfl⟩
        obtain ⟨G, hG⟩ : ∃ G, G = w4.heap.size := ⟨_, rfl⟩
        have hb5 : Below w4.heap.size w4 W5 := by rw [hW5]; exact (Below.refl _ _).alloc (Nat.le_refl _) _
        have HR5 := hidm (show W5.heap[G]? = some (.cells (bls (part nd 0)) 4 (0, 0)) from by rw [hW5, hG, heap_alloc_last w4 _]; simp [part])
        have HA5 := hidm (HA4.out.later hb5)
        have HB5 := hidm (HB4.out.later hb5)
        have HC5 := hidm (HC4.out.later hb5)
        have HE5 := hidm (HE4.out.trans (hb5.mono HE4.out.size))
        have HGL := hidm (show s2n ≤ G from by omega)
        have HGW := hidm (show w.heap.size ≤ G from by have := HE4.out.size; omega)
        have HO5 := hidm (Only.refl (fun q => q = G) W5)
        rw [← hW5, ← hG]
        clear hW5 hG hb5 HA4 HB4 HC4 HE4
        go_loopw [9] (fun kk wx => ∃ k : Nat, kk = .int .i64 k ∧ k ≤ nd ∧ Hid (wx.heap[G]? = some (.cells (bls (part nd k)) 4 (0, 0))) ∧ Hid (Only (fun q => q = G) W5 wx)) (fun kk _ => (nd - (intOf kk).toNat))
        case atStart => exact ⟨0, rfl, by omega, HR5, HO5⟩
        case round =>
          rename World => wx
          obtain ⟨k, rfl, hk, HR, HO⟩ := hrel
          rcases Nat.lt_or_ge k nd with hkl | hkl
          · have g5 : (k : Int) < nd := by omega
            have hck : wx.cell? ⟨G, k, none⟩ = some (.bool ((part nd k)[k]'(by rw [part_len hk]; exact hkl))) := by
              rw [row_cell HR.out k]
              have := part_len hk
              simp [bls, this, hkl]
            have hzk := frozen_of_row wx G k _ _ HR.out
            have HR2 := hidm (show (wx.setCell ⟨G, k, none⟩ (.bool true)).heap[G]? = some (.cells (bls (part nd (k + 1))) 4 (0, 0)) from by
              rw [heap_setCell_same wx G k _ _ _ HR.out, bls_set, part_set hkl])
            have HO2 := hidm (HO.out.set (p := ⟨G, k, none⟩) (.inl rfl) (.bool true))
            go_wp2_with fail
            go_roundw
            case rel => exact ⟨k + 1, by go_num, by omega, HR2, HO2⟩
            case measure => simp [intOf]; omega
          · obtain rfl : k = nd := by omega
            have g5 : ¬ (k : Int) < (k : Int) := by omega
            have hdis : ∀ a b, b ≤ s2n → ∀ q, Zn a b q → ¬ q = G := fun a b hb q h1 h2 => by have := h1.2; have := HGL.out; omega
            have HA6 := hidm (HA5.out.keep HO.out (hdis _ _ (by omega)))
            have HB6 := hidm (HB5.out.keep HO.out (hdis _ _ (by omega)))
            have HC6 := hidm (HC5.out.keep HO.out (hdis _ _ (by omega)))
            have HE6 := hidm (HE5.out.trans (HO.out.below (fun q hq => by have e : q = G := hq; have := HGW.out; omega) HE5.out.size))
            have HK6 := hidm (show BoolsAt (List.replicate k true) (some ⟨G, 0, none⟩) k wx from by
              have h := bools_row HR.out (by rw [part_len (Nat.le_refl _)]; omega)
              rw [part_len (Nat.le_refl _), part_all] at h
              exact h)
            have HGX := hidm (show G < wx.heap.size from lt_of_block HR.out)
            clear hdis HA5 HB5 HC5 HE5 HR HO HR5 HO5
            go_wp2_with fail
            refine (copy_any wx HC6.out).mono ?_
            rintro e w7 ⟨rfl, hd, hb⟩
            have HA7 := hidm (HA6.out.later hb)
            have HB7 := hidm (HB6.out.later hb)
            have HC7 := hidm (HC6.out.later hb)
            have HW7 := hidm (show DiskIs wx.heap.size d (Zn wx.heap.size w7.heap.size) w7 from hd)
            have HE7 := hidm (HE6.out.trans (hb.mono HE6.out.size))
            have HK7 := hidm (HK6.out.later hb)
            have s7 := hb.size
            obtain ⟨DW, hDW⟩ : ∃ DW, DW = wx.heap.size := ⟨_, rfl⟩
            have HGW2 := hidm (show G < DW from by rw [hDW]; exact HGX.out)
            rw [← hDW] at HW7 s7 ⊢
            clear hd hb hDW HA6 HB6 HC6 HE6 HK6
            obtain ⟨s7n, hs7n⟩ : ∃ s, s = w7.heap.size := ⟨_, rfl⟩
            rw [← hs7n] at HW7
            clear hs7n
            go_wp2_with fail
            have CR := crash_on (List.replicate k true) (some ⟨G, 0, none⟩) k w7 HB7.out (by rw [List.length_replicate, HND.out]; exact Nat.le_refl _) HK7.out (fun _ p hp e => by
              cases hp
              have := e.2
              have := HGL.out
              have : G < DC := e.2
              omega)
            rw [List.length_replicate] at CR
            refine CR.mono ?_
            clear CR
            rintro e w8 ⟨rfl, hd, ho⟩
            have HB8 := hidm hd
            have HA8 := hidm (HA7.out.keep ho (zn_not (.inl (Nat.le_refl _))))
            have HC8 := hidm (HC7.out.keep ho (zn_not (.inr (Nat.le_refl _))))
            have HW8 := hidm (HW7.out.keep ho (zn_not (.inr (by have := HGL.out; have := HGW2.out; omega))))
            have HE8 := hidm (HE7.out.trans (ho.below (fun q hq => by have := hq.1; have := HA7.out.tD.1; have := HA7.out.tD.2; omega) HE7.out.size))
            clear hd ho HA7 HB7 HC7 HW7 HE7 HK7
            go_wp2_with fail
            refine (crash_on [] none 0 w8 HC8.out (Nat.zero_le _) (BoolsAt.nil _) (fun h => absurd rfl h)).mono ?_
            rintro e w9 ⟨rfl, hd, ho⟩
            have HC9 := hidm hd
            have HA9 := hidm (HA8.out.keep ho (zn_not (.inl s1)))
            have HB9 := hidm (HB8.out.keep ho (zn_not (.inl (Nat.le_refl _))))
            have HW9 := hidm (HW8.out.keep ho (zn_not (.inr (by have := HGL.out; have := HGW2.out; omega))))
            have HE9 := hidm (HE8.out.trans (ho.below (fun q hq => by have := hq.1; have := HA8.out.tD.1; have := HA8.out.tD.2; omega) HE8.out.size))
            clear hd ho HA8 HB8 HC8 HW8 HE8
            have mk := make_bools k (by omega)
            go_wp2_with fail
            clear mk
            obtain ⟨W10, hW10⟩ : ∃ W10, W10 = w9.alloc (.cells (bls (List.replicate k false)) 4) := ⟨_, rfl⟩
            have hb10 : Below w9.heap.size w9 W10 := by rw [hW10]; exact (Below.refl _ _).alloc (Nat.le_refl _) _
            have HR10 := hidm (show W10.heap[w9.heap.size]? = some (.cells (bls (List.replicate k false)) 4 (0, 0)) from by rw [hW10, heap_alloc_last w9 _])
            have HA10 := hidm (HA9.out.later hb10)
            have HB10 := hidm (HB9.out.later hb10)
            have HC10 := hidm (HC9.out.later hb10)
            have HW10 := hidm (HW9.out.later hb10)
            have HE10 := hidm (HE9.out.trans (hb10.mono HE9.out.size))
            rw [← hW10]
            clear hW10 hb10 HA9 HB9 HC9 HE9
            have HK10 := hidm (show BoolsAt (List.replicate k false) (some ⟨w9.heap.size, 0, none⟩) k W10 from by
              have h := bools_row HR10.out (by rw [List.length_replicate]; omega)
              rw [List.length_replicate] at h
              exact h)
            have CR := crash_on (List.replicate k false) (some ⟨w9.heap.size, 0, none⟩) k W10 HW10.out (by rw [List.length_replicate, HND.out]; exact Nat.le_refl _) HK10.out (fun _ p hp e => by
              cases hp
              exact absurd (HW9.out.lt _ e) (Nat.lt_irrefl _))
            rw [List.length_replicate] at CR
            refine CR.mono ?_
            clear CR
            rintro e w11 ⟨rfl, hd, ho⟩
            have HW11 := hidm hd
            have HA11 := hidm (HA10.out.keep ho (zn_not (.inl (by have := HGL.out; have := HGW2.out; omega))))
            have HB11 := hidm (HB10.out.keep ho (zn_not (.inl (by have := HGL.out; have := HGW2.out; omega))))
            have HC11 := hidm (HC10.out.keep ho (zn_not (.inl (by have := HGL.out; have := HGW2.out; omega))))
            have HE11 := hidm (HE10.out.trans (ho.below (fun q hq => by have := hq.1; have := HGW.out; have := HGW2.out; omega) HE10.out.size))
            clear hd ho HA10 HB10 HC10 HW10 HE10 HW9 HK10 HR10
            have HFA := hidm (show dA.f = d.f ∧ dA.n = 8 from ⟨HDA.out.1, HDA.out.2.trans HN8.out⟩)
            have HFB := hidm (show (d.crash (List.replicate k true)).f = d.f ∧ (d.crash (List.replicate k true)).n = 8 from ⟨by show redo (undoW d.f d.cs) d.cs (List.replicate k true) = d.f; rw [HND.out]; exact HF.out, HN8.out⟩)
            have HFC := hidm (show (d.crash []).f = undoW d.f d.cs ∧ (d.crash []).n = 8 from ⟨redo_nil _ _, HN8.out⟩)
            have HFW := hidm (show (d.crash (List.replicate k false)).f = undoW d.f d.cs ∧ (d.crash (List.replicate k false)).n = 8 from ⟨redo_none _ _ _, HN8.out⟩)
            obtain ⟨dB, hdB⟩ : ∃ dB, dB = d.crash (List.replicate k true) := ⟨_, rfl⟩
            obtain ⟨dC, hdC⟩ : ∃ dC, dC = d.crash [] := ⟨_, rfl⟩
            obtain ⟨dW, hdW⟩ : ∃ dW, dW = d.crash (List.replicate k false) := ⟨_, rfl⟩
            rw [← hdB] at HB11 HFB
            rw [← hdC] at HC11 HFC
            rw [← hdW] at HW11 HFW
            have HX0 := hidm (Below.refl w11.heap.size w11)
            clear hdB hdC hdW
            go_wp2_with fail
            go_loopw [11] (fun kk wx => ∃ k : Nat, kk = .int .i64 k ∧ k ≤ 8 ∧ Hid (Below w11.heap.size w11 wx)) (fun kk _ => (8 - (intOf kk).toNat))
            case atStart => exact ⟨0, rfl, by omega, HX0⟩
            case round =>
              rename World => wz
              obtain ⟨q, rfl, hq8, HBZ⟩ := hrel
              rcases Nat.lt_or_ge q 8 with hql | hql
              · have g6 : (q : Int) < 8 := by omega
                obtain ⟨tx, htx⟩ : ∃ t, t = d.f (q : Nat) := ⟨_, rfl⟩
                obtain ⟨ux, hux⟩ : ∃ t, t = undoW d.f d.cs (q : Nat) := ⟨_, rfl⟩
                have HT := hidm htx
                have HU := hidm hux
                clear htx hux
                go_wp2_with fail
                refine (read_on q wz (HA11.out.later HBZ.out) (by rw [HFA.out.2]; exact hql)).mono ?_
                rintro e wy ⟨rfl, hby⟩
                rw [HFA.out.1, ← HT.out]
                have HBA := hidm (HBZ.out.trans (hby.mono HBZ.out.size))
                clear hby
                go_wp2_with fail
                refine (read_on q wy (HB11.out.later HBA.out) (by rw [HFB.out.2]; exact hql)).mono ?_
                rintro e wy2 ⟨rfl, hby⟩
                rw [HFB.out.1, ← HT.out]
                have HBB := hidm (HBA.out.trans (hby.mono HBA.out.size))
                clear hby
                go_wp2_with fail
                refine (read_on q wy2 (HC11.out.later HBB.out) (by rw [HFC.out.2]; exact hql)).mono ?_
                rintro e wy3 ⟨rfl, hby⟩
                rw [HFC.out.1, ← HU.out]
                have HBC := hidm (HBB.out.trans (hby.mono HBB.out.size))
                clear hby
                go_wp2_with fail
                refine (read_on q wy3 (HW11.out.later HBC.out) (by rw [HFW.out.2]; exact hql)).mono ?_
                rintro e wy4 ⟨rfl, hby⟩
                rw [HFW.out.1, ← HU.out]
                have HBD := hidm (HBC.out.trans (hby.mono HBC.out.size))
                clear hby
                go_wp2_with fail
                go_roundw
                case rel => exact ⟨q + 1, by go_num, by omega, HBD⟩
                case measure => simp [intOf]; omega
              · obtain rfl : q = 8 := by omega
                have g6 : ¬ (8 : Int) < 8 := by omega
                have HBK := hidm (HE11.out.trans (HBZ.out.mono HE11.out.size))
                go_wp2_with fail
                refine (known_any _).mono ?_
                rintro e wk ⟨rfl, hbk⟩
                have HBE := hidm (HBK.out.trans (hbk.mono HBK.out.size))
                clear hbk
                go_wp2_with fail
                go_ret
                exact ⟨rfl, HBE.out⟩
    · obtain rfl : i = n := by omega
      have g1 : ¬ (i : Int) < (i : Int) := by omega
      have HF := hidm HD.out.2.2.2.2.2
      have HN8 := hidm HD.out.1
      have HBU := hidm (show d.burnt = false from by unfold PD.burnt; rw [HD.out.2.1]; rfl)
      have HCL := hidm (show d.cs.length ≤ 40 from by have := HD.out.2.2.1; omega)
      have HFL := hidm (show d.fl < 1000000 from by have := HD.out.2.2.2.2.1; omega)
      have HB0 := hidm HM.out.bel
      obtain ⟨T, hT, hq⟩ := HM.out.ex
      have hA := hT.wider (T' := Zn w.heap.size wr.heap.size) (fun k hk => ⟨(hq k hk).1, hT.lt k hk⟩) (fun k hk => hk.2)
      have HA := hidm hA
      clear hT hq hA HD
      clear hge
      go_wp2_with fail
      refine (copy_any wr HA.out).mono ?_
      rintro e w1 ⟨rfl, hd, hb⟩
      have HA1 := hidm (HA.out.later hb)
      have HBd := hidm (show DiskIs wr.heap.size d (Zn wr.heap.size w1.heap.size) w1 from hd)
      have HB1 := hidm (HB0.out.trans (hb.mono HB0.out.size))
      have s1 := hb.size
      clear hd hb
      obtain ⟨DB, hDB⟩ : ∃ DB, DB = wr.heap.size := ⟨_, rfl⟩
      rw [← hDB] at HA1 HBd s1 ⊢
      clear hDB
      go_wp2_with fail
      refine (copy_any w1 HA1.out).mono ?_
      rintro e w2 ⟨rfl, hd, hb⟩
      have HA2 := hidm (HA1.out.later hb)
      have HBd2 := hidm (HBd.out.later hb)
      have HC2 := hidm (show DiskIs w1.heap.size d (Zn w1.heap.size w2.heap.size) w2 from hd)
      have HB2 := hidm (HB1.out.trans (hb.mono HB1.out.size))
      have s2 := hb.size
      clear hd hb HA1 HBd HA HB1
      obtain ⟨DC, hDC⟩ : ∃ DC, DC = w1.heap.size := ⟨_, rfl⟩
      rw [← hDC] at HC2 HBd2 s1 s2 ⊢
      clear hDC
      go_wp2_with fail
      refine (flush_on w2 HA2.out HBU.out HFL.out).mono ?_
      rintro e w3 ⟨rfl, hd, ho⟩
      have HA3 := hidm hd
      have HB3 := hidm (HBd2.out.keep ho (zn_not (.inr (Nat.le_refl _))))
      have HC3 := hidm (HC2.out.keep ho (zn_not (.inr s1)))
      have HE3 := hidm (HB2.out.trans (ho.below (fun k hk => hk.1) HB2.out.size))
      have s3 := ho.size
      clear hd ho HA2 HBd2 HC2 HB2
      obtain ⟨dA, hdA⟩ : ∃ dA, dA = d.flush.burn := ⟨_, rfl⟩
      rw [← hdA] at HA3
      have HDA := hidm (show dA.f = d.f ∧ dA.n = d.n from by rw [hdA]; exact ⟨rfl, rfl⟩)
      obtain ⟨s2n, hs2n⟩ : ∃ s, s = w2.heap.size := ⟨_, rfl⟩
      rw [← hs2n] at HC3 s2 s3
      clear hdA hs2n
      go_wp2_with fail
      refine (dirty_any w3 HB3.out).mono ?_
      rintro e w4 ⟨vd, rfl, hi4, hb⟩
      have HA4 := hidm (HA3.out.later hb)
      have HB4 := hidm (HB3.out.later hb)
      have HC4 := hidm (HC3.out.later hb)
      have HE4 := hidm (HE3.out.trans (hb.mono HE3.out.size))
      have s4 := hb.size
      obtain ⟨vo, vc, hvd, hv1, hv2⟩ := hi4.form
      rw [dirty_len] at hvd hv1
      subst hvd
      clear hb hi4 HA3 HB3 HC3 HE3
      obtain ⟨nd, hnd⟩ : ∃ nd, nd = d.cs.length := ⟨_, rfl⟩
      have HND := hidm hnd
      have hn40 : nd ≤ 40 := by rw [hnd]; exact HCL.out
      rw [← hnd] at hv1 ⊢
      clear hnd
      have mk := make_bools nd (by omega)
      go_wp2_with fail
      clear mk
      obtain ⟨W5, hW5⟩ : ∃ W5, W5 = w4.alloc (.cells (bls (List.replicate nd false)) 4) := ⟨_, rfl⟩
      obtain ⟨G, hG⟩ : ∃ G, G = w4.heap.size := ⟨_, rfl⟩
      have hb5 : Below w4.heap.size w4 W5 := by rw [hW5]; exact (Below.refl _ _).alloc (Nat.le_refl _) _
      have HR5 := hidm (show W5.heap[G]? = some (.cells (bls (part nd 0)) 4 (0, 0)) from by rw [hW5, hG, heap_alloc_last w4 _]; simp [part])
      have HA5 := hidm (HA4.out.later hb5)
      have HB5 := hidm (HB4.out.later hb5)
      have HC5 := hidm (HC4.out.later hb5)
      have HE5 := hidm (HE4.out.trans (hb5.mono HE4.out.size))
      have HGL := hidm (show s2n ≤ G from by omega)
      have HGW := hidm (show w.heap.size ≤ G from by have := HE4.out.size; omega)
      have HO5 := hidm (Only.refl (fun q => q = G) W5)
      rw [← hW5, ← hG]
      clear hW5 hG hb5 HA4 HB4 HC4 HE4
      go_loopw [9] (fun kk wx => ∃ k : Nat, kk = .int .i64 k ∧ k ≤ nd ∧ Hid (wx.heap[G]? = some (.cells (bls (part nd k)) 4 (0, 0))) ∧ Hid (Only (fun q => q = G) W5 wx)) (fun kk _ => (nd - (intOf kk).toNat))
      case atStart => exact ⟨0, rfl, by omega, HR5, HO5⟩
      case round =>
        rename World => wx
        obtain ⟨k, rfl, hk, HR, HO⟩ := hrel
        rcases Nat.lt_or_ge k nd with hkl | hkl
        · have g5 : (k : Int) < nd := by omega
          have hck : wx.cell? ⟨G, k, none⟩ = some (.bool ((part nd k)[k]'(by rw [part_len hk]; exact hkl))) := by
            rw [row_cell HR.out k]
            have := part_len hk
            simp [bls, this, hkl]
          have hzk := frozen_of_row wx G k _ _ HR.out
          have HR2 := hidm (show (wx.setCell ⟨G, k, none⟩ (.bool true)).heap[G]? = some (.cells (bls (part nd (k + 1))) 4 (0, 0)) from by
            rw [heap_setCell_same wx G k _ _ _ HR.out, bls_set, part_set hkl])
          have HO2 := hidm (HO.out.set (p := ⟨G, k, none⟩) (.inl rfl) (.bool true))
          go_wp2_with fail
          go_roundw
          case rel => exact ⟨k + 1, by go_num, by omega, HR2, HO2⟩
          case measure => simp [intOf]; omega
        · obtain rfl : k = nd := by omega
          have g5 : ¬ (k : Int) < (k : Int) := by omega
          have hdis : ∀ a b, b ≤ s2n → ∀ q, Zn a b q → ¬ q = G := fun a b hb q h1 h2 => by have := h1.2; have := HGL.out; omega
          have HA6 := hidm (HA5.out.keep HO.out (hdis _ _ (by omega)))
          have HB6 := hidm (HB5.out.keep HO.out (hdis _ _ (by omega)))
          have HC6 := hidm (HC5.out.keep HO.out (hdis _ _ (by omega)))
          have HE6 := hidm (HE5.out.trans (HO.out.below (fun q hq => by have e : q = G := hq; have := HGW.out; omega) HE5.out.size))
          have HK6 := hidm (show BoolsAt (List.replicate k true) (some ⟨G, 0, none⟩) k wx from by
            have h := bools_row HR.out (by rw [part_len (Nat.le_refl _)]; omega)
            rw [part_len (Nat.le_refl _), part_all] at h
            exact h)
          have HGX := hidm (show G < wx.heap.size from lt_of_block HR.out)
          clear hdis HA5 HB5 HC5 HE5 HR HO HR5 HO5
          go_wp2_with fail
          refine (copy_any wx HC6.out).mono ?_
          rintro e w7 ⟨rfl, hd, hb⟩
          have HA7 := hidm (HA6.out.later hb)
          have HB7 := hidm (HB6.out.later hb)
          have HC7 := hidm (HC6.out.later hb)
          have HW7 := hidm (show DiskIs wx.heap.size d (Zn wx.heap.size w7.heap.size) w7 from hd)
          have HE7 := hidm (HE6.out.trans (hb.mono HE6.out.size))
          have HK7 := hidm (HK6.out.later hb)
          have s7 := hb.size
          obtain ⟨DW, hDW⟩ : ∃ DW, DW = wx.heap.size := ⟨_, rfl⟩
          have HGW2 := hidm (show G < DW from by rw [hDW]; exact HGX.out)
          rw [← hDW] at HW7 s7 ⊢
          clear hd hb hDW HA6 HB6 HC6 HE6 HK6
          obtain ⟨s7n, hs7n⟩ : ∃ s, s = w7.heap.size := ⟨_, rfl⟩
          rw [← hs7n] at HW7
          clear hs7n
          go_wp2_with fail
          have CR := crash_on (List.replicate k true) (some ⟨G, 0, none⟩) k w7 HB7.out (by rw [List.length_replicate, HND.out]; exact Nat.le_refl _) HK7.out (fun _ p hp e => by
            cases hp
            have := e.2
            have := HGL.out
            have : G < DC := e.2
            omega)
          rw [List.length_replicate] at CR
          refine CR.mono ?_
          clear CR
          rintro e w8 ⟨rfl, hd, ho⟩
          have HB8 := hidm hd
          have HA8 := hidm (HA7.out.keep ho (zn_not (.inl (Nat.le_refl _))))
          have HC8 := hidm (HC7.out.keep ho (zn_not (.inr (Nat.le_refl _))))
          have HW8 := hidm (HW7.out.keep ho (zn_not (.inr (by have := HGL.out; have := HGW2.out; omega))))
          have HE8 := hidm (HE7.out.trans (ho.below (fun q hq => by have := hq.1; have := HA7.out.tD.1; have := HA7.out.tD.2; omega) HE7.out.size))
          clear hd ho HA7 HB7 HC7 HW7 HE7 HK7
          go_wp2_with fail
          refine (crash_on [] none 0 w8 HC8.out (Nat.zero_le _) (BoolsAt.nil _) (fun h => absurd rfl h)).mono ?_
          rintro e w9 ⟨rfl, hd, ho⟩
          have HC9 := hidm hd
          have HA9 := hidm (HA8.out.keep ho (zn_not (.inl s1)))
          have HB9 := hidm (HB8.out.keep ho (zn_not (.inl (Nat.le_refl _))))
          have HW9 := hidm (HW8.out.keep ho (zn_not (.inr (by have := HGL.out; have := HGW2.out; omega))))
          have HE9 := hidm (HE8.out.trans (ho.below (fun q hq => by have := hq.1; have := HA8.out.tD.1; have := HA8.out.tD.2; omega) HE8.out.size))
          clear hd ho HA8 HB8 HC8 HW8 HE8
          have mk := make_bools k (by omega)
          go_wp2_with fail
          clear mk
          obtain ⟨W10, hW10⟩ : ∃ W10, W10 = w9.alloc (.cells (bls (List.replicate k false)) 4) := ⟨_, rfl⟩
          have hb10 : Below w9.heap.size w9 W10 := by rw [hW10]; exact (Below.refl _ _).alloc (Nat.le_refl _) _
          have HR10 := hidm (show W10.heap[w9.heap.size]? = some (.cells (bls (List.replicate k false)) 4 (0, 0)) from by rw [hW10, heap_alloc_last w9 _])
          have HA10 := hidm (HA9.out.later hb10)
          have HB10 := hidm (HB9.out.later hb10)
          have HC10 := hidm (HC9.out.later hb10)
          have HW10 := hidm (HW9.out.later hb10)
          have HE10 := hidm (HE9.out.trans (hb10.mono HE9.out.size))
          rw [← hW10]
          clear hW10 hb10 HA9 HB9 HC9 HE9
          have HK10 := hidm (show BoolsAt (List.replicate k false) (some ⟨w9.heap.size, 0, none⟩) k W10 from by
            have h := bools_row HR10.out (by rw [List.length_replicate]; omega)
            rw [List.length_replicate] at h
            exact h)
          have CR := crash_on (List.replicate k false) (some ⟨w9.heap.size, 0, none⟩) k W10 HW10.out (by rw [List.length_replicate, HND.out]; exact Nat.le_refl _) HK10.out (fun _ p hp e => by
            cases hp
            exact absurd (HW9.out.lt _ e) (Nat.lt_irrefl _))
          rw [List.length_replicate] at CR
          refine CR.mono ?_
          clear CR
          rintro e w11 ⟨rfl, hd, ho⟩
          have HW11 := hidm hd
          have HA11 := hidm (HA10.out.keep ho (zn_not (.inl (by have := HGL.out; have := HGW2.out; omega))))
          have HB11 := hidm (HB10.out.keep ho (zn_not (.inl (by have := HGL.out; have := HGW2.out; omega))))
          have HC11 := hidm (HC10.out.keep ho (zn_not (.inl (by have := HGL.out; have := HGW2.out; omega))))
          have HE11 := hidm (HE10.out.trans (ho.below (fun q hq => by have := hq.1; have := HGW.out; have := HGW2.out; omega) HE10.out.size))
          clear hd ho HA10 HB10 HC10 HW10 HE10 HW9 HK10 HR10
          have HFA := hidm (show dA.f = d.f ∧ dA.n = 8 from ⟨HDA.out.1, HDA.out.2.trans HN8.out⟩)
          have HFB := hidm (show (d.crash (List.replicate k true)).f = d.f ∧ (d.crash (List.replicate k true)).n = 8 from ⟨by show redo (undoW d.f d.cs) d.cs (List.replicate k true) = d.f; rw [HND.out]; exact HF.out, HN8.out⟩)
          have HFC := hidm (show (d.crash []).f = undoW d.f d.cs ∧ (d.crash []).n = 8 from ⟨redo_nil _ _, HN8.out⟩)
          have HFW := hidm (show (d.crash (List.replicate k false)).f = undoW d.f d.cs ∧ (d.crash (List.replicate k false)).n = 8 from ⟨redo_none _ _ _, HN8.out⟩)
          obtain ⟨dB, hdB⟩ : ∃ dB, dB = d.crash (List.replicate k true) := ⟨_, rfl⟩
          obtain ⟨dC, hdC⟩ : ∃ dC, dC = d.crash [] := ⟨_, rfl⟩
          obtain ⟨dW, hdW⟩ : ∃ dW, dW = d.crash (List.replicate k false) := ⟨_, rfl⟩
          rw [← hdB] at HB11 HFB
          rw [← hdC] at HC11 HFC
          rw [← hdW] at HW11 HFW
          have HX0 := hidm (Below.refl w11.heap.size w11)
          clear hdB hdC hdW
          go_wp2_with fail
          go_loopw [11] (fun kk wx => ∃ k : Nat, kk = .int .i64 k ∧ k ≤ 8 ∧ Hid (Below w11.heap.size w11 wx)) (fun kk _ => (8 - (intOf kk).toNat))
          case atStart => exact ⟨0, rfl, by omega, HX0⟩
          case round =>
            rename World => wz
            obtain ⟨q, rfl, hq8, HBZ⟩ := hrel
            rcases Nat.lt_or_ge q 8 with hql | hql
            · have g6 : (q : Int) < 8 := by omega
              obtain ⟨tx, htx⟩ : ∃ t, t = d.f (q : Nat) := ⟨_, rfl⟩
              obtain ⟨ux, hux⟩ : ∃ t, t = undoW d.f d.cs (q : Nat) := ⟨_, rfl⟩
              have HT := hidm htx
              have HU := hidm hux
              clear htx hux
              go_wp2_with fail
              refine (read_on q wz (HA11.out.later HBZ.out) (by rw [HFA.out.2]; exact hql)).mono ?_
              rintro e wy ⟨rfl, hby⟩
              rw [HFA.out.1, ← HT.out]
              have HBA := hidm (HBZ.out.trans (hby.mono HBZ.out.size))
              clear hby
              go_wp2_with fail
              refine (read_on q wy (HB11.out.later HBA.out) (by rw [HFB.out.2]; exact hql)).mono ?_
              rintro e wy2 ⟨rfl, hby⟩
              rw [HFB.out.1, ← HT.out]
              have HBB := hidm (HBA.out.trans (hby.mono HBA.out.size))
              clear hby
              go_wp2_with fail
              refine (read_on q wy2 (HC11.out.later HBB.out) (by rw [HFC.out.2]; exact hql)).mono ?_
              rintro e wy3 ⟨rfl, hby⟩
              rw [HFC.out.1, ← HU.out]
              have HBC := hidm (HBB.out.trans (hby.mono HBB.out.size))
              clear hby
              go_wp2_with fail
              refine (read_on q wy3 (HW11.out.later HBC.out) (by rw [HFW.out.2]; exact hql)).mono ?_
              rintro e wy4 ⟨rfl, hby⟩
              rw [HFW.out.1, ← HU.out]
              have HBD := hidm (HBC.out.trans (hby.mono HBC.out.size))
              clear hby
              go_wp2_with fail
              go_roundw
              case rel => exact ⟨q + 1, by go_num, by omega, HBD⟩
              case measure => simp [intOf]; omega
            · obtain rfl : q = 8 := by omega
              have g6 : ¬ (8 : Int) < 8 := by omega
              have HBK := hidm (HE11.out.trans (HBZ.out.mono HE11.out.size))
              go_wp2_with fail
              refine (known_any _).mono ?_
              rintro e wk ⟨rfl, hbk⟩
              have HBE := hidm (HBK.out.trans (hbk.mono HBK.out.size))
              clear hbk
              go_wp2_with fail
              go_ret
              exact ⟨rfl, HBE.out⟩
theorem law_any (l : List Opv) (sl : Value) (w : World) (hin : OpsAt l sl w) :
    Calls Try.prog 5 #[sl] w fun e w' => e = .returned (.bool true) ∧ Below w.heap.size w w' := by
  obtain ⟨lo, lc, rfl, h1, h2⟩ := hin.form
  exact main_any l lo _ lc w rfl (by omega) hin
theorem laidOut : laidOutB Try.prog = true := by kernel_rfl
set_option maxRecDepth 100000 in
theorem contract (H : Type) (enc : TypeId × Value → H) (W : World) (base : Nat) (args : Array Value) (ds gs : List (DataW H)) (before : List MemPlace)
    (hval : ∀ (j : Nat) t v, Try.f5.params[j]? = some t → args[j]? = some v → Value.okWide Try.prog W .any base t v)
    (hW : DataW.Whole enc Try.prog Try.f5.params.toList Rows.diskKeepsSpec.vars false W args.toList ds gs before)
    (hsz0 : (DataW.weightsEach Try.prog (Try.f5.params.toList ++ Rows.diskKeepsSpec.plain.varTypes Try.prog) (ds ++ gs)).all (· ≤ reachBytes) = true) :
    Calls Try.prog 5 args W fun e W' => ∃ v, e = .returned v ∧ Rows.diskKeepsSpec.post enc Try.prog Try.f5 false true false false W args v W' := by
  have hW' := hW
  obtain ⟨p, q, hA0, hV, rfl, hfz, hnd⟩ := hW
  have hA : DataW.TrodAll enc Try.prog W 0 (fun _ => true) true Try.f5.params.toList args.toList ds p := hA0
  rw [Try.params5] at hA hval hsz0
  obtain ⟨v0, vs0, d0, ds0, p0, q0, hargs, rfl, rfl, h0, r0⟩ := trodAll_cons hA
  obtain ⟨rfl, rfl, rfl⟩ := trodAll_nil r0
  obtain rfl : args = #[v0] := by cases args; simp_all
  obtain ⟨rfl, rfl⟩ := trodVars_none hV
  have hsz := fun n hn => of_decide_eq_true (List.all_eq_true.1 hsz0 n hn)
  obtain ⟨l, hml, hnl⟩ := open_ops (hval 0 22 v0 rfl rfl) h0
  clear hA0 hsz0
  simp only [List.append_nil] at hW'
  have hlt : ∀ x ∈ p0, x.block < W.heap.size := fun x hx => hW'.lt x (by simpa using hx)
  have walk := law_any l v0 W hml
  refine walk.mono fun e W' ⟨he, hg⟩ => ?_
  subst he
  refine ⟨_, rfl, Fr.post_made (pa := p0) (pv := []) hW' (fun _ _ _ => trodAll_cons_mk (shut_bool Try.underlying4 _) trodAll_mk0) (fun sp hsp => ?_) (fun _ _ => rfl) (by simp) hg (ok_one (by kernel_rfl) rfl (okWide_bool_mk Try.underlying4 _))⟩
  have g0 : DataW.Trod enc Try.prog W' 0 sp true 22 _ d0 p0 := WideElems.Trod_stays laidOut (by kernel_rfl) (of_decide_eq_true (by kernel_rfl)) h0 (fun x hx => hg.same (hlt x (by simp [hx]))) (fun x hx => hsp x (by simp [hx]))
  have hT := (trodAll_cons_mk g0 trodAll_mk0)
  simp only [List.append_nil] at hT
  exact hT
set_option maxRecDepth 100000 in
theorem lifted (os : Os) (started : os.Started) (H : Type) (enc : TypeId × Value → H) :
    ReturnsInHanded {} Try.checked os 5 .any (Rows.diskKeepsSpec.pre6 enc Try.prog Try.f5 Rows.diskKeepsRow.domain false) (Rows.diskKeepsSpec.post enc Try.prog Try.f5 false true false false) := by
  refine returnsInHanded_of_change_sized (C := Try.checked) Fr.own started (by kernel_rfl) Try.func5
    (ChangeSpec.witness6 (enc := enc) (C := Try.checked) false ⟨#[], #[.slice none 0 0], []⟩ 8 (by kernel_rfl) (by kernel_rfl) (by kernel_rfl) (by kernel_rfl)) ?_
  intro W base args ds gs before hval hW _ hsz _
  exact contract H enc W base args ds gs before hval hW hsz
theorem said : Rows.DiskKeepsSaid :=
  OpenClaim.holds_of_wide 5 Try.f5 rfl rfl rfl rfl rfl rfl rfl ⟨rfl, rfl, rfl, rfl, rfl⟩ rfl rfl rfl rfl rfl (by kernel_rfl) Try.func5 (by kernel_rfl)
    (of_decide_eq_true (by kernel_rfl)) (by unfold Func.isWrapper; first | (rw [if_pos (by decide +kernel)]; kernel_rfl) | (rw [if_neg (by decide +kernel)]; exact ⟨rfl, rfl⟩))
    (fun os started H enc _ => lifted os started H enc)
end LaDiskKeeps
end Go.Proofs.Ytkbadjlehmaneaa
