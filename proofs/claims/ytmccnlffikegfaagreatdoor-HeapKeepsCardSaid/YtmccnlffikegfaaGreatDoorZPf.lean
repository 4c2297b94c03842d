/- The map of the changes at the operations; Read, Write, Abort, Dirty. Conditions: as each says. -/
import Derived.Test.YtmccnlffikegfaaGreatDoorZWlto
import Derived.Test.YtmccnlffikegfaaGreatDoorZWi
namespace Go.Proofs.YtmccnlffikegfaaGreatDoor
open Go.RowKit
namespace Pgr
open Wal (Pair PL R)
open Dsk (PD Mine KeepQ Only below_keeps cell_later sec vals pad zeros upd IntsAt ints S)
theorem keyInt : Maps.Keyed Tryz.prog 3 := Maps.int_keyed Tryz.underlying3
theorem keyOf_nat (k : Nat) (hk : k ≤ 9223372036854775807) : keyOf Tryz.prog 3 (.int .i64 (k : Int)) = some (lit k) := by
  have hw : (Lit.int .i64 (k : Int)).wf = true := by
    have e1 : IntKind.i64.min = -9223372036854775808 := by decide
    have e2 : IntKind.i64.max = 9223372036854775807 := by decide
    simp only [Lit.wf, decide_eq_true_eq, Bool.and_eq_true, e1, e2]
    omega
  simp [keyOf, mapKey, Tryz.underlying3, hw, lit]
section
variable {M : Nat} {ch : Ch} {w : World}
theorem MapIs.look_ok (h : MapIs M ch w) (k : Nat) (hk : k ≤ 9223372036854775807) :
    (Instr.lookup 83 (.map (some M)) (.int .i64 (k : Int)) true).run Tryz.prog w = .ok (.tuple #[.agg (sec ((look ch k).getD zeros)), .bool (look ch k).isSome]) w := by
  obtain ⟨v, ps, hrun, hv⟩ := World.ownsMap.look_ok h keyInt Tryz.underlying83 (zeroCon w) (elem_sec Dsk.zeros_len) (keyOf_nat k hk)
  rw [dat_at] at hv
  obtain ⟨s, _, rfl, he⟩ := elem_inv hv
  simp only [Prod.mk.injEq, DataW.held.injEq] at he
  rw [hrun, he.1, dat_has]
theorem MapIs.look (h : MapIs M ch w) (k : Nat) (hk : k ≤ 9223372036854775807) :
    (Instr.lookup 83 (.map (some M)) (.int .i64 (k : Int)) false).run Tryz.prog w = .ok (.agg (sec ((Pgr.look ch k).getD zeros))) w := by
  obtain ⟨v, ps, hrun, hv⟩ := World.ownsMap.lookup h keyInt Tryz.underlying83 (zeroCon w) (elem_sec Dsk.zeros_len) (keyOf_nat k hk)
  rw [dat_at] at hv
  obtain ⟨s, _, rfl, he⟩ := elem_inv hv
  simp only [Prod.mk.injEq, DataW.held.injEq] at he
  rw [hrun, he.1]
theorem MapIs.len (h : MapIs M ch w) (ty : TypeId) : (Builtin.len_ #[83] ty #[.map (some M)]).run Tryz.prog w = .ok (.int .i64 (ch.length : Int)) w := by
  have := World.ownsMap.len h Tryz.underlying83 ty
  rw [dat_size] at this
  exact this
theorem MapIs.put (h : MapIs M ch w) (hr : ch.Pairwise (fun a b => a.1 < b.1)) (hl : ch.length ≤ 100000) (k : Nat) (hk : k ≤ 9223372036854775807) (s : List UInt8) (hs : s.length = 128) :
    ∃ o, (Instr.mapUpdate 83 (.map (some M)) (.int .i64 (k : Int)) (.agg (sec s))).run Tryz.prog w = .ok () (ChangeMaps.setBlock w M o) ∧ MapIs M (Pgr.put ch k s) (ChangeMaps.setBlock w M o) := by
  obtain ⟨w', hrun, hown, hturn⟩ := World.ownsMap.store h keyInt Tryz.underlying83 (by unfold maxLen; omega) (keyOf_nat k hk) (elem_sec hs)
  obtain ⟨es, c, es', c', _, rfl⟩ := hturn
  rw [dat_put hr] at hown
  exact ⟨_, hrun, MapIs.of hown⟩
end
theorem conBytes (w : World) (s : List UInt8) : (convert 62 9 (.slice (some ⟨w.heap.size, 0, none⟩) s.length s.length)).run Tryz.prog (w.alloc (.cells (sec s) 80)) = .ok (.string (S s)) (w.alloc (.cells (sec s) 80)) := by
  refine run_convert_bytes_back (P := Tryz.prog) _ 62 9 5 ⟨w.heap.size, 0, none⟩ s.length s Tryz.underlying62 Tryz.underlying5 Tryz.underlying9 ?_
  intro j hj
  have hadd : (⟨w.heap.size, 0, none⟩ : Addr).add j = ⟨w.heap.size, j, none⟩ := by unfold Addr.add; split <;> simp_all
  rw [hadd, cell_of_row _ _ j _ _ (0, 0) (heap_alloc_last w _)]
  simp [sec, vals, hj, Dsk.cell, Extern.Stop.cell]
set_option maxHeartbeats 1000000 in
theorem read_no (p : Option Addr) (k : Int) (w : World) (h : NotPager p w) : Calls Tryz.prog 42 #[.pointer p, .int .i64 k] w fun e w' => e = .returned (.tuple #[.string ⟨#[]⟩, .int .i64 13]) ∧ w = w' := by
  have G := hidm (place_no p k w h)
  go_enter Tryz.func42, Tryz.ntmps42
  go_wp2_with fail
  refine G.out.mono ?_
  rintro e w1 ⟨rfl, rfl⟩
  go_wp2_with fail
  go_ret2
  exact ⟨rfl, rfl⟩
section
variable {W : World} {Q : Nat → Prop} {P L D : Nat} {v : PV} {g : PL} {d : PD} {w : World}
set_option maxHeartbeats 1000000 in
theorem read_off (k : Int) (h : Pg W Q P L D v g d w) (hk : off v.pages k) : Calls Tryz.prog 42 #[.pointer (some ⟨P, 0, none⟩), .int .i64 k] w fun e w' => e = .returned (.tuple #[.string ⟨#[]⟩, .int .i64 2]) ∧ w = w' := by
  have G := hidm (place_off k h hk)
  go_enter Tryz.func42, Tryz.ntmps42
  go_wp2_with fail
  refine G.out.mono ?_
  rintro e w1 ⟨rfl, rfl⟩
  go_wp2_with fail
  go_ret2
  exact ⟨rfl, rfl⟩
/-- What the pages are. -/
def Pg.see (v : PV) (d : PD) : Nat → List UInt8 := over v.ch (pg v.first d.f)
set_option maxHeartbeats 4000000 in
set_option maxRecDepth 100000 in
theorem read_in (k : Nat) (h : Pg W Q P L D v g d w) (hk : k < v.pages) : Calls Tryz.prog 42 #[.pointer (some ⟨P, 0, none⟩), .int .i64 (k : Int)] w fun e w' => e = .returned (.tuple #[.string (S (Pg.see v d k)), .int .i64 0]) ∧ Below w.heap.size w w' := by
  have G := hidm (place_in k h hk)
  obtain ⟨M, hl, hp, h1, h2⟩ := h.ex
  have hok := hp.ok
  have c1 := cell_of_row w P 1 _ _ (0, 0) hp.row
  have c3 := cell_of_row w P 3 _ _ (0, 0) hp.row
  have c5 := cell_of_row w P 5 _ _ (0, 0) hp.row
  change w.cell? ⟨P, 1, none⟩ = some (.pointer (some ⟨D, 0, none⟩)) at c1
  change w.cell? ⟨P, 3, none⟩ = some (.int .i64 (v.first : Int)) at c3
  change w.cell? ⟨P, 5, none⟩ = some (.map (some M)) at c5
  have hk2 : k ≤ 9223372036854775807 := by have := hok.2.2.1; omega
  have hlk := hp.map.look_ok k hk2
  obtain ⟨s, hs⟩ : ∃ s, s = (look v.ch k).getD zeros := ⟨_, rfl⟩
  have hsl : s.length = 128 := by
    rw [hs]
    cases hq : look v.ch k with
    | none => exact Dsk.zeros_len
    | some t => exact (hok.2.2.2.look_len hq).1
  rw [← hs] at hlk
  have hcv := conBytes w s
  rw [hsl] at hcv
  obtain ⟨C, hC⟩ : ∃ C, C = sec s := ⟨_, rfl⟩
  obtain ⟨Z, hZ⟩ : ∃ Z, Z = sec zeros := ⟨_, rfl⟩
  have hz := zeroCon
  rw [← hC] at hlk hcv
  rw [← hZ] at hz
  have HI := hidm (show (Tryz.prog.info? 80).map (·.size) = some C.size from by rw [hC, Dsk.sec_size, hsl]; exact infoCon)
  have HZC := hidm (show Z.size = C.size from by rw [hZ, hC, Dsk.sec_size, Dsk.sec_size, hsl, Dsk.zeros_len])
  have H1 := hidm (show C.all (·.oneCell') = true from by rw [hC]; exact Dsk.sec_one _)
  have HS := hidm hs
  have HP := hidm h
  have HFIT := hidm h.fit
  have HDN := hidm h.dok.1
  have hfk : v.first + k < d.n := by have := h.fit; omega
  have RD := hidm (fun (w' : World) (hb : Below w.heap.size w w') => (hl.later hb).read (v.first + k) hfk)
  obtain ⟨fk, hfk2⟩ : ∃ fk, fk = v.first + k := ⟨_, rfl⟩
  rw [← hfk2] at RD
  have f1 : (v.first : Int) + (k : Int) = (fk : Int) := by omega
  have f1w : IntKind.i64.wrap (fk : Int) = (fk : Int) := by have := h.dok.1; simp only [IntKind.wrap_i64]; omega
  have HFK := hidm hfk2
  clear hC hZ hs hsl h hl hp h1 h2 hok hfk hfk2
  cases hq : look v.ch k with
  | some t =>
    have HT := hidm (show s = t from by rw [HS.out, hq]; rfl)
    have HSEE := hidm (show Pg.see v d k = t from by unfold Pg.see over; rw [hq]; rfl)
    rw [hq] at hlk
    simp only [Option.isSome] at hlk
    go_enter Tryz.func42, Tryz.ntmps42
    go_wp2_with fail
    refine G.out.mono ?_
    rintro e w1 ⟨rfl, rfl⟩
    go_wp2_with (first
      | (refine Dsk.wpList_store_new rfl 80 _ _ rfl w Z C rfl rfl HI.out HZC.out H1.out ?_))
    go_ret2
    exact ⟨by rw [HSEE.out, ← HT.out]; rfl, (Below.refl _ _).alloc (Nat.le_refl _) _⟩
  | none =>
    have HSEE := hidm (show Pg.see v d k = d.f (fk : Int) from by unfold Pg.see over; rw [hq, HFK.out]; rfl)
    rw [hq] at hlk
    simp only [Option.isSome] at hlk
    go_enter Tryz.func42, Tryz.ntmps42
    go_wp2_with fail
    refine G.out.mono ?_
    rintro e w1 ⟨rfl, rfl⟩
    go_wp2_with (first
      | (refine Dsk.wpList_store_new rfl 80 _ _ rfl w Z C rfl rfl HI.out HZC.out H1.out ?_))
    have hba := (Below.refl w.heap.size w).alloc (Nat.le_refl _) (.cells C 80)
    have C1 := hidm (cell_later hba c1)
    have C3 := hidm (cell_later hba c3)
    have HB1 := hidm hba
    obtain ⟨w1, hw1⟩ : ∃ w1, w1 = w.alloc (.cells C 80) := ⟨_, rfl⟩
    rw [← hw1] at C1 C3 HB1 ⊢
    clear hba hw1
    refine wp_region_held_drew (S := fun u => u.cell? ⟨P, 1, none⟩ = some (.pointer (some ⟨D, 0, none⟩)) ∧ u.cell? ⟨P, 3, none⟩ = some (.int .i64 (v.first : Int)) ∧ Below w.heap.size w u) (by kernel_rfl) (⟨C1.out, C3.out, HB1.out.trans ((Below.refl _ _).drew.mono HB1.out.size)⟩) (fun hHeld => ?_)
    refine Man.take1 (i := 0) (v := ?_) rfl (by kernel_rfl) (by kernel_rfl) (by kernel_rfl) (fun _ _ _ h => h) (by rfl) ?_ (by assumption) ?_
    rotate_left
    · (intro u hSu; (try dsimp only at hSu); go_simp; (try with_reducible rfl))
    (try simp only [Act.put, List.setIfInBounds_toArray, List.set_cons_zero, List.set_cons_succ])
    refine Man.take1 (i := 1) (v := ?_) rfl (by kernel_rfl) (by kernel_rfl) (by kernel_rfl) (fun _ _ _ h => h) (by rfl) ?_ (by assumption) ?_
    rotate_left
    · (intro u hSu; (try dsimp only at hSu); go_simp; (try with_reducible rfl))
    (try simp only [Act.put, List.setIfInBounds_toArray, List.set_cons_zero, List.set_cons_succ])
    refine Man.take1 (i := 2) (v := ?_) rfl (by kernel_rfl) (by kernel_rfl) (by kernel_rfl) (fun _ _ _ h => h) (by rfl) ?_ (by assumption) ?_
    rotate_left
    · (intro u hSu; (try dsimp only at hSu); go_simp; (try with_reducible rfl))
    (try simp only [Act.put, List.setIfInBounds_toArray, List.set_cons_zero, List.set_cons_succ])
    refine Man.take1 (i := 3) (v := ?_) rfl (by kernel_rfl) (by kernel_rfl) (by kernel_rfl) (fun _ _ _ h => h) (by rfl) ?_ (by assumption) ?_
    rotate_left
    · (intro u hSu; (try dsimp only at hSu); go_simp; (try with_reducible rfl))
    (try simp only [Act.put, List.setIfInBounds_toArray, List.set_cons_zero, List.set_cons_succ])
    refine Man.take1 (i := 4) (v := ?_) rfl (by kernel_rfl) (by kernel_rfl) (by kernel_rfl) (fun _ _ _ h => h) (by rfl) ?_ (by assumption) ?_
    rotate_left
    · (intro u hSu; (try dsimp only at hSu); go_simp; (try with_reducible rfl))
    (try simp only [Act.put, List.setIfInBounds_toArray, List.set_cons_zero, List.set_cons_succ])
    refine Man.take1 (i := 5) (v := ?_) rfl (by kernel_rfl) (by kernel_rfl) (by kernel_rfl) (fun _ _ _ h => h) (by rfl) ?_ (by assumption) ?_
    rotate_left
    · (intro u hSu; (try dsimp only at hSu); go_simp; (try with_reducible rfl))
    (try simp only [Act.put, List.setIfInBounds_toArray, List.set_cons_zero, List.set_cons_succ])
    refine Man.take1 (i := 6) (v := ?_) rfl (by kernel_rfl) (by kernel_rfl) (by kernel_rfl) (fun _ _ _ h => h) (by rfl) ?_ (by assumption) ?_
    rotate_left
    · (intro u hSu; (try dsimp only at hSu); go_simp; (try with_reducible rfl))
    (try simp only [Act.put, List.setIfInBounds_toArray, List.set_cons_zero, List.set_cons_succ])
    refine Man.take1 (i := 7) (v := ?_) rfl (by kernel_rfl) (by kernel_rfl) (by kernel_rfl) (fun _ _ _ h => h) (by rfl) ?_ (by assumption) ?_
    rotate_left
    · (intro u hSu; (try dsimp only at hSu); go_simp; (try with_reducible rfl))
    (try simp only [Act.put, List.setIfInBounds_toArray, List.set_cons_zero, List.set_cons_succ])
    refine Man.take1 (i := 8) (v := ?_) rfl (by kernel_rfl) (by kernel_rfl) (by kernel_rfl) (fun _ _ _ h => h) (by rfl) ?_ (by assumption) ?_
    rotate_left
    · (intro u hSu; (try dsimp only at hSu); go_simp; (try with_reducible rfl))
    (try simp only [Act.put, List.setIfInBounds_toArray, List.set_cons_zero, List.set_cons_succ])
    refine Man.take1 (i := 9) (v := ?_) rfl (by kernel_rfl) (by kernel_rfl) (by kernel_rfl) (fun _ _ _ h => h) (by rfl) ?_ (by assumption) ?_
    rotate_left
    · (intro u hSu; (try dsimp only at hSu); go_simp; (try with_reducible rfl))
    (try simp only [Act.put, List.setIfInBounds_toArray, List.set_cons_zero, List.set_cons_succ])
    refine Man.one (i := 10) rfl (by kernel_rfl) (fun K hK => ?_)
    go_simp
    refine (RD.out _ hHeld.2.2).mono ?_
    rintro e w5 ⟨rfl, hb⟩
    refine hK.out _ _ (⟨cell_later hb hHeld.1, cell_later hb hHeld.2.1, hHeld.2.2.trans (hb.mono hHeld.2.2.size)⟩) (fun hNew => ?_)
    clear hK K hHeld
    have hHeld := hNew
    clear hNew
    (try simp only [Act.put, List.setIfInBounds_toArray, List.set_cons_zero, List.set_cons_succ])
    refine Man.take1 (i := 11) (v := ?_) rfl (by kernel_rfl) (by kernel_rfl) (by kernel_rfl) (fun _ _ _ h => h) (by rfl) ?_ (by assumption) ?_
    rotate_left
    · (intro u hSu; (try dsimp only at hSu); go_simp; (try with_reducible rfl))
    (try simp only [Act.put, List.setIfInBounds_toArray, List.set_cons_zero, List.set_cons_succ])
    refine Man.take1 (i := 12) (v := ?_) rfl (by kernel_rfl) (by kernel_rfl) (by kernel_rfl) (fun _ _ _ h => h) (by rfl) ?_ (by assumption) ?_
    rotate_left
    · (intro u hSu; (try dsimp only at hSu); go_simp; (try with_reducible rfl))
    (try simp only [Act.put, List.setIfInBounds_toArray, List.set_cons_zero, List.set_cons_succ])
    refine Man.take1 (i := 13) (v := ?_) rfl (by kernel_rfl) (by kernel_rfl) (by kernel_rfl) (fun _ _ _ h => h) (by rfl) ?_ (by assumption) ?_
    rotate_left
    · (intro u hSu; (try dsimp only at hSu); go_simp; (try with_reducible rfl))
    (try simp only [Act.put, List.setIfInBounds_toArray, List.set_cons_zero, List.set_cons_succ])
    refine Man.take1 (i := 14) (v := ?_) rfl (by kernel_rfl) (by kernel_rfl) (by kernel_rfl) (fun _ _ _ h => h) (by rfl) ?_ (by assumption) ?_
    rotate_left
    · (intro u hSu; (try dsimp only at hSu); go_simp; (try with_reducible rfl))
    (try simp only [Act.put, List.setIfInBounds_toArray, List.set_cons_zero, List.set_cons_succ])
    refine wpAnyH_done (by kernel_rfl) ?_ _
    go_wp2_with fail
    go_ret2
    exact ⟨by rw [HSEE.out]; rfl, hHeld.2.2⟩
/-! ### Write -/
/-- A block of the map is written. -/
theorem only_map {M : Nat} (o : Obj) : Only (fun k => k = M) w (ChangeMaps.setBlock w M o) := Only.setBlock (T := fun k => k = M) rfl o
theorem cells_but {M : Nat} {a b : World} (h : Only (fun k => k = M) a b) {p : Addr} (hp : p.block < a.heap.size) (hn : p.block ≠ M) : b.cell? p = a.cell? p := by
  have := h.block p.block hp (fun e => hn e)
  unfold World.cell?
  rw [this]
set_option maxHeartbeats 1000000 in
theorem write_off (k : Int) (s : ByteArray) (h : Pg W Q P L D v g d w) (hk : off v.pages k) : Calls Tryz.prog 51 #[.pointer (some ⟨P, 0, none⟩), .int .i64 k, .string s] w fun e w' => e = .returned (.int .i64 2) ∧ w = w' := by
  have G := hidm (place_off k h hk)
  go_enter Tryz.func51, Tryz.ntmps51
  go_wp2_with fail
  refine G.out.mono ?_
  rintro e w1 ⟨rfl, rfl⟩
  go_wp2_with fail
  go_ret
  exact ⟨rfl, rfl⟩
set_option maxHeartbeats 1000000 in
theorem write_zero (s : ByteArray) (h : Pg W Q P L D v g d w) : Calls Tryz.prog 51 #[.pointer (some ⟨P, 0, none⟩), .int .i64 0, .string s] w fun e w' => e = .returned (.int .i64 1) ∧ w = w' := by
  have G := hidm (place_in 0 h h.ok.2.1)
  go_enter Tryz.func51, Tryz.ntmps51
  go_wp2_with fail
  refine G.out.mono ?_
  rintro e w1 ⟨rfl, rfl⟩
  go_wp2_with fail
  go_ret
  exact ⟨rfl, rfl⟩
set_option maxHeartbeats 1000000 in
theorem write_big (k : Nat) (s : ByteArray) (hs : 128 < s.size) (h : Pg W Q P L D v g d w) (hk : k < v.pages) (h0 : k ≠ 0) : Calls Tryz.prog 51 #[.pointer (some ⟨P, 0, none⟩), .int .i64 (k : Int), .string s] w fun e w' => e = .returned (.int .i64 19) ∧ w = w' := by
  have G := hidm (place_in k h hk)
  have f1 : ¬ (k : Int) = 0 := by omega
  have f2 : (128 : Int) < (s.size : Int) := by omega
  clear h
  go_enter Tryz.func51, Tryz.ntmps51
  go_wp2_with fail
  refine G.out.mono ?_
  rintro e w1 ⟨rfl, rfl⟩
  go_wp2_with fail
  go_ret
  exact ⟨rfl, rfl⟩
/-- What is changed, with one page more. -/
def PV.put (v : PV) (k : Nat) (s : List UInt8) : PV := { v with ch := Pgr.put v.ch k s }
set_option maxHeartbeats 4000000 in
set_option maxRecDepth 100000 in
theorem write_in (k : Nat) (s : ByteArray) (hs : s.size ≤ 128) (h : Pg W Q P L D v g d w) (hk : k < v.pages) (h0 : k ≠ 0) : Calls Tryz.prog 51 #[.pointer (some ⟨P, 0, none⟩), .int .i64 (k : Int), .string s] w fun e w' => e = .returned (.int .i64 0) ∧ Pg W Q P L D (v.put k (pad s.data.toList)) g d w' ∧ KeepQ Q w w' := by
  have G := hidm (place_in k h hk)
  have f1 : ¬ (k : Int) = 0 := by omega
  have f2 : ¬ (128 : Int) < (s.size : Int) := by omega
  obtain ⟨M, hl, hp, h1, h2⟩ := h.ex
  have c5 := cell_of_row w P 5 _ _ (0, 0) hp.row
  change w.cell? ⟨P, 5, none⟩ = some (.map (some M)) at c5
  have C5 := hidm c5
  have CON := hidm (fun w' => con_any s hs w')
  have HPL := hidm (show (pad s.data.toList).length = 128 from Dsk.pad_len (by rw [Dsk.len_eq]; exact hs))
  obtain ⟨x, hx⟩ : ∃ x, x = pad s.data.toList := ⟨_, rfl⟩
  rw [← hx] at CON HPL ⊢
  have HL := hidm hl
  have HP := hidm hp
  have H1 := hidm h1
  have H2 := hidm h2
  have HF := hidm h.fit
  have HK := hidm hk
  clear h hl hp h1 h2 hk hs hx c5 h0
  go_enter Tryz.func51, Tryz.ntmps51
  go_wp2_with fail
  refine G.out.mono ?_
  rintro e w1 ⟨rfl, rfl⟩
  go_wp2_with fail
  refine wp_region_held_drew (S := fun u => u.cell? ⟨P, 5, none⟩ = some (.map (some M))) (by kernel_rfl) (C5.out) (fun hHeld => ?_)
  refine Man.take1 (i := 0) (v := ?_) rfl (by kernel_rfl) (by kernel_rfl) (by kernel_rfl) (fun _ _ _ h => h) (by rfl) ?_ (by assumption) ?_
  rotate_left
  · (intro u hSu; (try dsimp only at hSu); go_simp; (try with_reducible rfl))
  (try simp only [Act.put, List.setIfInBounds_toArray, List.set_cons_zero, List.set_cons_succ])
  refine Man.take1 (i := 1) (v := ?_) rfl (by kernel_rfl) (by kernel_rfl) (by kernel_rfl) (fun _ _ _ h => h) (by rfl) ?_ (by assumption) ?_
  rotate_left
  · (intro u hSu; (try dsimp only at hSu); go_simp; (try with_reducible rfl))
  (try simp only [Act.put, List.setIfInBounds_toArray, List.set_cons_zero, List.set_cons_succ])
  refine Man.take1 (i := 2) (v := ?_) rfl (by kernel_rfl) (by kernel_rfl) (by kernel_rfl) (fun _ _ _ h => h) (by rfl) ?_ (by assumption) ?_
  rotate_left
  · (intro u hSu; (try dsimp only at hSu); go_simp; (try with_reducible rfl))
  (try simp only [Act.put, List.setIfInBounds_toArray, List.set_cons_zero, List.set_cons_succ])
  refine Man.take1 (i := 3) (v := ?_) rfl (by kernel_rfl) (by kernel_rfl) (by kernel_rfl) (fun _ _ _ h => h) (by rfl) ?_ (by assumption) ?_
  rotate_left
  · (intro u hSu; (try dsimp only at hSu); go_simp; (try with_reducible rfl))
  (try simp only [Act.put, List.setIfInBounds_toArray, List.set_cons_zero, List.set_cons_succ])
  refine Man.take1 (i := 4) (v := ?_) rfl (by kernel_rfl) (by kernel_rfl) (by kernel_rfl) (fun _ _ _ h => h) (by rfl) ?_ (by assumption) ?_
  rotate_left
  · (intro u hSu; (try dsimp only at hSu); go_simp; (try with_reducible rfl))
  (try simp only [Act.put, List.setIfInBounds_toArray, List.set_cons_zero, List.set_cons_succ])
  refine Man.take1 (i := 5) (v := ?_) rfl (by kernel_rfl) (by kernel_rfl) (by kernel_rfl) (fun _ _ _ h => h) (by rfl) ?_ (by assumption) ?_
  rotate_left
  · (intro u hSu; (try dsimp only at hSu); go_simp; (try with_reducible rfl))
  (try simp only [Act.put, List.setIfInBounds_toArray, List.set_cons_zero, List.set_cons_succ])
  refine Man.one (i := 6) rfl (by kernel_rfl) (fun K hK => ?_)
  go_simp
  refine (CON.out _).mono ?_
  rintro e w5 ⟨rfl, hb⟩
  have HB5 := hidm (((Below.refl w.heap.size w).drew).trans hb)
  refine hK.out _ _ (cell_later hb hHeld) (fun hNew => ?_)
  clear hb hK K hHeld
  have hHeld := hNew
  clear hNew
  (try simp only [Act.put, List.setIfInBounds_toArray, List.set_cons_zero, List.set_cons_succ])
  refine Man.one (i := 7) rfl (by kernel_rfl) (fun K hK => ?_)
  obtain ⟨ob, hput, hmp⟩ := (HP.out.map.later HB5.out).put HP.out.ok.2.2.2.rise (by have := HP.out.ok.2.2.2.count; have := HP.out.ok.2.2.1; omega) k (by have := HP.out.ok.2.2.1; have := HK.out; omega) x HPL.out
  have HMP := hidm hmp
  have HOO := hidm (only_map (w := w5) (M := M) ob)
  go_simp
  clear hput hmp
  refine hK.out _ _ ((cells_but HOO.out (block_lt_of_cell hHeld) HP.out.ne).trans hHeld) (fun hNew => ?_)
  clear hK K hHeld hNew
  (try simp only [Act.put, List.setIfInBounds_toArray, List.set_cons_zero, List.set_cons_succ])
  refine wpAnyH_done (by kernel_rfl) ?_ _
  have HFIN := hidm (Pg.turn (ch := Pgr.put v.ch k x) (HL.out.later HB5.out) (HP.out.keep (HB5.out.block P (HL.out.qlt P (.inr (.inl rfl)))) (HB5.out.block M (HL.out.qlt M (.inr (.inr rfl))))) H1.out H2.out HF.out HOO.out HMP.out (HP.out.ok.2.2.2.put HK.out HPL.out))
  go_wp2_with fail
  go_ret
  exact ⟨rfl, HFIN.out.1, fun j hj => (HFIN.out.2 j hj).trans (HB5.out.block j (HL.out.qlt j (.inl hj)))⟩
/-- Nothing is changed any more. -/
def PV.calm (v : PV) : PV := { v with ch := [] }
theorem forget_in (h : Pg W Q P L D v g d w) : Calls Tryz.prog 47 #[.pointer (some ⟨P, 0, none⟩)] w fun e w' => e = .returned (.tuple #[]) ∧ Pg W Q P L D v.calm g d w' ∧ KeepQ Q w w' := by
  obtain ⟨M, hl, hp, h1, h2⟩ := h.ex
  have c5 := cell_of_row w P 5 _ _ (0, 0) hp.row
  refine (forget_any hp.ok.2.2.2.rise c5 hp.ne hp.map).mono fun e w' hh => ?_
  obtain ⟨he, hm, ho⟩ := hh
  obtain ⟨q1, q2⟩ := Pg.turn hl hp h1 h2 h.fit ho hm (Ok.nil _)
  exact ⟨he, q1, q2⟩
end
end Pgr
end Go.Proofs.YtmccnlffikegfaaGreatDoor
