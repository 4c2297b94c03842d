/- Append. Conditions: as each says. -/
import Derived.Test.YtmccnlffikegfaaGreatDoorZWj
import Derived.Deep.AppendLies
namespace Go.Proofs.YtmccnlffikegfaaGreatDoor
open Go.RowKit
namespace Wal
open Dsk (PD Mine KeepQ DiskIs Only Grow upd pad)
open Crc (S S_of S_size S_append S_add hidm put)
open Cod (clone_any)
theorem infoS : (Tryz.prog.info? 9).map (fun i => (i.zero, i.size, i.bytes)) = some (some (.string ⟨#[]⟩), 1, 16) := by kernel_rfl
theorem strs_one (l : List (List UInt8)) : ∀ v ∈ strs l, v.oneCell' = true := by
  intro v hv
  obtain ⟨x, _, rfl⟩ := List.mem_map.1 hv
  rfl
theorem strs_snoc (l : List (List UInt8)) (s : List UInt8) : strs (l ++ [s]) = strs l ++ [.string (S s)] := by simp [strs]
theorem strs_len (l : List (List UInt8)) : (strs l).length = l.length := by simp [strs]
/-- The disk behind j parts. -/
def wrs (d : PD) (F t u : Nat) (s : List UInt8) : Nat → PD
  | 0 => d
  | j + 1 => wrote (wrs d F t u s j) F t u s j
theorem wrs_is (d : PD) (F t u : Nat) (s : List UInt8) : ∀ j, (wrs d F t u s j).n = d.n ∧ (wrs d F t u s j).cs.length = d.cs.length + j ∧ (wrs d F t u s j).wr = d.wr + j ∧ (wrs d F t u s j).fl = d.fl ∧ (wrs d F t u s j).fu = d.fu := by
  intro j
  induction j with
  | zero => exact ⟨rfl, rfl, rfl, rfl, rfl⟩
  | succ j ih =>
    obtain ⟨h1, h2, h3, h4, h5⟩ := ih
    refine ⟨h1, ?_, ?_, h4, h5⟩
    · show (_ ++ [_]).length = _
      rw [List.length_append, h2]
      rfl
    · show (wrs d F t u s j).wr + 1 = _
      rw [h3]
      omega
section
variable {W : World} {Q : Nat → Prop} {L D : Nat} {g : PL} {d : PD} {w : World}
/-- A record is laid behind the others. -/
theorem pushed {U : Nat → Prop} {sl : Value} {w6 w7 : World} {s : List UInt8} {b cap : Nat} (hm : Mine W (fun k => Q k ∨ U k) D d w6) (hl : LogAt L D g sl U w6) (hu : ∀ k, U k → W.heap.size ≤ k ∧ ¬ Q k)
    (hown : w7.ownsRow 0 9 1 (.slice (some ⟨b, 0, none⟩) (g.recs.length + 1) cap) (g.recs.length + 1) (strs g.recs ++ [.string (S s)])) (hgrow : w6.grownBy w7 sl.ownBlock) (hat : sl.ownBlock = some b ∨ b = w6.heap.size) (hlt : b < w7.heap.size)
    (hok : ({ g with recs := g.recs ++ [s] } : PL).ok) :
    w7.cell? ⟨L, 5, none⟩ = some sl ∧ w7.frozen? ⟨L, 5, none⟩ = false ∧ Pair W Q L D { g with recs := g.recs ++ [s] } d (w7.setCell ⟨L, 5, none⟩ (.slice (some ⟨b, 0, none⟩) (g.recs.length + 1) cap)) ∧ KeepQ Q w6 (w7.setCell ⟨L, 5, none⟩ (.slice (some ⟨b, 0, none⟩) (g.recs.length + 1) cap)) := by
  have hLb : some L ≠ sl.ownBlock := by
    rcases hl.own.2 with ⟨h2, _⟩ | ⟨b', c, cur, hv, hg, hh, rest⟩
    · rw [h2]; simp [Value.ownBlock]
    · rw [hv]
      intro e
      have hbL : b' = L := by simpa [Value.ownBlock] using e.symm
      rw [hbL, hl.row] at hh
      simp at hh
  have hLlt : L < w6.heap.size := lt_of_block hl.row
  have hrow : w7.heap[L]? = some (.cells (lcells L D g sl) 116 (0, 0)) := (hgrow.block L hLlt hLb).trans hl.row
  have hon : Only U w6 w7 := (Only.refl U w6).grown hgrow (fun k hk => .inl (hl.uR k hk))
  have hbU : U b ∨ b = w6.heap.size := hat.imp (hl.uR b) id
  obtain ⟨⟨T, hT, hq⟩, hB, hql⟩ := hm
  have hbW : W.heap.size ≤ b ∧ ¬ Q b := by
    rcases hbU with h | h
    · exact hu b h
    · exact ⟨by rw [h]; exact hB.size, fun e => by have := hql b (.inl e); omega⟩
  have hm7 : Mine W (fun k => Q k ∨ (U k ∨ k = b)) D d w7 := by
    refine ⟨⟨T, hT.keep hon (fun k hk e => (hq k hk).2 (.inr e)), fun k hk => ⟨(hq k hk).1, fun e => ?_⟩⟩, hB.trans (hon.below (fun k hk => (hu k hk).1) hB.size), fun k hk => ?_⟩
    · rcases e with e | e | e
      · exact (hq k hk).2 (.inl e)
      · exact (hq k hk).2 (.inr e)
      · subst e
        rcases hbU with h | h
        · exact (hq k hk).2 (.inr h)
        · have := hT.lt k hk; omega
    · rcases hk with e | e | e
      · exact Nat.lt_of_lt_of_le (hql k (.inl e)) hon.size
      · exact Nat.lt_of_lt_of_le (hql k (.inr e)) hon.size
      · rw [e]; exact hlt
  refine ⟨cell_of_row w7 L 5 _ _ (0, 0) hrow, frozen_of_row w7 L 5 _ _ hrow, ⟨_, .slice (some ⟨b, 0, none⟩) (g.recs.length + 1) cap, mine_set hm7 _ (.inr (.inl hl.uL)) (hu L hl.uL).1 _, ⟨?_, ?_, .inl hl.uL, fun k hk => ?_, hok⟩, fun k hk => ?_⟩, fun k hk => ?_⟩
  · rw [heap_setCell_same w7 L 5 _ _ _ hrow]
    rfl
  · have h := own_row hrow hown 5 (.slice (some ⟨b, 0, none⟩) (g.recs.length + 1) cap)
    show World.ownsRow _ _ _ _ _ (g.recs ++ [s]).length (strs (g.recs ++ [s]))
    rw [strs_snoc, List.length_append]
    exact h
  · right
    have : some b = some k := hk
    exact (Option.some.inj this).symm
  · rcases hk with e | e
    · exact hu k e
    · rw [e]; exact hbW
  · have h1 : k ≠ L := fun e => (hu L hl.uL).2 (by rw [← e]; exact hk)
    rw [heap_setCell_other w7 _ k _ h1]
    exact hon.block k (hql k (.inl hk)) (fun e => (hu k e).2 hk)
set_option maxHeartbeats 1000000 in
theorem append_no (p : Option Addr) (s : ByteArray) (w : World) (h : NotLog p w) : Calls Tryz.prog 79 #[.pointer p, .string s] w fun e w' => e = .returned (.int .i64 13) ∧ w = w' := by
  have ST := hidm (state_no p w h)
  go_enter Tryz.func79, Tryz.ntmps79
  go_wp2_with fail
  refine ST.out.mono ?_
  rintro e w1 ⟨rfl, rfl⟩
  go_wp2_with fail
  go_ret
  exact ⟨rfl, rfl⟩
set_option maxHeartbeats 1000000 in
theorem append_shut (s : ByteArray) (h : Pair W Q L D g d w) (hh : g.halted = true) : Calls Tryz.prog 79 #[.pointer (some ⟨L, 0, none⟩), .string s] w fun e w' => e = .returned (.int .i64 6) ∧ w = w' := by
  have ST := hidm (state_any h)
  rw [show g.err = 6 from by unfold PL.err; rw [hh]; rfl] at ST
  clear h
  go_enter Tryz.func79, Tryz.ntmps79
  go_wp2_with fail
  refine ST.out.mono ?_
  rintro e w1 ⟨rfl, rfl⟩
  go_wp2_with fail
  go_ret
  exact ⟨rfl, rfl⟩
set_option maxHeartbeats 1000000 in
theorem append_full (s : ByteArray) (hs : s.size ≤ 1099511627776) (h : Pair W Q L D g d w) (hh : g.halted = false) (hf : ¬ np s.data.toList ≤ g.n - g.used) : Calls Tryz.prog 79 #[.pointer (some ⟨L, 0, none⟩), .string s] w fun e w' => e = .returned (.int .i64 3) ∧ Below w.heap.size w w' := by
  have ST := hidm (state_any h)
  rw [show g.err = 0 from by unfold PL.err; rw [hh]; rfl] at ST
  have FT := hidm (fits_any s.size (by omega) h)
  have hdec : decide ((s.size - 1) / 100 + 1 ≤ g.n - g.used) = false := by
    unfold np at hf
    rw [len_eq] at hf
    simpa using hf
  rw [hdec] at FT
  clear h hdec hf hh
  go_enter Tryz.func79, Tryz.ntmps79
  go_wp2_with fail
  refine ST.out.mono ?_
  rintro e w1 ⟨rfl, rfl⟩
  go_wp2_with fail
  refine FT.out.mono ?_
  rintro e w1 ⟨rfl, hb⟩
  have HB := hidm hb
  clear hb
  go_wp2_with fail
  go_ret
  exact ⟨rfl, HB.out⟩
theorem lay_any (h : Pair W Q L D g d w) (i : Nat) (hi : i ≤ 2000) (hd : g.F + i < d.n) (s : ByteArray) (hs : s.size ≤ 123) (hc : d.cs.length < 1000000) (hw : d.wr < 1000000) :
    Calls Tryz.prog 89 #[.pointer (some ⟨L, 0, none⟩), .int .i64 (i : Int), .string s] w fun e w' => e = .returned (.int .i64 (if d.burnt = true then 6 else 0)) ∧ Pair W Q L D (if d.burnt = true then g.halt else g) (if d.burnt = true then d else (d.write (g.F + i) (sealB s.data.toList)).burn) w' ∧ KeepQ Q w w' := by
  cases hb : d.burnt with
  | true => exact lay_off h i hi hd s hs hb
  | false => exact lay_on h i hi hd s hs hb hc hw
theorem ok_push {l : List UInt8} {v n : Nat} (hok : g.ok) (hr : g.recs.length ≤ g.used) (hv : v = g.used + n) (hn : 1 ≤ n) (h : g.used + n ≤ g.n) : PL.ok { g with recs := g.recs ++ [l], used := v } := by
  obtain ⟨h1, h2, h3, h4, h5⟩ := hok
  refine ⟨h1, h2, h3, ?_, ?_⟩
  · show v ≤ g.n
    omega
  · show (g.recs ++ [l]).length ≤ v + 1
    rw [List.length_append, List.length_singleton]
    omega
theorem placed (w : World) (t : Int) (m : Bool) (x q : ByteArray) : placeRow w.heap.size t m x q (set4 (w.alloc (.cells #[.int .u64 0, .bool false, .string ⟨#[]⟩, .string ⟨#[]⟩] 139)) w.heap.size t m x q) ∧ Below w.heap.size w (set4 (w.alloc (.cells #[.int .u64 0, .bool false, .string ⟨#[]⟩, .string ⟨#[]⟩] 139)) w.heap.size t m x q) :=
  ⟨(placeRow.new w 0 false ⟨#[]⟩ ⟨#[]⟩).set t m x q, set4_below ((Below.refl _ _).alloc (Nat.le_refl _) _) (Nat.le_refl _) _ _ _ _⟩
set_option maxHeartbeats 8000000 in
set_option maxRecDepth 100000 in
theorem append_any (s : ByteArray) (h : Pair W Q L D g d w) (hh : g.halted = false) (hf : np s.data.toList ≤ g.n - g.used) (hr : g.recs.length ≤ g.used) (hd : g.F + 2 + g.n ≤ d.n) (hc : d.cs.length ≤ 900000) (hw : d.wr ≤ 900000) :
    Calls Tryz.prog 79 #[.pointer (some ⟨L, 0, none⟩), .string s] w fun e w' =>
      ((e = .returned (.int .i64 0) ∧ Pair W Q L D { g with recs := g.recs ++ [s.data.toList], used := g.used + np s.data.toList } (wrs d g.F g.turn g.used s.data.toList (np s.data.toList)) w' ∧ ∀ j, j < np s.data.toList → (wrs d g.F g.turn g.used s.data.toList j).burnt = false) ∨
        (∃ j, j < np s.data.toList ∧ e = .returned (.int .i64 6) ∧ Pair W Q L D g.halt (wrs d g.F g.turn g.used s.data.toList j) w' ∧ (wrs d g.F g.turn g.used s.data.toList j).burnt = true ∧ ∀ i, i < j → (wrs d g.F g.turn g.used s.data.toList i).burnt = false)) ∧ KeepQ Q w w' := by
  obtain ⟨l, hl⟩ : ∃ l, l = s.data.toList := ⟨_, rfl⟩
  have hsz : l.length = s.size := by rw [hl, len_eq]
  have hsS : S l = s := by rw [hl, S_of]
  obtain ⟨n, hn⟩ : ∃ n, n = np l := ⟨_, rfl⟩
  have hnp : n = (s.size - 1) / 100 + 1 := by rw [hn, ← hsz]; rfl
  obtain ⟨hF, hn1, ht, hu1, hr1⟩ := h.ok
  rw [← hl] at hf ⊢
  have hn1000 : n ≤ 1000 := by omega
  have hss : s.size ≤ 100 * n := by omega
  have ST := hidm (state_any h)
  rw [show g.err = 0 from by unfold PL.err; rw [hh]; rfl] at ST
  have FT := hidm (fits_any s.size (by omega) h)
  have hdec : decide ((s.size - 1) / 100 + 1 ≤ g.n - g.used) = true := by
    rw [← hn] at hf
    rw [hnp] at hf
    simpa using hf
  rw [hdec] at FT
  have PT := hidm (fun w => Crc.put_any s (by omega) w)
  rw [← hl] at PT
  obtain ⟨pu, hpu⟩ : ∃ pu, pu = S (put l) := ⟨_, rfl⟩
  have hpus : pu.size = s.size + 4 := by rw [hpu, S_size, Crc.put_len, hsz]
  rw [← hpu] at PT
  obtain ⟨x, hx⟩ : ∃ x, x = pu.extract s.size pu.size := ⟨_, rfl⟩
  have hxl : x.data.toList = Crc.four (Crc.more 0 l) := by
    rw [hx, Crc.cut_drop, hpu]
    show (put l).drop s.size = _
    rw [← hsz]
    unfold put
    exact List.drop_left
  have HXE := hidm hx.symm
  have PN := hidm (fun w => parts_any s.size (by omega) w)
  rw [← hnp] at PN
  have H := hidm h
  have hpl : (s.size : Int) ≤ (pu.size : Int) := by omega
  have HXL := hidm hxl
  have HXS := hidm (show x.size = 4 from by rw [← len_eq, hxl]; rfl)
  have HN := hidm hn
  have HL := hidm hl
  have HSS := hidm hsS
  have HOK := hidm h.ok
  have hfu : g.used + n ≤ g.n := by rw [hn]; omega
  have HNP := hidm hnp
  have hnn := hnp
  rw [← hnp] at hnn
  clear h hh hdec hf hxl hx hpu hl hsS hpus hn hnp hnn hsz
  go_enter Tryz.func79, Tryz.ntmps79
  go_wp2_with fail
  refine ST.out.mono ?_
  rintro e w1 ⟨rfl, rfl⟩
  go_wp2_with fail
  refine FT.out.mono ?_
  rintro e w1 ⟨rfl, hb⟩
  have HB1 := hidm hb
  clear hb
  go_wp2_with fail
  refine (PT.out w1).mono ?_
  rintro e w2 ⟨rfl, hb⟩
  have HB2 := hidm (HB1.out.trans (hb.mono HB1.out.size))
  clear hb HB1
  go_wp2_with fail
  rw [HXE.out]
  refine (PN.out w2).mono ?_
  rintro e w3 ⟨rfl, rfl⟩
  go_wp2_with fail
  have HP2 := hidm (H.out.later HB2.out)
  have HK2 := hidm (H.out.kept HB2.out)
  obtain ⟨u, hu⟩ : ∃ u, u = g.used := ⟨_, rfl⟩
  have HU := hidm hu
  have hun : u + n ≤ g.n := by omega
  clear hu hfu
  go_loopw [30] (fun ii wr => ∃ j : Nat, ii = .int .i64 j ∧ j ≤ n ∧ Hid (Pair W Q L D g (wrs d g.F g.turn u l j) wr) ∧ Hid (KeepQ Q w wr) ∧ Hid (∀ i, i < j → (wrs d g.F g.turn u l i).burnt = false)) (fun ii _ => (n - (intOf ii).toNat))
  case atStart => exact ⟨0, rfl, by omega, HP2, HK2, hidm (fun i hi => by omega)⟩
  case round =>
    rename World => wr
    obtain ⟨j, rfl, hj, HP, HK, HBU⟩ := hrel
    rcases Nat.lt_or_ge j n with hlt | hge
    · have g1 : (j : Int) < (n : Int) := by omega
      obtain ⟨hwn, hwc, hww, hwf, hwu⟩ := wrs_is d g.F g.turn u l j
      have C4 := hidm (HP.out.cells.2.2.2.2.1)
      have C6 := hidm (show wr.cell? ⟨L, 6, none⟩ = some (.int .i64 (u : Int)) from by rw [HU.out]; exact HP.out.cells.2.2.2.2.2.1)
      have hnp := HNP.out
      obtain ⟨m, hm⟩ : ∃ m, m = n - 1 := ⟨_, rfl⟩
      have k1 : (n : Int) - 1 = (m : Int) := by omega
      have k1w : IntKind.i64.wrap (m : Int) = (m : Int) := by simp only [IntKind.wrap_i64]; omega
      obtain ⟨mo, hmo⟩ : ∃ mo, mo = decide (j < m) := ⟨_, rfl⟩
      have k2 : decide ((j : Int) < (m : Int)) = mo := by rw [hmo]; congr 1; exact propext ⟨fun h => by omega, fun h => by omega⟩
      have k2' : decide (j < m) = mo := hmo.symm
      obtain ⟨a, ha⟩ : ∃ a, a = 100 * j := ⟨_, rfl⟩
      have k3 : (j : Int) * 100 = (a : Int) := by omega
      have k3w : IntKind.i64.wrap (a : Int) = (a : Int) := by simp only [IntKind.wrap_i64]; omega
      obtain ⟨c, hc2⟩ : ∃ c, c = j + 1 := ⟨_, rfl⟩
      have k4 : (j : Int) + 1 = (c : Int) := by omega
      have k4w : IntKind.i64.wrap (c : Int) = (c : Int) := by simp only [IntKind.wrap_i64]; omega
      obtain ⟨e, he⟩ : ∃ e, e = 100 * c := ⟨_, rfl⟩
      have k5 : (c : Int) * 100 = (e : Int) := by omega
      have k5w : IntKind.i64.wrap (e : Int) = (e : Int) := by simp only [IntKind.wrap_i64]; omega
      obtain ⟨b, hb⟩ : ∃ b, b = min e s.size := ⟨_, rfl⟩
      have k6 : min (e : Int) (s.size : Int) = (b : Int) := by omega
      have k7 : (a : Int) ≤ (b : Int) := by omega
      have k8 : (b : Int) ≤ (s.size : Int) := by omega
      obtain ⟨q, hq⟩ : ∃ q, q = s.extract a b := ⟨_, rfl⟩
      have HQE := hidm hq.symm
      have HQL := hidm (show q.data.toList = (l.drop (100 * j)).take 100 from by
        rw [hq, HL.out]
        simp only [ByteArray.data_extract, Array.toList_extract, List.extract_eq_take_drop]
        rw [ha]
        rcases Nat.le_total e s.size with h1 | h1
        · rw [show b - 100 * j = 100 by omega]
        · rw [List.take_of_length_le (by rw [List.length_drop, len_eq]; omega), List.take_of_length_le (by rw [List.length_drop, len_eq]; omega)])
      have HMO := hidm (show mo = decide (j + 1 < np l) from by rw [hmo, ← HN.out]; congr 1; exact propext ⟨fun h => by omega, fun h => by omega⟩)
      obtain ⟨aa, haa⟩ : ∃ aa, aa = 2 + u := ⟨_, rfl⟩
      have z1 : (2 : Int) + (u : Int) = (aa : Int) := by omega
      have z1w : IntKind.i64.wrap (aa : Int) = (aa : Int) := by simp only [IntKind.wrap_i64]; omega
      obtain ⟨bb, hbb⟩ : ∃ bb, bb = aa + j := ⟨_, rfl⟩
      have z2 : (aa : Int) + (j : Int) = (bb : Int) := by omega
      have z2w : IntKind.i64.wrap (bb : Int) = (bb : Int) := by simp only [IntKind.wrap_i64]; omega
      obtain ⟨cc, hcc⟩ : ∃ cc, cc = u + j := ⟨_, rfl⟩
      have z3 : (u : Int) + (j : Int) = (cc : Int) := by omega
      have z3w : IntKind.i64.wrap (cc : Int) = (cc : Int) := by simp only [IntKind.wrap_i64]; omega
      have HBB := hidm (show bb = 2 + (u + j) from by omega)
      have HCC := hidm hcc
      have PB := hidm (fun w => placebody_any g.turn mo x q cc (by omega) (by omega) (by rw [HXS.out]; omega) (by rw [← len_eq, HQL.out]; simp; omega) w)
      have hy0 : (Pl.body ⟨g.turn, mo, x.data.toList, q.data.toList⟩ cc) = (prt g.turn l j).body (u + j) := by rw [HMO.out, HXL.out, HQL.out, hcc]; rfl
      rw [hy0] at PB
      obtain ⟨y, hy⟩ : ∃ y, y = S ((prt g.turn l j).body (u + j)) := ⟨_, rfl⟩
      rw [← hy] at PB
      have HYL := hidm (show y.data.toList = (prt g.turn l j).body (u + j) from by rw [hy])
      have hys : y.size ≤ 123 := by
        rw [hy, S_size]
        have := body_len (p := prt g.turn l j) (i := u + j) ht (by omega) rfl part_len
        omega
      have LON := hidm (fun (Q' : Nat → Prop) (w' : World) (hP : Pair W Q' L D g (wrs d g.F g.turn u l j) w') (hbz : (wrs d g.F g.turn u l j).burnt = false) => lay_on hP bb (by omega) (by rw [hwn]; omega) y hys hbz (by rw [hwc]; omega) (by rw [hww]; omega))
      have LOFF := hidm (fun (Q' : Nat → Prop) (w' : World) (hP : Pair W Q' L D g (wrs d g.F g.turn u l j) w') (hbz : (wrs d g.F g.turn u l j).burnt = true) => lay_off hP bb (by omega) (by rw [hwn]; omega) y hys hbz)
      clear hq hmo hm ha hc2 he hb hnp haa hbb hcc hy0 hy
      go_wp2_with fail
      refine wp_region_held_drew (S := fun u => u.cell? ⟨L, 4, none⟩ = some (.int .u64 (g.turn : Int))) (by kernel_rfl) (C4.out) (fun hHeld => ?_)
      refine Man.take1 (i := 0) (v := ?_) rfl (by kernel_rfl) (by kernel_rfl) (by kernel_rfl) (fun _ _ _ h => h) (by rfl) ?_ (by assumption) ?_
      rotate_left
      · (intro u hSu; (try dsimp only at hSu); go_simp; (try with_reducible rfl))
      (try simp only [Act.put, List.setIfInBounds_toArray, List.set_cons_zero, List.set_cons_succ])
      refine Man.take1 (i := 1) (v := ?_) rfl (by kernel_rfl) (by kernel_rfl) (by kernel_rfl) (fun _ _ _ h => h) (by rfl) ?_ (by assumption) ?_
      rotate_left
      · (intro u hSu; (try dsimp only at hSu); go_simp; (try with_reducible rfl))
      (try simp only [Act.put, List.setIfInBounds_toArray, List.set_cons_zero, List.set_cons_succ])
      refine Man.take1 (i := 2) (v := ?_) rfl (by kernel_rfl) (by kernel_rfl) (by kernel_rfl) (fun _ _ _ h => h) (by rfl) ?_ (by assumption) ?_
      rotate_left
      · (intro u hSu; (try dsimp only at hSu); go_simp; (try with_reducible rfl))
      (try simp only [Act.put, List.setIfInBounds_toArray, List.set_cons_zero, List.set_cons_succ])
      refine Man.take1 (i := 3) (v := ?_) rfl (by kernel_rfl) (by kernel_rfl) (by kernel_rfl) (fun _ _ _ h => h) (by rfl) ?_ (by assumption) ?_
      rotate_left
      · (intro u hSu; (try dsimp only at hSu); go_simp; (try with_reducible rfl))
      (try simp only [Act.put, List.setIfInBounds_toArray, List.set_cons_zero, List.set_cons_succ])
      refine Man.take1 (i := 4) (v := ?_) rfl (by kernel_rfl) (by kernel_rfl) (by kernel_rfl) (fun _ _ _ h => h) (by rfl) ?_ (by assumption) ?_
      rotate_left
      · (intro u hSu; (try dsimp only at hSu); go_simp; (try with_reducible rfl))
      (try simp only [Act.put, List.setIfInBounds_toArray, List.set_cons_zero, List.set_cons_succ])
      refine Man.take1 (i := 5) (v := ?_) rfl (by kernel_rfl) (by kernel_rfl) (by kernel_rfl) (fun _ _ _ h => h) (by rfl) ?_ (by assumption) ?_
      rotate_left
      · (intro u hSu; (try dsimp only at hSu); go_simp; (try with_reducible rfl))
      (try simp only [Act.put, List.setIfInBounds_toArray, List.set_cons_zero, List.set_cons_succ])
      refine Man.take1 (i := 6) (v := ?_) rfl (by kernel_rfl) (by kernel_rfl) (by kernel_rfl) (fun _ _ _ h => h) (by rfl) ?_ (by assumption) ?_
      rotate_left
      · (intro u hSu; (try dsimp only at hSu); go_simp; (try with_reducible rfl))
      (try simp only [Act.put, List.setIfInBounds_toArray, List.set_cons_zero, List.set_cons_succ])
      refine Man.take1 (i := 7) (v := ?_) rfl (by kernel_rfl) (by kernel_rfl) (by kernel_rfl) (fun _ _ _ h => h) (by rfl) ?_ (by assumption) ?_
      rotate_left
      · (intro u hSu; (try dsimp only at hSu); go_simp; (try with_reducible rfl))
      (try simp only [Act.put, List.setIfInBounds_toArray, List.set_cons_zero, List.set_cons_succ])
      refine Man.take1 (i := 8) (v := ?_) rfl (by kernel_rfl) (by kernel_rfl) (by kernel_rfl) (fun _ _ _ h => h) (by rfl) ?_ (by assumption) ?_
      rotate_left
      · (intro u hSu; (try dsimp only at hSu); go_simp; (try with_reducible rfl))
      (try simp only [Act.put, List.setIfInBounds_toArray, List.set_cons_zero, List.set_cons_succ])
      refine Man.take1 (i := 9) (v := ?_) rfl (by kernel_rfl) (by kernel_rfl) (by kernel_rfl) (fun _ _ _ h => h) (by rfl) ?_ (by assumption) ?_
      rotate_left
      · (intro u hSu; (try dsimp only at hSu); go_simp; (try with_reducible rfl))
      (try simp only [Act.put, List.setIfInBounds_toArray, List.set_cons_zero, List.set_cons_succ])
      refine Man.take1 (i := 10) (v := ?_) rfl (by kernel_rfl) (by kernel_rfl) (by kernel_rfl) (fun _ _ _ h => h) (by rfl) ?_ (by assumption) ?_
      rotate_left
      · (intro u hSu; (try dsimp only at hSu); go_simp; (try with_reducible rfl))
      (try simp only [Act.put, List.setIfInBounds_toArray, List.set_cons_zero, List.set_cons_succ])
      refine Man.take1 (i := 11) (v := ?_) rfl (by kernel_rfl) (by kernel_rfl) (by kernel_rfl) (fun _ _ _ h => h) (by rfl) ?_ (by assumption) ?_
      rotate_left
      · (intro u hSu; (try dsimp only at hSu); go_simp; (try with_reducible rfl))
      (try simp only [Act.put, List.setIfInBounds_toArray, List.set_cons_zero, List.set_cons_succ])
      refine Man.take1 (i := 12) (v := ?_) rfl (by kernel_rfl) (by kernel_rfl) (by kernel_rfl) (fun _ _ _ h => h) (by rfl) ?_ (by assumption) ?_
      rotate_left
      · (intro u hSu; (try dsimp only at hSu); go_simp; (try with_reducible rfl))
      (try simp only [Act.put, List.setIfInBounds_toArray, List.set_cons_zero, List.set_cons_succ])
      refine Man.take1 (i := 13) (v := ?_) rfl (by kernel_rfl) (by kernel_rfl) (by kernel_rfl) (fun _ _ _ h => h) (by rfl) ?_ (by assumption) ?_
      rotate_left
      · (intro u hSu; (try dsimp only at hSu); go_simp; (try with_reducible rfl))
      (try simp only [Act.put, List.setIfInBounds_toArray, List.set_cons_zero, List.set_cons_succ])
      refine Man.take1 (i := 14) (v := ?_) rfl (by kernel_rfl) (by kernel_rfl) (by kernel_rfl) (fun _ _ _ h => h) (by rfl) ?_ (by assumption) ?_
      rotate_left
      · (intro u hSu; (try dsimp only at hSu); go_simp; (try with_reducible rfl))
      (try simp only [Act.put, List.setIfInBounds_toArray, List.set_cons_zero, List.set_cons_succ])
      refine Man.take1 (i := 15) (v := ?_) rfl (by kernel_rfl) (by kernel_rfl) (by kernel_rfl) (fun _ _ _ h => h) (by rfl) ?_ (by assumption) ?_
      rotate_left
      · (intro u hSu; (try dsimp only at hSu); go_simp; (try with_reducible rfl))
      (try simp only [Act.put, List.setIfInBounds_toArray, List.set_cons_zero, List.set_cons_succ])
      refine Man.take1 (i := 16) (v := ?_) rfl (by kernel_rfl) (by kernel_rfl) (by kernel_rfl) (fun _ _ _ h => h) (by rfl) ?_ (by assumption) ?_
      rotate_left
      · (intro u hSu; (try dsimp only at hSu); go_simp; (try with_reducible rfl))
      (try simp only [Act.put, List.setIfInBounds_toArray, List.set_cons_zero, List.set_cons_succ])
      refine Man.take1 (i := 17) (v := ?_) rfl (by kernel_rfl) (by kernel_rfl) (by kernel_rfl) (fun _ _ _ h => h) (by rfl) ?_ (by assumption) ?_
      rotate_left
      · (intro u hSu; (try dsimp only at hSu); go_simp; (try with_reducible rfl))
      (try simp only [Act.put, List.setIfInBounds_toArray, List.set_cons_zero, List.set_cons_succ])
      refine Man.take1 (i := 18) (v := ?_) rfl (by kernel_rfl) (by kernel_rfl) (by kernel_rfl) (fun _ _ _ h => h) (by rfl) ?_ (by assumption) ?_
      rotate_left
      · (intro u hSu; (try dsimp only at hSu); go_simp; (try with_reducible rfl))
      (try simp only [Act.put, List.setIfInBounds_toArray, List.set_cons_zero, List.set_cons_succ])
      refine Man.take1 (i := 19) (v := ?_) rfl (by kernel_rfl) (by kernel_rfl) (by kernel_rfl) (fun _ _ _ h => h) (by rfl) ?_ (by assumption) ?_
      rotate_left
      · (intro u hSu; (try dsimp only at hSu); go_simp; (try with_reducible rfl))
      (try simp only [Act.put, List.setIfInBounds_toArray, List.set_cons_zero, List.set_cons_succ])
      refine Man.one (i := 20) rfl (by kernel_rfl) (fun K hK => ?_)
      go_simp
      refine hK.out _ _ (cell_later ((Below.refl _ _).alloc (Nat.le_refl _) _) hHeld) (fun hNew => ?_)
      clear hK K hHeld
      have hHeld := hNew
      clear hNew
      (try simp only [Act.put, List.setIfInBounds_toArray, List.set_cons_zero, List.set_cons_succ])
      refine Man.one (i := 21) rfl (by kernel_rfl) (fun K hK => ?_)
      go_simp
      rw [HQE.out]
      have HR3 := hidm (placeRow.later (placeRow.new wr (g.turn : Int) mo x q) (Below.refl _ _).drew)
      have hb3 := ((Below.refl wr.heap.size wr).alloc (Nat.le_refl _) (.cells #[.int .u64 (g.turn : Int), .bool mo, .string x, .string q] 139)).drew
      obtain ⟨w3, hw3⟩ : ∃ w3, w3 = (wr.alloc (.cells #[.int .u64 (g.turn : Int), .bool mo, .string x, .string q] 139)).drew := ⟨_, rfl⟩
      rw [← hw3] at HR3 hb3 ⊢
      have hB3l : wr.heap.size < w3.heap.size := by rw [hw3]; simp
      clear hw3
      have C43 := cell_later hb3 C4.out
      have C63 := hidm (cell_later hb3 C6.out)
      have H3 := hidm (HP.out.guard hb3)
      have K3 := hidm (HK.out.trans (HP.out.kept hb3))
      obtain ⟨B, hB⟩ : ∃ B, B = wr.heap.size := ⟨_, rfl⟩
      have HQB := hidm (show (fun k => Q k ∨ (wr.heap.size ≤ k ∧ k < w3.heap.size)) B from .inr ⟨by omega, by omega⟩)
      rw [← hB] at HR3 ⊢
      clear hB hb3
      refine hK.out _ _ C43 (fun hNew => ?_)
      clear hK K hHeld hNew C43
      (try simp only [Act.put, List.setIfInBounds_toArray, List.set_cons_zero, List.set_cons_succ])
      refine wpAnyH_done (by kernel_rfl) ?_ _
      go_wp2_with fail
      refine wp_region_held_drew (S := fun u' => u'.cell? ⟨L, 6, none⟩ = some (.int .i64 (u : Int)) ∧ u'.cell? ⟨B, 0, none⟩ = some (.int .u64 (g.turn : Int)) ∧ u'.cell? ⟨B, 1, none⟩ = some (.bool mo) ∧ u'.cell? ⟨B, 2, none⟩ = some (.string x) ∧ u'.cell? ⟨B, 3, none⟩ = some (.string q) ∧ placeRow B (g.turn : Int) mo x q u') (by kernel_rfl) (⟨C63.out, HR3.out.c0, HR3.out.c1, HR3.out.c2, HR3.out.c3, placeRow.later HR3.out (Below.refl _ _).drew⟩) (fun hHeld => ?_)
      have H4 := hidm (H3.out.later (Below.refl _ _).drew)
      have K4 := hidm (K3.out.trans (keepQ_less (H3.out.kept (Below.refl _ _).drew) (fun _ h => .inl h)))
      refine Man.take1 (i := 0) (v := ?_) rfl (by kernel_rfl) (by kernel_rfl) (by kernel_rfl) (fun _ _ _ h => h) (by rfl) ?_ (by assumption) ?_
      rotate_left
      · (intro u hSu; (try dsimp only at hSu); go_simp; (try with_reducible rfl))
      (try simp only [Act.put, List.setIfInBounds_toArray, List.set_cons_zero, List.set_cons_succ])
      refine Man.take1 (i := 1) (v := ?_) rfl (by kernel_rfl) (by kernel_rfl) (by kernel_rfl) (fun _ _ _ h => h) (by rfl) ?_ (by assumption) ?_
      rotate_left
      · (intro u hSu; (try dsimp only at hSu); go_simp; (try with_reducible rfl))
      (try simp only [Act.put, List.setIfInBounds_toArray, List.set_cons_zero, List.set_cons_succ])
      refine Man.take1 (i := 2) (v := ?_) rfl (by kernel_rfl) (by kernel_rfl) (by kernel_rfl) (fun _ _ _ h => h) (by rfl) ?_ (by assumption) ?_
      rotate_left
      · (intro u hSu; (try dsimp only at hSu); go_simp; (try with_reducible rfl))
      (try simp only [Act.put, List.setIfInBounds_toArray, List.set_cons_zero, List.set_cons_succ])
      refine Man.take1 (i := 3) (v := ?_) rfl (by kernel_rfl) (by kernel_rfl) (by kernel_rfl) (fun _ _ _ h => h) (by rfl) ?_ (by assumption) ?_
      rotate_left
      · (intro u hSu; (try dsimp only at hSu); go_simp; (try with_reducible rfl))
      (try simp only [Act.put, List.setIfInBounds_toArray, List.set_cons_zero, List.set_cons_succ])
      refine Man.take1 (i := 4) (v := ?_) rfl (by kernel_rfl) (by kernel_rfl) (by kernel_rfl) (fun _ _ _ h => h) (by rfl) ?_ (by assumption) ?_
      rotate_left
      · (intro u hSu; (try dsimp only at hSu); go_simp; (try with_reducible rfl))
      (try simp only [Act.put, List.setIfInBounds_toArray, List.set_cons_zero, List.set_cons_succ])
      refine Man.take1 (i := 5) (v := ?_) rfl (by kernel_rfl) (by kernel_rfl) (by kernel_rfl) (fun _ _ _ h => h) (by rfl) ?_ (by assumption) ?_
      rotate_left
      · (intro u hSu; (try dsimp only at hSu); go_simp; (try with_reducible rfl))
      (try simp only [Act.put, List.setIfInBounds_toArray, List.set_cons_zero, List.set_cons_succ])
      refine Man.take1 (i := 6) (v := ?_) rfl (by kernel_rfl) (by kernel_rfl) (by kernel_rfl) (fun _ _ _ h => h) (by rfl) ?_ (by assumption) ?_
      rotate_left
      · (intro u hSu; (try dsimp only at hSu); go_simp; (try with_reducible rfl))
      (try simp only [Act.put, List.setIfInBounds_toArray, List.set_cons_zero, List.set_cons_succ])
      refine Man.take1 (i := 7) (v := ?_) rfl (by kernel_rfl) (by kernel_rfl) (by kernel_rfl) (fun _ _ _ h => h) (by rfl) ?_ (by assumption) ?_
      rotate_left
      · (intro u hSu; (try dsimp only at hSu); go_simp; (try with_reducible rfl))
      (try simp only [Act.put, List.setIfInBounds_toArray, List.set_cons_zero, List.set_cons_succ])
      refine Man.take1 (i := 8) (v := ?_) rfl (by kernel_rfl) (by kernel_rfl) (by kernel_rfl) (fun _ _ _ h => h) (by rfl) ?_ (by assumption) ?_
      rotate_left
      · (intro u hSu; (try dsimp only at hSu); go_simp; (try with_reducible rfl))
      (try simp only [Act.put, List.setIfInBounds_toArray, List.set_cons_zero, List.set_cons_succ])
      refine Man.take1 (i := 9) (v := ?_) rfl (by kernel_rfl) (by kernel_rfl) (by kernel_rfl) (fun _ _ _ h => h) (by rfl) ?_ (by assumption) ?_
      rotate_left
      · (intro u hSu; (try dsimp only at hSu); go_simp; (try with_reducible rfl))
      (try simp only [Act.put, List.setIfInBounds_toArray, List.set_cons_zero, List.set_cons_succ])
      refine Man.take1 (i := 10) (v := ?_) rfl (by kernel_rfl) (by kernel_rfl) (by kernel_rfl) (fun _ _ _ h => h) (by rfl) ?_ (by assumption) ?_
      rotate_left
      · (intro u hSu; (try dsimp only at hSu); go_simp; (try with_reducible rfl))
      (try simp only [Act.put, List.setIfInBounds_toArray, List.set_cons_zero, List.set_cons_succ])
      refine Man.take1 (i := 11) (v := ?_) rfl (by kernel_rfl) (by kernel_rfl) (by kernel_rfl) (fun _ _ _ h => h) (by rfl) ?_ (by assumption) ?_
      rotate_left
      · (intro u hSu; (try dsimp only at hSu); go_simp; (try with_reducible rfl))
      (try simp only [Act.put, List.setIfInBounds_toArray, List.set_cons_zero, List.set_cons_succ])
      refine Man.take1 (i := 12) (v := ?_) rfl (by kernel_rfl) (by kernel_rfl) (by kernel_rfl) (fun _ _ _ h => h) (by rfl) ?_ (by assumption) ?_
      rotate_left
      · (intro u hSu; (try dsimp only at hSu); go_simp; (try with_reducible rfl))
      (try simp only [Act.put, List.setIfInBounds_toArray, List.set_cons_zero, List.set_cons_succ])
      refine Man.take1 (i := 13) (v := ?_) rfl (by kernel_rfl) (by kernel_rfl) (by kernel_rfl) (fun _ _ _ h => h) (by rfl) ?_ (by assumption) ?_
      rotate_left
      · (intro u hSu; (try dsimp only at hSu); go_simp; (try with_reducible rfl))
      (try simp only [Act.put, List.setIfInBounds_toArray, List.set_cons_zero, List.set_cons_succ])
      refine Man.take1 (i := 14) (v := ?_) rfl (by kernel_rfl) (by kernel_rfl) (by kernel_rfl) (fun _ _ _ h => h) (by rfl) ?_ (by assumption) ?_
      rotate_left
      · (intro u hSu; (try dsimp only at hSu); go_simp; (try with_reducible rfl))
      (try simp only [Act.put, List.setIfInBounds_toArray, List.set_cons_zero, List.set_cons_succ])
      refine Man.one (i := 15) rfl (by kernel_rfl) (fun K hK => ?_)
      go_simp
      refine (PB.out _).mono ?_
      rintro e w5 ⟨rfl, hb5⟩
      have HR5 := hidm (hHeld.2.2.2.2.2.later hb5)
      have C65 := cell_later hb5 hHeld.1
      have H5 := hidm (H4.out.later hb5)
      have K5 := hidm (K4.out.trans (keepQ_less (H4.out.kept hb5) (fun _ h => .inl h)))
      clear hb5
      refine hK.out _ _ (⟨C65, HR5.out.c0, HR5.out.c1, HR5.out.c2, HR5.out.c3, HR5.out⟩) (fun hNew => ?_)
      clear hK K hHeld
      have hHeld := hNew
      clear hNew
      (try simp only [Act.put, List.setIfInBounds_toArray, List.set_cons_zero, List.set_cons_succ])
      refine Man.one (i := 16) rfl (by kernel_rfl) (fun K hK => ?_)
      go_simp
      rcases (show (wrs d g.F g.turn u l j).burnt = true ∨ (wrs d g.F g.turn u l j).burnt = false from by cases (wrs d g.F g.turn u l j).burnt <;> simp) with hbz | hbz
      · have HBZ := hidm hbz
        clear hbz
        refine (LOFF.out _ _ H5.out HBZ.out).mono ?_
        rintro e w6 ⟨rfl, h6, k6⟩
        have HR6 := hidm (HR5.out.keep (k6 B HQB.out))
        have C66 : w6.cell? ⟨L, 6, none⟩ = some (.int .i64 (u : Int)) := by
          have h7 := h6.cells.2.2.2.2.2.1
          rw [HU.out]; exact h7
        have H6 := hidm h6
        have K6 := hidm (K5.out.trans (keepQ_less k6 (fun _ h => .inl h)))
        clear h6 k6
        refine hK.out _ _ (⟨C66, HR6.out.c0, HR6.out.c1, HR6.out.c2, HR6.out.c3, HR6.out⟩) (fun hNew => ?_)
        clear hK K hHeld
        have hHeld := hNew
        clear hNew
        (try simp only [Act.put, List.setIfInBounds_toArray, List.set_cons_zero, List.set_cons_succ])
        refine Man.take1 (i := 17) (v := ?_) rfl (by kernel_rfl) (by kernel_rfl) (by kernel_rfl) (fun _ _ _ h => h) (by rfl) ?_ (by assumption) ?_
        rotate_left
        · (intro u hSu; (try dsimp only at hSu); go_simp; (try with_reducible rfl))
        (try simp only [Act.put, List.setIfInBounds_toArray, List.set_cons_zero, List.set_cons_succ])
        refine wpAnyH_done (by kernel_rfl) ?_ _
        go_wp2_with fail
        go_ret
        exact ⟨.inr ⟨j, by rw [← HN.out]; exact hlt, rfl, by rw [← HU.out]; exact H6.out.less (fun _ h => .inl h), by rw [← HU.out]; exact HBZ.out, by rw [← HU.out]; exact HBU.out⟩, K6.out⟩
      · have HBZ := hidm hbz
        clear hbz
        refine (LON.out _ _ H5.out HBZ.out).mono ?_
        rintro e w6 ⟨rfl, h6, k6⟩
        have HR6 := hidm (HR5.out.keep (k6 B HQB.out))
        have C66 : w6.cell? ⟨L, 6, none⟩ = some (.int .i64 (u : Int)) := by
          have h7 := h6.cells.2.2.2.2.2.1
          rw [HU.out]; exact h7
        have H6 := hidm h6
        have K6 := hidm (K5.out.trans (keepQ_less k6 (fun _ h => .inl h)))
        clear h6 k6
        refine hK.out _ _ (⟨C66, HR6.out.c0, HR6.out.c1, HR6.out.c2, HR6.out.c3, HR6.out⟩) (fun hNew => ?_)
        clear hK K hHeld
        have hHeld := hNew
        clear hNew
        (try simp only [Act.put, List.setIfInBounds_toArray, List.set_cons_zero, List.set_cons_succ])
        refine Man.take1 (i := 17) (v := ?_) rfl (by kernel_rfl) (by kernel_rfl) (by kernel_rfl) (fun _ _ _ h => h) (by rfl) ?_ (by assumption) ?_
        rotate_left
        · (intro u hSu; (try dsimp only at hSu); go_simp; (try with_reducible rfl))
        (try simp only [Act.put, List.setIfInBounds_toArray, List.set_cons_zero, List.set_cons_succ])
        refine wpAnyH_done (by kernel_rfl) ?_ _
        rw [HYL.out, HBB.out, show g.F + (2 + (u + j)) = g.F + 2 + (u + j) by omega] at H6
        go_wp2_with fail
        go_roundw
        case rel => exact ⟨j + 1, by rw [show ((j + 1 : Nat) : Int) = (c : Int) by omega], by omega, hidm (H6.out.less (fun _ h => .inl h)), K6, hidm (fun i hi => by rcases Nat.lt_or_ge i j with h | h; exact HBU.out i h; rw [show i = j by omega]; exact HBZ.out)⟩
        case measure => simp [intOf]; omega
    · obtain rfl : j = n := by omega
      have g1 : ¬ (j : Int) < (j : Int) := by omega
      obtain ⟨i0, hi0, hz0, hz1, hz2⟩ := info_parts infoS
      obtain ⟨U, sl, hm, hlg, huu⟩ := HP.out.ex
      have C5 := hidm (hlg.cellAt 5)
      obtain ⟨rl, hrl⟩ : ∃ rl, rl = g.recs.length := ⟨_, rfl⟩
      have hrl2 : rl ≤ 1000 := by omega
      have hnj : 1 ≤ j := by rw [HN.out]; exact np_pos l
      have hba : ∀ w5 : World, Below w5.heap.size w5 (w5.alloc (.cells #[.string s] 9)) := fun w5 => (Below.refl _ _).alloc (Nat.le_refl _) _
      have HM6 := hidm (show ∀ w5, Below wr.heap.size wr w5 → Mine W (fun k => Q k ∨ U k) D (wrs d g.F g.turn u l j) (w5.alloc (.cells #[.string s] 9)) from fun w5 hb => (hm.later hb).later (hba w5))
      have HL6 := hidm (show ∀ w5, Below wr.heap.size wr w5 → LogAt L D g sl U (w5.alloc (.cells #[.string s] 9)) from fun w5 hb => (hlg.keep (fun k hk => hb.block k (hm.qlt k (.inr hk)))).keep (fun k hk => (hba w5).block k (Nat.lt_of_lt_of_le (hm.qlt k (.inr hk)) hb.size)))
      have HOW := hidm (show ∀ w5, Below wr.heap.size wr w5 → (w5.alloc (.cells #[.string s] 9)).ownsRow 0 9 1 sl rl (strs g.recs) from fun w5 hb => hrl ▸ (HL6.out w5 hb).own)
      have HAP := hidm (show ∀ w5, Below wr.heap.size wr w5 → ∀ w7 b cap, w7.ownsRow 0 9 1 (.slice (some ⟨b, 0, none⟩) (rl + 1) cap) (rl + 1) (strs g.recs ++ [.string s]) → (w5.alloc (.cells #[.string s] 9)).grownBy w7 sl.ownBlock → (sl.ownBlock = some b ∨ b = (w5.alloc (.cells #[.string s] 9)).heap.size) → b < w7.heap.size → 
          w7.cell? ⟨L, 5, none⟩ = some sl ∧ w7.frozen? ⟨L, 5, none⟩ = false ∧ Hid (Pair W Q L D { g with recs := g.recs ++ [l] } (wrs d g.F g.turn u l j) (w7.setCell ⟨L, 5, none⟩ (.slice (some ⟨b, 0, none⟩) (rl + 1) cap)) ∧ KeepQ Q w (w7.setCell ⟨L, 5, none⟩ (.slice (some ⟨b, 0, none⟩) (rl + 1) cap))) from fun w5 hb w7 b cap h1 h2 h3 h4 => by
        rw [hrl] at h1 ⊢
        have hp := pushed (Q := Q) (s := l) (HM6.out w5 hb) (HL6.out w5 hb) huu (by rw [HSS.out]; exact h1) h2 h3 h4 ⟨HOK.out.1, HOK.out.2.1, HOK.out.2.2.1, HOK.out.2.2.2.1, by show (g.recs ++ [l]).length ≤ _; rw [List.length_append]; simp; omega⟩
        exact ⟨hp.1, hp.2.1, hidm ⟨hp.2.2.1, (HK.out.trans (HP.out.kept (hb.trans ((hba w5).mono hb.size)))).trans hp.2.2.2⟩⟩)
      have CL := hidm (fun w => clone_any s w (by omega))
      obtain ⟨v, hv⟩ : ∃ v, v = u + j := ⟨_, rfl⟩
      have k1 : (u : Int) + (j : Int) = (v : Int) := by omega
      have k1w : IntKind.i64.wrap (v : Int) = (v : Int) := by simp only [IntKind.wrap_i64]; omega
      have k1w2 : wrap64 (v : Int) = (v : Int) := by unfold wrap64; omega
      have HV := hidm hv
      have HOK2 := hidm (ok_push (l := l) (v := v) (n := j) HOK.out hr (by rw [hv, HU.out]) hnj (by rw [← HU.out]; exact hun))
      have HRL := hidm hrl
      have HHR := hidm hr
      clear hm hlg huu hba hrl hv hr
      go_wp2_with fail
      have C5d : wr.drew.cell? ⟨L, 5, none⟩ = some sl := C5.out
      refine wp_region_held_drew (S := fun u' => True) (by kernel_rfl) trivial (fun hHeld => ?_)
      refine Man.take1 (i := 0) (v := ?_) rfl (by kernel_rfl) (by kernel_rfl) (by kernel_rfl) (fun _ _ _ h => h) (by rfl) ?_ (by assumption) ?_
      rotate_left
      · (intro u hSu; (try dsimp only at hSu); go_simp; (try with_reducible rfl))
      (try simp only [Act.put, List.setIfInBounds_toArray, List.set_cons_zero, List.set_cons_succ])
      refine Man.take1 (i := 1) (v := ?_) rfl (by kernel_rfl) (by kernel_rfl) (by kernel_rfl) (fun _ _ _ h => h) (by rfl) ?_ (by assumption) ?_
      rotate_left
      · (intro u hSu; (try dsimp only at hSu); go_simp; (try with_reducible rfl))
      (try simp only [Act.put, List.setIfInBounds_toArray, List.set_cons_zero, List.set_cons_succ])
      refine Man.take1 (i := 2) (v := ?_) rfl (by kernel_rfl) (by kernel_rfl) (by kernel_rfl) (fun _ _ _ h => h) (by rfl) ?_ (by assumption) ?_
      rotate_left
      · (intro u hSu; (try dsimp only at hSu); go_simp; (try with_reducible rfl))
      (try simp only [Act.put, List.setIfInBounds_toArray, List.set_cons_zero, List.set_cons_succ])
      refine Man.take1 (i := 3) (v := ?_) rfl (by kernel_rfl) (by kernel_rfl) (by kernel_rfl) (fun _ _ _ h => h) (by rfl) ?_ (by assumption) ?_
      rotate_left
      · (intro u hSu; (try dsimp only at hSu); go_simp; (try with_reducible rfl))
      (try simp only [Act.put, List.setIfInBounds_toArray, List.set_cons_zero, List.set_cons_succ])
      refine Man.take1 (i := 5) (v := ?_) rfl (by kernel_rfl) (by kernel_rfl) (by kernel_rfl) (fun _ _ _ h => h) (by rfl) ?_ (by assumption) ?_
      rotate_left
      · (intro u hSu; (try dsimp only at hSu); go_simp; (try with_reducible rfl))
      (try simp only [Act.put, List.setIfInBounds_toArray, List.set_cons_zero, List.set_cons_succ])
      refine Man.two (i := 4) (j := 6) rfl rfl (by kernel_rfl) (fun K hK => ?_) (fun K hK => ?_)
      · go_simp
        refine hK.out _ _ trivial (fun hNew => ?_)
        clear hK K hHeld
        have hHeld := hNew
        clear hNew
        (try simp only [Act.put, List.setIfInBounds_toArray, List.set_cons_zero, List.set_cons_succ])
        refine Man.one (i := 6) rfl (by kernel_rfl) (fun K hK => ?_)
        go_simp
        refine (CL.out _).mono ?_
        rintro e w5 ⟨rfl, hb5⟩
        have C55 := cell_later hb5 C5d
        have C56 := fun o => cell_later ((Below.refl _ w5).alloc (Nat.le_refl _) o) C55
        have HB5 := hidm (((Below.refl _ wr).drew).trans hb5)
        clear hb5
        refine hK.out _ _ trivial (fun hNew => ?_)
        clear hK K hHeld
        have hHeld := hNew
        clear hNew
        (try simp only [Act.put, List.setIfInBounds_toArray, List.set_cons_zero, List.set_cons_succ])
        refine Man.one (i := 7) rfl (by kernel_rfl) (fun K hK => ?_)
        go_simp
        refine hK.out _ _ trivial (fun hNew => ?_)
        clear hK K hHeld
        have hHeld := hNew
        clear hNew
        (try simp only [Act.put, List.setIfInBounds_toArray, List.set_cons_zero, List.set_cons_succ])
        refine Man.one (i := 8) rfl (by kernel_rfl) (fun K hK => ?_)
        refine step_append_lies _ rfl _ _ 28 rfl 0 9 i0 (.string ⟨#[]⟩) 1 16 Tryz.underlying28 hi0 hz0 hz1 hz2 rfl (by decide) _ rl (strs g.recs) rfl (HOW.out w5 HB5.out) ⟨w5.heap.size, 0, none⟩ 1 1 [.string s] rfl rfl ?a2x ?a3x (by decide) ?a4x ?a5x ?a6x _ rfl (fun b cap w7 hown hgrow hg hlt7 => ?_)
        case a2x => exact World.news_of_block (heap_alloc_last _ _)
        case a3x => intro u hu; simp at hu; rcases hu with rfl; rfl
        case a4x => unfold maxLen; omega
        case a5x => omega
        case a6x => omega
        have hAP := HAP.out w5 HB5.out w7 b cap hown hgrow hg hlt7
        have h57 := hAP.1
        have z57 := hAP.2.1
        have HAN := hAP.2.2
        clear hAP hown hgrow hg hlt7
        refine hK.out _ _ trivial (fun hNew => ?_)
        clear hK K hHeld
        have hHeld := hNew
        clear hNew
        (try simp only [Act.put, List.setIfInBounds_toArray, List.set_cons_zero, List.set_cons_succ])
        refine Man.take1 (i := 9) (v := ?_) rfl (by kernel_rfl) (by kernel_rfl) (by kernel_rfl) (fun _ _ _ h => h) (by rfl) ?_ (by assumption) ?_
        rotate_left
        · (intro u hSu; (try dsimp only at hSu); go_simp; (try with_reducible rfl))
        (try simp only [Act.put, List.setIfInBounds_toArray, List.set_cons_zero, List.set_cons_succ])
        refine Man.take1 (i := 10) (v := ?_) rfl (by kernel_rfl) (by kernel_rfl) (by kernel_rfl) (fun _ _ _ h => h) (by rfl) ?_ (by assumption) ?_
        rotate_left
        · (intro u hSu; (try dsimp only at hSu); go_simp; (try with_reducible rfl))
        (try simp only [Act.put, List.setIfInBounds_toArray, List.set_cons_zero, List.set_cons_succ])
        refine Man.one (i := 11) rfl (by kernel_rfl) (fun K hK => ?_)
        go_simp
        refine hK.out _ _ trivial (fun hNew => ?_)
        clear hK K hHeld hNew
        (try simp only [Act.put])
        refine wpAnyH_done (by kernel_rfl) ?_ _
        obtain ⟨W8, hW8⟩ : ∃ W8, W8 = w7.setCell ⟨L, 5, none⟩ (.slice (some ⟨b, 0, none⟩) (rl + 1) cap) := ⟨_, rfl⟩
        have HAN8 := HAN
        rw [← hW8] at HAN8 ⊢
        clear hW8 h57 z57 C55 C56 HAN
        have c6 : W8.cell? ⟨L, 6, none⟩ = some (.int .i64 (u : Int)) := by rw [HU.out]; exact HAN8.out.1.cells.2.2.2.2.2.1
        have z6 := HAN8.out.1.z 6
        have HPU := hidm (HAN8.out.1.put 6 (.int .i64 (v : Int)) { g with recs := g.recs ++ [l], used := v } (fun _ => rfl) rfl HOK2.out)
        go_wp2_with fail
        go_ret
        refine ⟨.inl ⟨rfl, ?_, ?_⟩, HAN8.out.2.trans HPU.out.2⟩
        · rw [← HN.out, ← HU.out, ← HV.out]; exact HPU.out.1
        · intro i hi
          rw [← HU.out]
          exact HBU.out i (by rw [HN.out]; exact hi)
      · go_simp
        refine (CL.out _).mono ?_
        rintro e w5 ⟨rfl, hb5⟩
        have C55 := cell_later hb5 C5d
        have C56 := fun o => cell_later ((Below.refl _ w5).alloc (Nat.le_refl _) o) C55
        have HB5 := hidm (((Below.refl _ wr).drew).trans hb5)
        clear hb5
        refine hK.out _ _ trivial (fun hNew => ?_)
        clear hK K hHeld
        have hHeld := hNew
        clear hNew
        (try simp only [Act.put, List.setIfInBounds_toArray, List.set_cons_zero, List.set_cons_succ])
        refine Man.two (i := 4) (j := 7) rfl rfl (by kernel_rfl) (fun K hK => ?_) (fun K hK => ?_)
        · go_simp
          refine hK.out _ _ trivial (fun hNew => ?_)
          clear hK K hHeld
          have hHeld := hNew
          clear hNew
          (try simp only [Act.put, List.setIfInBounds_toArray, List.set_cons_zero, List.set_cons_succ])
          refine Man.one (i := 7) rfl (by kernel_rfl) (fun K hK => ?_)
          go_simp
          refine hK.out _ _ trivial (fun hNew => ?_)
          clear hK K hHeld
          have hHeld := hNew
          clear hNew
          (try simp only [Act.put, List.setIfInBounds_toArray, List.set_cons_zero, List.set_cons_succ])
          refine Man.one (i := 8) rfl (by kernel_rfl) (fun K hK => ?_)
          refine step_append_lies _ rfl _ _ 28 rfl 0 9 i0 (.string ⟨#[]⟩) 1 16 Tryz.underlying28 hi0 hz0 hz1 hz2 rfl (by decide) _ rl (strs g.recs) rfl (HOW.out w5 HB5.out) ⟨w5.heap.size, 0, none⟩ 1 1 [.string s] rfl rfl ?a2y ?a3y (by decide) ?a4y ?a5y ?a6y _ rfl (fun b cap w7 hown hgrow hg hlt7 => ?_)
          case a2y => exact World.news_of_block (heap_alloc_last _ _)
          case a3y => intro u hu; simp at hu; rcases hu with rfl; rfl
          case a4y => unfold maxLen; omega
          case a5y => omega
          case a6y => omega
          have hAP := HAP.out w5 HB5.out w7 b cap hown hgrow hg hlt7
          have h57 := hAP.1
          have z57 := hAP.2.1
          have HAN := hAP.2.2
          clear hAP hown hgrow hg hlt7
          refine hK.out _ _ trivial (fun hNew => ?_)
          clear hK K hHeld
          have hHeld := hNew
          clear hNew
          (try simp only [Act.put, List.setIfInBounds_toArray, List.set_cons_zero, List.set_cons_succ])
          refine Man.take1 (i := 9) (v := ?_) rfl (by kernel_rfl) (by kernel_rfl) (by kernel_rfl) (fun _ _ _ h => h) (by rfl) ?_ (by assumption) ?_
          rotate_left
          · (intro u hSu; (try dsimp only at hSu); go_simp; (try with_reducible rfl))
          (try simp only [Act.put, List.setIfInBounds_toArray, List.set_cons_zero, List.set_cons_succ])
          refine Man.take1 (i := 10) (v := ?_) rfl (by kernel_rfl) (by kernel_rfl) (by kernel_rfl) (fun _ _ _ h => h) (by rfl) ?_ (by assumption) ?_
          rotate_left
          · (intro u hSu; (try dsimp only at hSu); go_simp; (try with_reducible rfl))
          (try simp only [Act.put, List.setIfInBounds_toArray, List.set_cons_zero, List.set_cons_succ])
          refine Man.one (i := 11) rfl (by kernel_rfl) (fun K hK => ?_)
          go_simp
          refine hK.out _ _ trivial (fun hNew => ?_)
          clear hK K hHeld hNew
          (try simp only [Act.put])
          refine wpAnyH_done (by kernel_rfl) ?_ _
          obtain ⟨W8, hW8⟩ : ∃ W8, W8 = w7.setCell ⟨L, 5, none⟩ (.slice (some ⟨b, 0, none⟩) (rl + 1) cap) := ⟨_, rfl⟩
          have HAN8 := HAN
          rw [← hW8] at HAN8 ⊢
          clear hW8 h57 z57 C55 C56 HAN
          have c6 : W8.cell? ⟨L, 6, none⟩ = some (.int .i64 (u : Int)) := by rw [HU.out]; exact HAN8.out.1.cells.2.2.2.2.2.1
          have z6 := HAN8.out.1.z 6
          have HPU := hidm (HAN8.out.1.put 6 (.int .i64 (v : Int)) { g with recs := g.recs ++ [l], used := v } (fun _ => rfl) rfl HOK2.out)
          go_wp2_with fail
          go_ret
          refine ⟨.inl ⟨rfl, ?_, ?_⟩, HAN8.out.2.trans HPU.out.2⟩
          · rw [← HN.out, ← HU.out, ← HV.out]; exact HPU.out.1
          · intro i hi
            rw [← HU.out]
            exact HBU.out i (by rw [HN.out]; exact hi)
        · go_simp
          refine hK.out _ _ trivial (fun hNew => ?_)
          clear hK K hHeld
          have hHeld := hNew
          clear hNew
          (try simp only [Act.put, List.setIfInBounds_toArray, List.set_cons_zero, List.set_cons_succ])
          refine Man.one (i := 4) rfl (by kernel_rfl) (fun K hK => ?_)
          go_simp
          refine hK.out _ _ trivial (fun hNew => ?_)
          clear hK K hHeld
          have hHeld := hNew
          clear hNew
          (try simp only [Act.put, List.setIfInBounds_toArray, List.set_cons_zero, List.set_cons_succ])
          refine Man.one (i := 8) rfl (by kernel_rfl) (fun K hK => ?_)
          refine step_append_lies _ rfl _ _ 28 rfl 0 9 i0 (.string ⟨#[]⟩) 1 16 Tryz.underlying28 hi0 hz0 hz1 hz2 rfl (by decide) _ rl (strs g.recs) rfl (HOW.out w5 HB5.out) ⟨w5.heap.size, 0, none⟩ 1 1 [.string s] rfl rfl ?a2z ?a3z (by decide) ?a4z ?a5z ?a6z _ rfl (fun b cap w7 hown hgrow hg hlt7 => ?_)
          case a2z => exact World.news_of_block (heap_alloc_last _ _)
          case a3z => intro u hu; simp at hu; rcases hu with rfl; rfl
          case a4z => unfold maxLen; omega
          case a5z => omega
          case a6z => omega
          have hAP := HAP.out w5 HB5.out w7 b cap hown hgrow hg hlt7
          have h57 := hAP.1
          have z57 := hAP.2.1
          have HAN := hAP.2.2
          clear hAP hown hgrow hg hlt7
          refine hK.out _ _ trivial (fun hNew => ?_)
          clear hK K hHeld
          have hHeld := hNew
          clear hNew
          (try simp only [Act.put, List.setIfInBounds_toArray, List.set_cons_zero, List.set_cons_succ])
          refine Man.take1 (i := 9) (v := ?_) rfl (by kernel_rfl) (by kernel_rfl) (by kernel_rfl) (fun _ _ _ h => h) (by rfl) ?_ (by assumption) ?_
          rotate_left
          · (intro u hSu; (try dsimp only at hSu); go_simp; (try with_reducible rfl))
          (try simp only [Act.put, List.setIfInBounds_toArray, List.set_cons_zero, List.set_cons_succ])
          refine Man.take1 (i := 10) (v := ?_) rfl (by kernel_rfl) (by kernel_rfl) (by kernel_rfl) (fun _ _ _ h => h) (by rfl) ?_ (by assumption) ?_
          rotate_left
          · (intro u hSu; (try dsimp only at hSu); go_simp; (try with_reducible rfl))
          (try simp only [Act.put, List.setIfInBounds_toArray, List.set_cons_zero, List.set_cons_succ])
          refine Man.one (i := 11) rfl (by kernel_rfl) (fun K hK => ?_)
          go_simp
          refine hK.out _ _ trivial (fun hNew => ?_)
          clear hK K hHeld hNew
          (try simp only [Act.put])
          refine wpAnyH_done (by kernel_rfl) ?_ _
          obtain ⟨W8, hW8⟩ : ∃ W8, W8 = w7.setCell ⟨L, 5, none⟩ (.slice (some ⟨b, 0, none⟩) (rl + 1) cap) := ⟨_, rfl⟩
          have HAN8 := HAN
          rw [← hW8] at HAN8 ⊢
          clear hW8 h57 z57 C55 C56 HAN
          have c6 : W8.cell? ⟨L, 6, none⟩ = some (.int .i64 (u : Int)) := by rw [HU.out]; exact HAN8.out.1.cells.2.2.2.2.2.1
          have z6 := HAN8.out.1.z 6
          have HPU := hidm (HAN8.out.1.put 6 (.int .i64 (v : Int)) { g with recs := g.recs ++ [l], used := v } (fun _ => rfl) rfl HOK2.out)
          go_wp2_with fail
          go_ret
          refine ⟨.inl ⟨rfl, ?_, ?_⟩, HAN8.out.2.trans HPU.out.2⟩
          · rw [← HN.out, ← HU.out, ← HV.out]; exact HPU.out.1
          · intro i hi
            rw [← HU.out]
            exact HBU.out i (by rw [HN.out]; exact hi)
end
end Wal
end Go.Proofs.YtmccnlffikegfaaGreatDoor
