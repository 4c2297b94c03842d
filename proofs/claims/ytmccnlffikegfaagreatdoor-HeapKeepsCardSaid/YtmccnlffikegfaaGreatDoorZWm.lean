/- load. Conditions: asu it says. -/
import Derived.Test.YtmccnlffikegfaaGreatDoorZWlto
import Derived.Deep.DeepCutAuto
import Derived.OwnWalk
import Derived.Lib.AppendStr
import Derived.Laws.BytesArg
import Derived.WalkMore
namespace Go.Proofs.YtmccnlffikegfaaGreatDoor
open Go.RowKit
namespace Wal
open Dsk (PD Mine KeepQ DiskIs Only Grow upd pad)
open Crc (S S_of S_size S_append S_add hidm good took)
theorem infoU : (Tryz.prog.info? 5).map (fun i => (i.zero, i.size, i.bytes)) = some (some (.int .u8 0), 1, 1) := by kernel_rfl
theorem str_own {w : World} {base : Nat} {l : List UInt8} {v : Value} (h : w.ownsRow base 5 1 v l.length (Lib.byteCells l)) :
    (convert 62 9 v).run Tryz.prog w = .ok (.string (S l)) w := by
  cases l with
  | nil =>
    rcases h.2 with ⟨hv, _⟩ | ⟨g, cap, cur, hv, _⟩
    · subst hv; exact run_convert_bytes_nil w _ _ Tryz.underlying62 Tryz.underlying5 0 0 _ Tryz.underlying9
    · subst hv
      exact run_convert_bytes_back (P := Tryz.prog) w _ _ _ _ _ [] Tryz.underlying62 Tryz.underlying5 Tryz.underlying9 (fun j hj => by cases hj)
  | cons c l => exact Cod.str_of_own h rfl (by simp)
theorem bad_is (a p : Pl) (t : Nat) : bad a p t = true ↔ (p.turn < a.turn ∨ t < p.turn ∨ (a.more = true ∧ (p.turn ≠ a.turn ∨ p.sum ≠ a.sum))) := by
  unfold bad
  simp
  constructor
  · intro h
    rcases h with (h | h) | h
    · exact .inl h
    · exact .inr (.inl h)
    · exact .inr (.inr ⟨h.1, h.2⟩)
  · intro h
    rcases h with h | h | h
    · exact .inl (.inl h)
    · exact .inl (.inr h)
    · exact .inr ⟨h.1, h.2⟩
theorem good_took {acc s : List UInt8} (hs : s.length = 4) (h : good (acc ++ s) = true) : took (acc ++ s) = acc := by
  unfold took
  rw [if_pos h, List.length_append, hs, Nat.add_sub_cancel, List.take_left]
section
variable {W : World} {Q : Nat → Prop} {L D : Nat} {g : PL} {d : PD} {w : World}
/-- The log with these records. -/
def PL.has (g : PL) (G : List (List UInt8 × Nat)) : PL := { g with recs := G.map Prod.fst, used := lst G 0 }
theorem has_nil (h0 : g.recs = []) (hu : g.used = 0) : g.has [] = g := by
  cases g
  simp only at h0 hu
  subst h0
  subst hu
  rfl
theorem Mem.fin {w0 w : World} {B A t b : Nat} {a : Pl} {v : Value} {acc : List UInt8} {R : Nat → Prop} {G dn : List (List UInt8 × Nat)} (h : Mem W Q L D (g.has dn) d w0 B A t b a v acc R w) (hG : G = dn) : Pair W Q L D (g.has G) d w ∧ KeepQ Q w0 w := by
  subst hG
  exact ⟨h.pair.less (fun _ e => .inl e), h.keep⟩
theorem own_ne {w : World} {base : Nat} {v : Value} {n : Nat} {xs : List Value} {PB : Nat} {t : Int} {m : Bool} {s q : ByteArray} (h : w.ownsRow base 5 1 v n xs) (hr : placeRow PB t m s q w) : some PB ≠ v.ownBlock := fun hk => by
  rcases h.2 with ⟨h2, _⟩ | ⟨b', c, cur, hv, hg, hh, rest⟩
  · rw [h2] at hk; cases hk
  · rw [hv] at hk
    have hbj : PB = b' := by simpa [Value.ownBlock] using hk
    rw [← hbj, hr] at hh; simp at hh
theorem small1 {a k : Nat} (h : a ≤ 100000) (hk : k ≤ 100) : a + k ≤ maxLen := by unfold maxLen; omega
theorem small2 {a k : Nat} (h : a ≤ 100000) (hk : k ≤ 100) : a + k ≤ 140737488355328 := by omega
theorem small3 {a k : Nat} (h : a ≤ 100100) (hk : k = 4) : ¬ 9223372036854775807 < a + k := by omega
theorem has_snoc (dn : List (List UInt8 × Nat)) (x : List UInt8) (j : Nat) : g.has (dn ++ [(x, j)]) = { g.has dn with recs := (g.has dn).recs ++ [x], used := j } := by
  unfold PL.has
  rw [lst_snoc, List.map_append]
  rfl
theorem has_ok {dn : List (List UInt8 × Nat)} {x : List UInt8} {n i : Nat} (h : g.F ≤ 4096 ∧ g.n ≤ 1000 ∧ g.turn ≤ 1099511627776) (hn : n = g.n) (hi : i < n) (hd : lst dn 0 ≤ i ∧ dn.length ≤ lst dn 0) :
    PL.ok { g.has dn with recs := (g.has dn).recs ++ [x] } ∧ PL.ok { g.has dn with recs := (g.has dn).recs ++ [x], used := i + 1 } := by
  obtain ⟨h1, h2, h3⟩ := h
  obtain ⟨h4, h5⟩ := hd
  have hl : ((g.has dn).recs ++ [x]).length = dn.length + 1 := by
    show (dn.map Prod.fst ++ [x]).length = _
    simp
  refine ⟨⟨h1, h2, h3, ?_, ?_⟩, ⟨h1, h2, h3, ?_, ?_⟩⟩
  · show lst dn 0 ≤ g.n
    omega
  · show ((g.has dn).recs ++ [x]).length ≤ lst dn 0 + 1
    rw [hl]; omega
  · show i + 1 ≤ g.n
    omega
  · show ((g.has dn).recs ++ [x]).length ≤ i + 1 + 1
    rw [hl]; omega
set_option maxHeartbeats 8000000 in
set_option maxRecDepth 100000 in
theorem load_any (h : Pair W Q L D g d w) (t b : Nat) (hd : g.F + 2 + g.n ≤ d.n) (h0 : g.recs = []) (hu : g.used = 0) (G : List (List UInt8 × Nat)) (hG : go (plF g.F d.f) t g.n 0 (st b) [] = G) :
    Calls Tryz.prog 62 #[.pointer (some ⟨L, 0, none⟩), .agg #[.int .u64 (t : Int), .int .u64 (b : Int)]] w fun e w' => e = .returned (.tuple #[]) ∧ Pair W Q L D (g.has G) d w' ∧ KeepQ Q w w' := by
  obtain ⟨i0, hi, hz0, hz1, hz2⟩ := info_parts infoU
  obtain ⟨j0, hj, hy0, hy1, hy2⟩ := info_parts infoS
  have hok := h.ok
  obtain ⟨hF, hn1, ht, hu1, hr1⟩ := hok
  have hn0 : g.has [] = g := has_nil h0 hu
  obtain ⟨n, hn⟩ : ∃ n, n = g.n := ⟨_, rfl⟩
  have c3 := h.cells.2.2.2.1
  rw [← hn] at c3
  have c3a := fun o => cell_later ((Below.refl _ w).alloc (Nat.le_refl _) o) c3
  have c3b := fun o o' => cell_later ((Below.refl _ (w.alloc o)).alloc (Nat.le_refl _) o') (c3a o)
  have hb2 : Below w.heap.size w ((w.alloc (.cells #[.int .u64 (t : Int), .int .u64 (b : Int)] 118)).alloc (.cells #[.int .u64 (b : Int), .bool false, .string ⟨#[]⟩, .string ⟨#[]⟩] 139)) := ((Below.refl _ _).alloc (Nat.le_refl _) _).alloc (by simp) _
  have M0 := hidm (show Mem W Q L D (g.has []) d w w.heap.size (w.heap.size + 1) t b (st b) (.slice none 0 0) [] (fun k => w.heap.size ≤ k ∧ k < w.heap.size + 2) ((w.alloc (.cells #[.int .u64 (t : Int), .int .u64 (b : Int)] 118)).alloc (.cells #[.int .u64 (b : Int), .bool false, .string ⟨#[]⟩, .string ⟨#[]⟩] 139)) from by
    rw [hn0]
    refine ⟨(h.guard hb2).less (fun k e => ?_), h.kept hb2, ?_, slotRow.later (slotRow.new w _ _) ((Below.refl _ _).alloc (Nat.le_refl _) _), World.ownsRow_nil _ _ _ _, ⟨by omega, by omega⟩, ⟨by omega, by omega⟩, fun k hk => (by cases hk), fun k hk => hk.1, h.bel.size, h.qlt, by omega⟩
    · rcases e with e | e
      · exact .inl e
      · exact .inr ⟨e.1, by simpa using e.2⟩
    · have := placeRow.new (w.alloc (.cells #[.int .u64 (t : Int), .int .u64 (b : Int)] 118)) (b : Int) false ⟨#[]⟩ ⟨#[]⟩
      have h9 : placeRow (w.heap.size + 1) (b : Int) false ⟨#[]⟩ ⟨#[]⟩ ((w.alloc (.cells #[.int .u64 (t : Int), .int .u64 (b : Int)] 118)).alloc (.cells #[.int .u64 (b : Int), .bool false, .string ⟨#[]⟩, .string ⟨#[]⟩] 139)) := by simpa using this
      exact h9)
  have SEC := hidm (show ∀ (i : Nat), i < n → ∀ (Q' : Nat → Prop) (dn : List (List UInt8 × Nat)) w', Pair W Q' L D (g.has dn) d w' → Calls Tryz.prog 86 #[.pointer (some ⟨L, 0, none⟩), .int .i64 ((2 + i : Nat) : Int)] w' fun e w'' => e = .returned (.string (S (d.f ((g.F + 2 + i : Nat) : Int)))) ∧ Below w'.heap.size w' w'' from fun i hi Q' dn w' hP => by
    have := sector_any hP (2 + i) (by omega) (by show g.F + (2 + i) < d.n; omega)
    rw [show (g.has dn).F + (2 + i) = g.F + 2 + i by show g.F + (2 + i) = _; omega] at this
    exact this)
  have hlen := fun k => h.len k
  have PLC := hidm (show ∀ (i : Nat), i < n → ∀ w', Calls Tryz.prog 87 #[.string (S (d.f ((g.F + 2 + i : Nat) : Int))), .int .i64 (i : Int)] w' fun e w'' => e = .returned (.tuple #[((plF g.F d.f i).getD Pl.zero).agg, .bool (plF g.F d.f i).isSome]) ∧ Below w'.heap.size w' w'' from fun i hi w' => placeof_any (S (d.f ((g.F + 2 + i : Nat) : Int))) (by rw [S_size, hlen]; omega) i (by omega) w')
  have HF0 := hidm (show ∀ i p, plF g.F d.f i = some p → p.sum.length = 4 ∧ p.part.length ≤ 100 from fun i p hp => plP_is hp)
  have HN := hidm hn
  have HNL := hidm (show n ≤ 1000 from by omega)
  have HGG := hidm (show G = [] ++ go (plF g.F d.f) t (n - 0) 0 (st b) [] from by rw [List.nil_append, Nat.sub_zero, hn]; exact hG.symm)
  have HOKF := hidm (show g.F ≤ 4096 ∧ g.n ≤ 1000 ∧ g.turn ≤ 1099511627776 from ⟨hF, hn1, ht⟩)
  have HTT := hidm (fun (y : ByteArray) (hy : y.size ≤ 1099511627776) (w1 : World) => Crc.take_any y hy w1)
  clear h h0 hu hG hn0 hn hlen hF hn1 ht hu1 hr1 hd hb2
  go_enter Tryz.func62, Tryz.ntmps62
  go_wp2_with fail
  go_step3
  go_wp2_with fail
  go_step3
  go_wp2_with fail
  clear c3 c3a c3b
  obtain ⟨w2, hw2⟩ : ∃ w2, w2 = ((w.alloc (.cells #[.int .u64 (t : Int), .int .u64 (b : Int)] 118)).alloc (.cells #[.int .u64 (b : Int), .bool false, .string ⟨#[]⟩, .string ⟨#[]⟩] 139)) := ⟨_, rfl⟩
  rw [← hw2] at M0 ⊢
  clear hw2
  obtain ⟨B, hB⟩ : ∃ B, B = w.heap.size := ⟨_, rfl⟩
  obtain ⟨A, hA⟩ : ∃ A, A = w.heap.size + 1 := ⟨_, rfl⟩
  rw [← hA, ← hB]
  have M0 := hidm (show Mem W Q L D (g.has []) d w B A t b (st b) (.slice none 0 0) [] (fun k => w.heap.size ≤ k ∧ k < w.heap.size + 2) w2 from by rw [hB, hA]; exact M0.out)
  clear hB hA
  go_loopw [5, 17] (fun r5 ii wr => ∃ (i : Nat) (a : Pl) (acc : List UInt8) (dn : List (List UInt8 × Nat)) (R : Nat → Prop), ii = .int .i64 i ∧ i ≤ n ∧ Hid (acc.length ≤ 100 * i) ∧ Hid (lst dn 0 ≤ i ∧ dn.length ≤ lst dn 0) ∧ Hid (G = dn ++ go (plF g.F d.f) t (n - i) i a acc) ∧ Hid (Mem W Q L D (g.has dn) d w B A t b a r5 acc R wr)) (fun _ ii _ => (n - (intOf ii).toNat))
  case atStart => exact ⟨0, st b, [], [], _, rfl, by omega, hidm (Nat.le_refl _), hidm ⟨Nat.le_refl _, Nat.le_refl _⟩, HGG, M0⟩
  case round =>
    rename World => wr
    obtain ⟨i, a, acc, dn, R, rfl, hin, HAC, HDN, HGO, HM⟩ := hrel
    rcases Nat.lt_or_ge i n with hlt | hge
    · have g1 : (i : Int) < (n : Int) := by omega
      have HN2 := HNL.out
      have HLT := hidm hlt
      obtain ⟨k2, hk2⟩ : ∃ k, k = 2 + i := ⟨_, rfl⟩
      have z1 : (2 : Int) + (i : Int) = (k2 : Int) := by omega
      have z1w : IntKind.i64.wrap (k2 : Int) = (k2 : Int) := by simp only [IntKind.wrap_i64]; omega
      have SE := hidm (SEC.out i hlt _ dn wr HM.out.pair)
      rw [← hk2] at SE
      have PC := hidm (PLC.out i hlt)
      obtain ⟨P, hP⟩ : ∃ P, P = plF g.F d.f i := ⟨_, rfl⟩
      rw [← hP] at PC
      have HP := hidm hP.symm
      clear hk2 hP HN2
      obtain ⟨mm, hmm⟩ : ∃ mm, n - i = mm + 1 := ⟨n - i - 1, by omega⟩
      have HMM := hidm hmm
      have HMM2 := hidm (show n - (i + 1) = mm from by omega)
      clear hmm
      go_wp2_with fail
      refine SE.out.mono ?_
      rintro e w3 ⟨rfl, hb3⟩
      have M3 := hidm (HM.out.later hb3)
      clear hb3 SE
      go_wp2_with fail
      refine (PC.out w3).mono ?_
      rintro e w4 ⟨rfl, hb4⟩
      have M4 := hidm (M3.out.later hb4)
      clear hb4 PC M3 HM
      cases P with
      | none =>
        have M5 := hidm (M4.out.later ((Below.refl _ w4).alloc (Nat.le_refl _) (.cells #[.int .u64 0, .bool false, .string ⟨#[]⟩, .string ⟨#[]⟩] 139)))
        have HG2 := hidm (show G = dn from by have h1 := HGO.out; rw [go_none HP.out, List.append_nil] at h1; exact h1)
        simp only [Option.getD_none, Option.isSome_none, Pl.agg, Pl.zero]
        go_wp2_with fail
        (try rw [Exit.noGoto_normal])
        go_end0
        exact ⟨rfl, M5.out.fin HG2.out⟩
      | some p =>
        obtain ⟨psl, ppl⟩ := HF0.out i p HP.out
        simp only [Option.getD_some, Option.isSome_some, Pl.agg]
        obtain ⟨ps, hps⟩ : ∃ x, x = S p.sum := ⟨_, rfl⟩
        obtain ⟨pp, hpp⟩ : ∃ x, x = S p.part := ⟨_, rfl⟩
        rw [← hps, ← hpp]
        have hba := (Below.refl w4.heap.size w4).alloc (Nat.le_refl _) (.cells #[.int .u64 (p.turn : Int), .bool p.more, .string ps, .string pp] 139)
        have M5 := hidm (M4.out.later hba)
        have HPR := hidm (placeRow.new w4 (p.turn : Int) p.more ps pp)
        have a0 := M5.out.row.c0
        have a1 := M5.out.row.c1
        have a2 := M5.out.row.c2
        have s0 := M5.out.slot.c0
        obtain ⟨asu, has⟩ : ∃ x, x = S a.sum := ⟨_, rfl⟩
        rw [← has] at a2
        have hse : ps.toList = asu.toList ↔ p.sum = a.sum := by
          rw [hps, has, ByteArray.toList_eq, ByteArray.toList_eq]
        have HPS := hidm hps
        have HPP := hidm hpp
        have HPSL := hidm psl
        have hpps : pp.size ≤ 100 := by rw [hpp, S_size]; exact ppl
        have hpss : ps.size = 4 := by rw [hps, S_size]; exact psl
        have HPSS := hidm hpss
        have HAL := hidm (lt_of_block M4.out.row)
        have HPP2 := hidm (show pp.size = p.part.length from by rw [hpp, S_size])
        have HPP3 := hidm (show pp.data.toList = p.part from by rw [hpp])
        have HPS3 := hidm (show ps.data.toList = p.sum from by rw [hps])
        have hacc : acc.length ≤ 100000 := by have h1 := HAC.out; have h2 := HNL.out; omega
        clear hba hps hpp has psl ppl M4 hpss
        by_cases hb1 : p.turn < a.turn
        · have f1 : (p.turn : Int) < (a.turn : Int) := by omega
          have HG2 := hidm (show G = dn from by have h1 := HGO.out; rw [go_bad HP.out ((bad_is _ _ _).2 (.inl hb1)), List.append_nil] at h1; exact h1)
          go_wp2_with fail
          (try rw [Exit.noGoto_normal])
          go_end0
          exact ⟨rfl, M5.out.fin HG2.out⟩
        · have f1 : ¬ (p.turn : Int) < (a.turn : Int) := by omega
          by_cases hb2 : t < p.turn
          · have f2 : (t : Int) < (p.turn : Int) := by omega
            have HG2 := hidm (show G = dn from by have h1 := HGO.out; rw [go_bad HP.out ((bad_is _ _ _).2 (.inr (.inl hb2))), List.append_nil] at h1; exact h1)
            go_wp2_with fail
            (try rw [Exit.noGoto_normal])
            go_end0
            exact ⟨rfl, M5.out.fin HG2.out⟩
          · have f2 : ¬ (t : Int) < (p.turn : Int) := by omega
            by_cases hb3 : a.more = true ∧ (p.turn ≠ a.turn ∨ p.sum ≠ a.sum)
            · have HG2 := hidm (show G = dn from by have h1 := HGO.out; rw [go_bad HP.out ((bad_is _ _ _).2 (.inr (.inr hb3))), List.append_nil] at h1; exact h1)
              rw [hb3.1] at a1
              by_cases hb4 : p.turn = a.turn
              · have hb5 : p.sum ≠ a.sum := hb3.2.resolve_left (fun h => h hb4)
                have f4 : (ps.toList == asu.toList) = false := beq_eq_false_iff_ne.2 (fun h => hb5 (hse.1 h))
                have f3 : ((p.turn : Int) != (a.turn : Int)) = false := by rw [hb4]; simp
                clear hse hb3 hb5 hb4 HPR
                go_wp2_with fail
                (try rw [Exit.noGoto_normal])
                go_end0
                exact ⟨rfl, M5.out.fin HG2.out⟩
              · have f3 : ¬ (p.turn : Int) = (a.turn : Int) := fun h => hb4 (by omega)
                have f4 : ((p.turn : Int) != (a.turn : Int)) = true := by simpa using f3
                clear hse hb3
                go_wp2_with fail
                (try rw [Exit.noGoto_normal])
                go_end0
                exact ⟨rfl, M5.out.fin HG2.out⟩
            · have hbad : bad a p t = false := by
                cases hbb : bad a p t with
                | false => rfl
                | true => exact absurd ((bad_is _ _ _).1 hbb) (fun h => h.elim hb1 (fun h => h.elim hb2 hb3))
              rcases (show a.more = true ∨ a.more = false from by cases a.more <;> simp) with ham | ham
              · have hb4 : p.turn = a.turn ∧ p.sum = a.sum := by
                  constructor
                  · exact Classical.byContradiction (fun h => hb3 ⟨ham, .inl h⟩)
                  · exact Classical.byContradiction (fun h => hb3 ⟨ham, .inr h⟩)
                have f3 : ((p.turn : Int) != (a.turn : Int)) = false := by rw [hb4.1]; simp
                have f4 : (ps.toList == asu.toList) = true := beq_iff_eq.2 (hse.2 hb4.2)
                rw [ham] at a1
                clear hse hb3 hb4 ham
                have HBAD := hidm hbad
                clear hbad
                go_upto_region 11 with fail
                clear a0 a1 a2 s0
                obtain ⟨PB, hPB⟩ : ∃ PB, PB = w4.heap.size := ⟨_, rfl⟩
                obtain ⟨w5, hw5⟩ : ∃ w5, w5 = w4.alloc (.cells #[.int .u64 (p.turn : Int), .bool p.more, .string ps, .string pp] 139) := ⟨_, rfl⟩
                have HNE := hidm (show PB ≠ A from by have := HAL.out; omega)
                rw [← hw5] at M5 HPR ⊢
                rw [← hPB] at HPR ⊢
                obtain ⟨R5, hR5⟩ : ∃ R' : Nat → Prop, Hid (Mem W Q L D (g.has dn) d w B A t b a u5 acc R' w5) := ⟨_, M5⟩
                clear M5 hw5 hPB
                have q0 := HPR.out.c0
                have q1 := HPR.out.c1
                have q2 := HPR.out.c2
                have q3 := HPR.out.c3
                have y0 := hR5.out.row.c0
                have y1 := hR5.out.row.c1
                have y2 := hR5.out.row.c2
                have y3 := hR5.out.row.c3
                have zA := hR5.out.row.z
                go_upto_region 12 with fail
                clear q0 q1 q2 q3 y0 y1 y2 y3 zA
                obtain ⟨w6, hw6⟩ : ∃ w6, w6 = set4 w5 A (p.turn : Int) p.more ps pp := ⟨_, rfl⟩
                have M6 := hidm (show Mem W Q L D (g.has dn) d w B A t b p u5 acc R5 w6 from by rw [hw6, HPS.out, HPP.out]; exact hR5.out.setA p)
                have HPR6 := hidm (show placeRow PB (p.turn : Int) p.more ps pp w6 from by
                  rw [hw6]
                  refine HPR.out.keep ?_
                  unfold set4
                  rw [heap_setCell_other _ _ _ _ HNE.out, heap_setCell_other _ _ _ _ HNE.out, heap_setCell_other _ _ _ _ HNE.out, heap_setCell_other _ _ _ _ HNE.out])
                have hw6' : w6 = (((w5.setCell ⟨A, 0, none⟩ (.int .u64 (p.turn : Int))).setCell ⟨A, 1, none⟩ (.bool p.more)).setCell ⟨A, 2, none⟩ (.string ps)).setCell ⟨A, 3, none⟩ (.string pp) := hw6
                rw [← hw6']
                clear hw6 hw6' hR5 HPR
                have q3 := HPR6.out.c3
                go_wp2_with (at_builtin; refine Lib.wpList_append_own_string _ rfl _ _ 62 9 rfl w.heap.size 5 i0 Tryz.underlying62 Tryz.underlying9 hi hz0 hz1 hz2 _ acc.length (Lib.byteCells acc) rfl M6.out.own pp rfl (small1 hacc hpps) (small2 hacc hpps) M6.out.size ?_)
                intro v7 w7 hown hgrow hnil
                have M7 := hidm (M6.out.grown (acc' := acc ++ p.part) hgrow (by
                  have h1 := hown
                  rw [HPP2.out, Lib.strCells_eq, HPP3.out, ← Lib.byteCells_append] at h1
                  rw [List.length_append]
                  exact h1))
                have HPR7 := hidm (HPR6.out.keep (hgrow.block PB (lt_of_block HPR6.out) (own_ne M6.out.own HPR6.out)))
                clear hown hgrow hnil q3 M6 HPR6
                obtain ⟨acc2, hacc2⟩ : ∃ x, x = acc ++ p.part := ⟨_, rfl⟩
                rw [← hacc2] at M7
                have hacc3 : acc2.length ≤ 100100 := by rw [hacc2, List.length_append, ← HPP2.out]; exact Nat.add_le_add hacc hpps
                have HAC2 := hidm hacc2
                have HAL2 := hidm (show acc2.length ≤ 100 * (i + 1) from by rw [hacc2, List.length_append, ← HPP2.out]; exact Nat.add_le_add HAC.out hpps)
                clear hacc2
                have q1 := HPR7.out.c1
                have q2 := HPR7.out.c2
                rcases (show p.more = true ∨ p.more = false from by cases p.more <;> simp) with hmo | hmo
                · have HG7 := hidm (show G = dn ++ go (plF g.F d.f) t (n - (i + 1)) (i + 1) p acc2 from by
                    have h1 := HGO.out
                    rw [HMM.out, go_more HP.out HBAD.out hmo, ← HAC2.out] at h1
                    rw [HMM2.out]; exact h1)
                  rw [hmo] at q1
                  clear hmo
                  have hi1 : (i : Int) + 1 = ((i + 1 : Nat) : Int) := by omega
                  obtain ⟨i1, hi1e⟩ : ∃ k, k = i + 1 := ⟨_, rfl⟩
                  rw [← hi1e] at hi1 HG7 HAL2
                  have hi1w : IntKind.i64.wrap (i1 : Int) = (i1 : Int) := by have h2 := HNL.out; have h3 := HLT.out; simp only [IntKind.wrap_i64]; omega
                  have HI1 := hidm hi1e
                  clear hi1e
                  go_wp2_with fail
                  go_roundw
                  case rel => exact ⟨i1, p, acc2, dn, _, rfl, by rw [HI1.out]; exact HLT.out, HAL2, hidm ⟨by rw [HI1.out]; exact Nat.le_succ_of_le HDN.out.1, HDN.out.2⟩, HG7, M7⟩
                  case measure => have h9 := HLT.out; have h8 := HI1.out; simp [intOf]; omega
                · rw [hmo] at q1
                  have hconv := str_own M7.out.own
                  obtain ⟨sa, hsa⟩ : ∃ x, x = S acc2 := ⟨_, rfl⟩
                  rw [← hsa] at hconv
                  have hsas : sa.size = acc2.length := by rw [hsa, S_size]
                  have hlim : ¬ 9223372036854775807 < sa.size + ps.size := by rw [hsas]; exact small3 hacc3 HPSS.out
                  obtain ⟨y, hy⟩ : ∃ y, y = sa ++ ps := ⟨_, rfl⟩
                  have HYE := hidm hy.symm
                  have hyl : y.data.toList = acc2 ++ p.sum := by rw [hy, ByteArray.data_append, Array.toList_append, HPS3.out, hsa]
                  have HYS := hidm (show y.size ≤ 1099511627776 from by rw [← len_eq, hyl, List.length_append, HPSL.out]; omega)
                  have HTK := hidm (HTT.out y HYS.out)
                  rw [hyl] at HTK
                  have HSA := hidm hsa
                  have HMO := hidm hmo
                  rcases (show good (acc2 ++ p.sum) = true ∨ good (acc2 ++ p.sum) = false from by cases good (acc2 ++ p.sum) <;> simp) with hgd | hgd
                  · have HG7 := hidm (show G = (dn ++ [(acc2, i + 1)]) ++ go (plF g.F d.f) t (n - (i + 1)) (i + 1) p [] from by
                      have h1 := HGO.out
                      rw [HMM.out, go_last HP.out HBAD.out hmo (by rw [← HAC2.out]; exact hgd), ← HAC2.out] at h1
                      rw [HMM2.out, List.append_assoc]; exact h1)
                    rw [good_took HPSL.out hgd, hgd, ← hsa] at HTK
                    clear hgd hmo hsa hyl hy hsas
                    go_wp2_with fail
                    rw [HYE.out]
                    refine (HTK.out w7).mono ?_
                    rintro e w8 ⟨rfl, hb8⟩
                    obtain ⟨R8, M8⟩ : ∃ R' : Nat → Prop, Hid (Mem W Q L D (g.has dn) d w B A t b p v7 acc2 R' w8) := ⟨_, hidm (M7.out.later hb8)⟩
                    clear hb8 M7 HPR7 q1 q2 hconv HTK
                    have hba := (Below.refl w8.heap.size w8).alloc (Nat.le_refl _) (.cells #[.string sa] 9)
                    obtain ⟨R9, M9⟩ : ∃ R' : Nat → Prop, Hid (Mem W Q L D (g.has dn) d w B A t b p v7 acc2 R' (w8.alloc (.cells #[.string sa] 9))) := ⟨_, hidm (M8.out.later hba)⟩
                    obtain ⟨U, sl, hm, hlg, huu⟩ := M9.out.pair.ex
                    have c5 : w8.cell? ⟨L, 5, none⟩ = some sl := by
                      obtain ⟨sl2, h2⟩ := M8.out.pair.cell5
                      have h3 := cell_later hba h2
                      have h4 : _ = some sl := hlg.cellAt 5
                      rw [h3] at h4
                      rw [h2]; exact h4
                    have HOW := hidm hlg.own
                    have HRL := hidm (show (g.has dn).recs.length = dn.length from by show (dn.map Prod.fst).length = _; simp)
                    obtain ⟨rl, hrl⟩ : ∃ rl, rl = (g.has dn).recs.length := ⟨_, rfl⟩
                    have hrl2 : rl ≤ 1000 := by rw [hrl, HRL.out]; have h1 := HDN.out; have h2 := HNL.out; omega
                    rw [← hrl] at HOW
                    have HOK2 := hidm (has_ok (x := acc2) HOKF.out HN.out hlt HDN.out)
                    have HAP := hidm (show ∀ w9 b' cap, w9.ownsRow 0 9 1 (.slice (some ⟨b', 0, none⟩) (rl + 1) cap) (rl + 1) (strs (g.has dn).recs ++ [.string sa]) → (w8.alloc (.cells #[.string sa] 9)).grownBy w9 sl.ownBlock → (sl.ownBlock = some b' ∨ b' = w8.heap.size + 1) → b' < w9.heap.size → _ from fun w9 b' cap h1 h2 h3 h4 => by
                      rw [hrl] at h1
                      exact pushed (Q := fun k => Q k ∨ R9 k) (s := acc2) hm hlg huu (by rw [← HSA.out]; exact h1) h2 (h3.imp id (fun e => by rw [e]; simp)) h4 HOK2.out.1)
                    have HRLE := hidm hrl
                    clear hm hlg huu hba hrl
                    go_wp2_with (at_builtin; refine wpList_append_lies _ rfl _ _ 28 rfl 0 9 j0 (.string ⟨#[]⟩) 1 16 Tryz.underlying28 hj hy0 hy1 hy2 rfl (by decide) _ rl (strs (g.has dn).recs) rfl HOW.out ⟨w8.heap.size, 0, none⟩ 1 1 [.string sa] rfl rfl ?CA ?CB (by decide) ?CC ?CD ?CE _ rfl ?_)
                    case CA => exact World.news_of_block (heap_alloc_last _ _)
                    case CB => intro u hu; simp at hu; rcases hu with rfl; rfl
                    case CC => unfold maxLen; omega
                    case CD => omega
                    case CE => omega
                    intro b' cap w9 hown hgrow hg hlt9
                    have hAP := HAP.out w9 b' cap hown hgrow hg hlt9
                    have h59 := hAP.1
                    have z59 := hAP.2.1
                    have HAN := hidm hAP.2.2
                    rw [← HRLE.out] at HAN
                    clear hAP hown hgrow hg hlt9 c5
                    go_upto_region 17 with fail
                    obtain ⟨w10, hw10⟩ : ∃ w10, w10 = w9.setCell ⟨L, 5, none⟩ (.slice (some ⟨b', 0, none⟩) (rl + 1) cap) := ⟨_, rfl⟩
                    rw [← hw10] at HAN ⊢
                    clear hw10 h59 z59
                    have c6 := HAN.out.1.cells.2.2.2.2.2.1
                    have z6 := HAN.out.1.z 6
                    have HPU := hidm (HAN.out.1.put 6 (.int .i64 ((i + 1 : Nat) : Int)) { g.has dn with recs := (g.has dn).recs ++ [acc2], used := i + 1 } (fun _ => rfl) rfl HOK2.out.2)
                    have M11 := hidm (((M9.out.log HPU.out.1 (HAN.out.2.trans HPU.out.2))).none)
                    rw [← has_snoc] at M11
                    have hi1 : (i : Int) + 1 = ((i + 1 : Nat) : Int) := by omega
                    obtain ⟨i1, hi1e⟩ : ∃ k, k = i + 1 := ⟨_, rfl⟩
                    rw [← hi1e] at hi1 M11 HG7
                    have hi1w : IntKind.i64.wrap (i1 : Int) = (i1 : Int) := by have h2 := HNL.out; simp only [IntKind.wrap_i64]; omega
                    have HI1 := hidm hi1e
                    clear hi1e HPU
                    go_wp2_with fail
                    go_roundw
                    case rel => exact ⟨i1, p, [], dn ++ [(acc2, i1)], _, rfl, by have := HI1.out; omega, hidm (Nat.zero_le _), hidm ⟨by rw [lst_snoc, HI1.out]; exact Nat.le_refl _, by rw [lst_snoc, List.length_append, HI1.out]; have := HDN.out; simp; omega⟩, by rw [HI1.out]; rw [HI1.out] at HG7; exact HG7, M11⟩
                    case measure => have := HI1.out; simp [intOf]; omega
                  · have HG2 := hidm (show G = dn from by have h1 := HGO.out; rw [go_spoilt HP.out HBAD.out hmo (by rw [← HAC2.out]; exact hgd), List.append_nil] at h1; exact h1)
                    rw [hgd] at HTK
                    obtain ⟨tk, htk⟩ : ∃ x, x = S (took (acc2 ++ p.sum)) := ⟨_, rfl⟩
                    rw [← htk] at HTK
                    clear hgd hmo hsa hyl hy hsas htk
                    go_wp2_with fail
                    rw [HYE.out]
                    refine (HTK.out w7).mono ?_
                    rintro e w8 ⟨rfl, hb8⟩
                    have M8 := hidm (M7.out.later hb8)
                    clear hb8 hconv
                    go_wp2_with fail
                    (try rw [Exit.noGoto_normal])
                    go_end0
                    exact ⟨rfl, M8.out.fin HG2.out⟩
              · rw [ham] at a1
                clear hse hb3 ham
                have HBAD := hidm hbad
                clear hbad
                go_upto_region 11 with fail
                clear a0 a1 a2 s0
                obtain ⟨PB, hPB⟩ : ∃ PB, PB = w4.heap.size := ⟨_, rfl⟩
                obtain ⟨w5, hw5⟩ : ∃ w5, w5 = w4.alloc (.cells #[.int .u64 (p.turn : Int), .bool p.more, .string ps, .string pp] 139) := ⟨_, rfl⟩
                have HNE := hidm (show PB ≠ A from by have := HAL.out; omega)
                rw [← hw5] at M5 HPR ⊢
                rw [← hPB] at HPR ⊢
                obtain ⟨R5, hR5⟩ : ∃ R' : Nat → Prop, Hid (Mem W Q L D (g.has dn) d w B A t b a u5 acc R' w5) := ⟨_, M5⟩
                clear M5 hw5 hPB
                have q0 := HPR.out.c0
                have q1 := HPR.out.c1
                have q2 := HPR.out.c2
                have q3 := HPR.out.c3
                have y0 := hR5.out.row.c0
                have y1 := hR5.out.row.c1
                have y2 := hR5.out.row.c2
                have y3 := hR5.out.row.c3
                have zA := hR5.out.row.z
                go_upto_region 12 with fail
                clear q0 q1 q2 q3 y0 y1 y2 y3 zA
                obtain ⟨w6, hw6⟩ : ∃ w6, w6 = set4 w5 A (p.turn : Int) p.more ps pp := ⟨_, rfl⟩
                have M6 := hidm (show Mem W Q L D (g.has dn) d w B A t b p u5 acc R5 w6 from by rw [hw6, HPS.out, HPP.out]; exact hR5.out.setA p)
                have HPR6 := hidm (show placeRow PB (p.turn : Int) p.more ps pp w6 from by
                  rw [hw6]
                  refine HPR.out.keep ?_
                  unfold set4
                  rw [heap_setCell_other _ _ _ _ HNE.out, heap_setCell_other _ _ _ _ HNE.out, heap_setCell_other _ _ _ _ HNE.out, heap_setCell_other _ _ _ _ HNE.out])
                have hw6' : w6 = (((w5.setCell ⟨A, 0, none⟩ (.int .u64 (p.turn : Int))).setCell ⟨A, 1, none⟩ (.bool p.more)).setCell ⟨A, 2, none⟩ (.string ps)).setCell ⟨A, 3, none⟩ (.string pp) := hw6
                rw [← hw6']
                clear hw6 hw6' hR5 HPR
                have q3 := HPR6.out.c3
                go_wp2_with (at_builtin; refine Lib.wpList_append_own_string _ rfl _ _ 62 9 rfl w.heap.size 5 i0 Tryz.underlying62 Tryz.underlying9 hi hz0 hz1 hz2 _ acc.length (Lib.byteCells acc) rfl M6.out.own pp rfl (small1 hacc hpps) (small2 hacc hpps) M6.out.size ?_)
                intro v7 w7 hown hgrow hnil
                have M7 := hidm (M6.out.grown (acc' := acc ++ p.part) hgrow (by
                  have h1 := hown
                  rw [HPP2.out, Lib.strCells_eq, HPP3.out, ← Lib.byteCells_append] at h1
                  rw [List.length_append]
                  exact h1))
                have HPR7 := hidm (HPR6.out.keep (hgrow.block PB (lt_of_block HPR6.out) (own_ne M6.out.own HPR6.out)))
                clear hown hgrow hnil q3 M6 HPR6
                obtain ⟨acc2, hacc2⟩ : ∃ x, x = acc ++ p.part := ⟨_, rfl⟩
                rw [← hacc2] at M7
                have hacc3 : acc2.length ≤ 100100 := by rw [hacc2, List.length_append, ← HPP2.out]; exact Nat.add_le_add hacc hpps
                have HAC2 := hidm hacc2
                have HAL2 := hidm (show acc2.length ≤ 100 * (i + 1) from by rw [hacc2, List.length_append, ← HPP2.out]; exact Nat.add_le_add HAC.out hpps)
                clear hacc2
                have q1 := HPR7.out.c1
                have q2 := HPR7.out.c2
                rcases (show p.more = true ∨ p.more = false from by cases p.more <;> simp) with hmo | hmo
                · have HG7 := hidm (show G = dn ++ go (plF g.F d.f) t (n - (i + 1)) (i + 1) p acc2 from by
                    have h1 := HGO.out
                    rw [HMM.out, go_more HP.out HBAD.out hmo, ← HAC2.out] at h1
                    rw [HMM2.out]; exact h1)
                  rw [hmo] at q1
                  clear hmo
                  have hi1 : (i : Int) + 1 = ((i + 1 : Nat) : Int) := by omega
                  obtain ⟨i1, hi1e⟩ : ∃ k, k = i + 1 := ⟨_, rfl⟩
                  rw [← hi1e] at hi1 HG7 HAL2
                  have hi1w : IntKind.i64.wrap (i1 : Int) = (i1 : Int) := by have h2 := HNL.out; have h3 := HLT.out; simp only [IntKind.wrap_i64]; omega
                  have HI1 := hidm hi1e
                  clear hi1e
                  go_wp2_with fail
                  go_roundw
                  case rel => exact ⟨i1, p, acc2, dn, _, rfl, by rw [HI1.out]; exact HLT.out, HAL2, hidm ⟨by rw [HI1.out]; exact Nat.le_succ_of_le HDN.out.1, HDN.out.2⟩, HG7, M7⟩
                  case measure => have h9 := HLT.out; have h8 := HI1.out; simp [intOf]; omega
                · rw [hmo] at q1
                  have hconv := str_own M7.out.own
                  obtain ⟨sa, hsa⟩ : ∃ x, x = S acc2 := ⟨_, rfl⟩
                  rw [← hsa] at hconv
                  have hsas : sa.size = acc2.length := by rw [hsa, S_size]
                  have hlim : ¬ 9223372036854775807 < sa.size + ps.size := by rw [hsas]; exact small3 hacc3 HPSS.out
                  obtain ⟨y, hy⟩ : ∃ y, y = sa ++ ps := ⟨_, rfl⟩
                  have HYE := hidm hy.symm
                  have hyl : y.data.toList = acc2 ++ p.sum := by rw [hy, ByteArray.data_append, Array.toList_append, HPS3.out, hsa]
                  have HYS := hidm (show y.size ≤ 1099511627776 from by rw [← len_eq, hyl, List.length_append, HPSL.out]; omega)
                  have HTK := hidm (HTT.out y HYS.out)
                  rw [hyl] at HTK
                  have HSA := hidm hsa
                  have HMO := hidm hmo
                  rcases (show good (acc2 ++ p.sum) = true ∨ good (acc2 ++ p.sum) = false from by cases good (acc2 ++ p.sum) <;> simp) with hgd | hgd
                  · have HG7 := hidm (show G = (dn ++ [(acc2, i + 1)]) ++ go (plF g.F d.f) t (n - (i + 1)) (i + 1) p [] from by
                      have h1 := HGO.out
                      rw [HMM.out, go_last HP.out HBAD.out hmo (by rw [← HAC2.out]; exact hgd), ← HAC2.out] at h1
                      rw [HMM2.out, List.append_assoc]; exact h1)
                    rw [good_took HPSL.out hgd, hgd, ← hsa] at HTK
                    clear hgd hmo hsa hyl hy hsas
                    go_wp2_with fail
                    rw [HYE.out]
                    refine (HTK.out w7).mono ?_
                    rintro e w8 ⟨rfl, hb8⟩
                    obtain ⟨R8, M8⟩ : ∃ R' : Nat → Prop, Hid (Mem W Q L D (g.has dn) d w B A t b p v7 acc2 R' w8) := ⟨_, hidm (M7.out.later hb8)⟩
                    clear hb8 M7 HPR7 q1 q2 hconv HTK
                    have hba := (Below.refl w8.heap.size w8).alloc (Nat.le_refl _) (.cells #[.string sa] 9)
                    obtain ⟨R9, M9⟩ : ∃ R' : Nat → Prop, Hid (Mem W Q L D (g.has dn) d w B A t b p v7 acc2 R' (w8.alloc (.cells #[.string sa] 9))) := ⟨_, hidm (M8.out.later hba)⟩
                    obtain ⟨U, sl, hm, hlg, huu⟩ := M9.out.pair.ex
                    have c5 : w8.cell? ⟨L, 5, none⟩ = some sl := by
                      obtain ⟨sl2, h2⟩ := M8.out.pair.cell5
                      have h3 := cell_later hba h2
                      have h4 : _ = some sl := hlg.cellAt 5
                      rw [h3] at h4
                      rw [h2]; exact h4
                    have HOW := hidm hlg.own
                    have HRL := hidm (show (g.has dn).recs.length = dn.length from by show (dn.map Prod.fst).length = _; simp)
                    obtain ⟨rl, hrl⟩ : ∃ rl, rl = (g.has dn).recs.length := ⟨_, rfl⟩
                    have hrl2 : rl ≤ 1000 := by rw [hrl, HRL.out]; have h1 := HDN.out; have h2 := HNL.out; omega
                    rw [← hrl] at HOW
                    have HOK2 := hidm (has_ok (x := acc2) HOKF.out HN.out hlt HDN.out)
                    have HAP := hidm (show ∀ w9 b' cap, w9.ownsRow 0 9 1 (.slice (some ⟨b', 0, none⟩) (rl + 1) cap) (rl + 1) (strs (g.has dn).recs ++ [.string sa]) → (w8.alloc (.cells #[.string sa] 9)).grownBy w9 sl.ownBlock → (sl.ownBlock = some b' ∨ b' = w8.heap.size + 1) → b' < w9.heap.size → _ from fun w9 b' cap h1 h2 h3 h4 => by
                      rw [hrl] at h1
                      exact pushed (Q := fun k => Q k ∨ R9 k) (s := acc2) hm hlg huu (by rw [← HSA.out]; exact h1) h2 (h3.imp id (fun e => by rw [e]; simp)) h4 HOK2.out.1)
                    have HRLE := hidm hrl
                    clear hm hlg huu hba hrl
                    go_wp2_with (at_builtin; refine wpList_append_lies _ rfl _ _ 28 rfl 0 9 j0 (.string ⟨#[]⟩) 1 16 Tryz.underlying28 hj hy0 hy1 hy2 rfl (by decide) _ rl (strs (g.has dn).recs) rfl HOW.out ⟨w8.heap.size, 0, none⟩ 1 1 [.string sa] rfl rfl ?CA ?CB (by decide) ?CC ?CD ?CE _ rfl ?_)
                    case CA => exact World.news_of_block (heap_alloc_last _ _)
                    case CB => intro u hu; simp at hu; rcases hu with rfl; rfl
                    case CC => unfold maxLen; omega
                    case CD => omega
                    case CE => omega
                    intro b' cap w9 hown hgrow hg hlt9
                    have hAP := HAP.out w9 b' cap hown hgrow hg hlt9
                    have h59 := hAP.1
                    have z59 := hAP.2.1
                    have HAN := hidm hAP.2.2
                    rw [← HRLE.out] at HAN
                    clear hAP hown hgrow hg hlt9 c5
                    go_upto_region 17 with fail
                    obtain ⟨w10, hw10⟩ : ∃ w10, w10 = w9.setCell ⟨L, 5, none⟩ (.slice (some ⟨b', 0, none⟩) (rl + 1) cap) := ⟨_, rfl⟩
                    rw [← hw10] at HAN ⊢
                    clear hw10 h59 z59
                    have c6 := HAN.out.1.cells.2.2.2.2.2.1
                    have z6 := HAN.out.1.z 6
                    have HPU := hidm (HAN.out.1.put 6 (.int .i64 ((i + 1 : Nat) : Int)) { g.has dn with recs := (g.has dn).recs ++ [acc2], used := i + 1 } (fun _ => rfl) rfl HOK2.out.2)
                    have M11 := hidm (((M9.out.log HPU.out.1 (HAN.out.2.trans HPU.out.2))).none)
                    rw [← has_snoc] at M11
                    have hi1 : (i : Int) + 1 = ((i + 1 : Nat) : Int) := by omega
                    obtain ⟨i1, hi1e⟩ : ∃ k, k = i + 1 := ⟨_, rfl⟩
                    rw [← hi1e] at hi1 M11 HG7
                    have hi1w : IntKind.i64.wrap (i1 : Int) = (i1 : Int) := by have h2 := HNL.out; simp only [IntKind.wrap_i64]; omega
                    have HI1 := hidm hi1e
                    clear hi1e HPU
                    go_wp2_with fail
                    go_roundw
                    case rel => exact ⟨i1, p, [], dn ++ [(acc2, i1)], _, rfl, by have := HI1.out; omega, hidm (Nat.zero_le _), hidm ⟨by rw [lst_snoc, HI1.out]; exact Nat.le_refl _, by rw [lst_snoc, List.length_append, HI1.out]; have := HDN.out; simp; omega⟩, by rw [HI1.out]; rw [HI1.out] at HG7; exact HG7, M11⟩
                    case measure => have := HI1.out; simp [intOf]; omega
                  · have HG2 := hidm (show G = dn from by have h1 := HGO.out; rw [go_spoilt HP.out HBAD.out hmo (by rw [← HAC2.out]; exact hgd), List.append_nil] at h1; exact h1)
                    rw [hgd] at HTK
                    obtain ⟨tk, htk⟩ : ∃ x, x = S (took (acc2 ++ p.sum)) := ⟨_, rfl⟩
                    rw [← htk] at HTK
                    clear hgd hmo hsa hyl hy hsas htk
                    go_wp2_with fail
                    rw [HYE.out]
                    refine (HTK.out w7).mono ?_
                    rintro e w8 ⟨rfl, hb8⟩
                    have M8 := hidm (M7.out.later hb8)
                    clear hb8 hconv
                    go_wp2_with fail
                    (try rw [Exit.noGoto_normal])
                    go_end0
                    exact ⟨rfl, M8.out.fin HG2.out⟩
    · obtain rfl : i = n := by omega
      have g1 : ¬ (i : Int) < (i : Int) := by omega
      have HG2 := hidm (show G = dn from by have h1 := HGO.out; rw [Nat.sub_self] at h1; exact h1.trans (List.append_nil _))
      go_wp2_with fail
      go_end0
      exact ⟨rfl, HM.out.fin HG2.out⟩
end
end Wal
end Go.Proofs.YtmccnlffikegfaaGreatDoor
