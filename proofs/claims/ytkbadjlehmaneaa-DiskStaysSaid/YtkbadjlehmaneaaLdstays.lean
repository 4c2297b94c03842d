/- DiskStays is proved: for every script, truths and number the law returns true and its arguments read as they did. No other condition. -/
import Derived.Test.YtkbadjlehmaneaaDq
import Derived.Test.YtkbadjlehmaneaaFra
import Derived.WideKeyPair
import Derived.SizedLaws
namespace Go.Proofs.Ytkbadjlehmaneaa
open Go.ChangeShapes Go.WideShapes Go.ChangeAt Go.RowKit
open Go.ChangeMaps (open_string shut_string)
namespace LaDiskStays
open Dsk
theorem wstep_is (d : PD) (k : Int) (s : ByteArray) : (d.wstep k s).n = d.n ∧ (d.wstep k s).fu = d.fu ∧ (d.wstep k s).cs.length ≤ d.cs.length + 1 ∧ (d.wstep k s).wr ≤ d.wr + 1 ∧ (d.wstep k s).fl = d.fl := by
  unfold PD.wstep
  split
  · refine ⟨rfl, rfl, ?_, Nat.le_refl _, rfl⟩
    simp [PD.burn, PD.write]
  · exact ⟨rfl, rfl, Nat.le_succ _, Nat.le_succ _, rfl⟩
theorem fstep_is (d : PD) : d.fstep.n = d.n ∧ d.fstep.fu = d.fu ∧ d.fstep.cs.length ≤ d.cs.length ∧ d.fstep.wr = d.wr ∧ d.fstep.fl ≤ d.fl + 1 := by
  unfold PD.fstep
  split
  · exact ⟨rfl, rfl, Nat.le_refl _, rfl, Nat.le_succ _⟩
  · exact ⟨rfl, rfl, Nat.zero_le _, rfl, Nat.le_refl _⟩
/-- What a script leaves of a disk of eight sectors without a fuse. -/
def Small (i : Nat) (d : PD) : Prop := d.n = 8 ∧ d.fu = false ∧ d.cs.length ≤ i ∧ d.wr ≤ i ∧ d.fl ≤ i
theorem Small.write {i : Nat} {d : PD} (h : Small i d) (k : Int) (s : ByteArray) : Small (i + 1) (d.wstep k s) := by
  obtain ⟨h1, h2, h3, h4, h5⟩ := h
  obtain ⟨g1, g2, g3, g4, g5⟩ := wstep_is d k s
  exact ⟨g1.trans h1, g2.trans h2, by omega, by omega, by omega⟩
theorem Small.flush {i : Nat} {d : PD} (h : Small i d) : Small (i + 1) d.fstep := by
  obtain ⟨h1, h2, h3, h4, h5⟩ := h
  obtain ⟨g1, g2, g3, g4, g5⟩ := fstep_is d
  exact ⟨g1.trans h1, g2.trans h2, by omega, by omega, by omega⟩
theorem Small.more {i j : Nat} {d : PD} (h : Small i d) (hj : i ≤ j) : Small j d := by
  obtain ⟨h1, h2, h3, h4, h5⟩ := h
  exact ⟨h1, h2, by omega, by omega, by omega⟩
theorem tmod8 (a : Nat) : ((a : Int).tmod 8) = ((a % 8 : Nat) : Int) := by
  rw [Int.tmod_eq_emod_of_nonneg (by omega)]; omega
set_option maxHeartbeats 8000000 in
set_option maxRecDepth 100000 in
theorem main_any (l : List Opv) (lo : Option Addr) (n lc : Nat) (ks : List Bool) (kso : Option Addr) (kn ksc : Nat) (a : Nat) (w : World) (hn : n = l.length) (hnb : n ≤ 9223372036854775807) (hkn : kn = ks.length) (ha : a < 256) (hin : OpsAt l (.slice lo n lc) w) (hks : BoolsAt ks kso ksc w) :
    Calls Try.prog 4 #[.slice lo n lc, .slice kso kn ksc, .int .u8 a] w fun e w' => e = .returned (.bool true) ∧ Below w.heap.size w w' := by
  have HL := hidm hin
  have HN := hidm hn
  have HKS := hidm hks
  have HKN := hidm hkn
  have hkc : kn ≤ ksc := by have := hks.1; omega
  have hkm : ksc ≤ 9223372036854775807 := hks.2.1
  obtain ⟨m, hm⟩ : ∃ m, m = a % 8 := ⟨_, rfl⟩
  have hm8 : m < 8 := by omega
  have f2 : ((a : Int).tmod 8) = (m : Int) := by rw [tmod8 a, hm]
  have HF2 := hidm f2
  clear hm hin hn hks hkn f2
  go_enter Try.func4, Try.ntmps4
  go_wp2_with fail
  refine (m_new (W := w) 8 (by decide) (by decide) (Below.refl _ _)).mono ?_
  rintro e w1 ⟨rfl, hm, hb⟩
  have H0 := hidm hm
  clear hm hb
  obtain ⟨D, hD⟩ : ∃ D, D = w.heap.size + 1 := ⟨_, rfl⟩
  rw [← hD] at H0 ⊢
  clear hD
  have f2 := HF2.out
  go_wp2_with fail
  clear f2
  refine (rpad_any ⟨#[]⟩ (by decide) _).mono ?_
  rintro e w2 ⟨rfl, hb⟩
  rw [show pad (⟨#[]⟩ : ByteArray).data.toList = zeros from rfl]
  have hb3 : Below w1.heap.size w1 (w2.alloc (.cells #[.string (S zeros)] 9)) := hb.trans (((Below.refl _ _).alloc (Nat.le_refl _) _).mono hb.size)
  have H3 := hidm (H0.out.guard hb3)
  have P3 := hidm (Part.new w2 zeros)
  have HSZ2 := hidm (show w1.heap.size ≤ w2.heap.size from hb.size)
  have HSZ1 := hidm (show w.heap.size ≤ w1.heap.size from H0.out.bel.size)
  clear hb hb3
  obtain ⟨zz, hzz⟩ : ∃ zz, zz = zeros := ⟨_, rfl⟩
  have HZZ := hidm hzz
  rw [← hzz] at H3 P3 ⊢
  clear hzz
  go_wp2_with fail
  go_loopw [10, 11] (fun vv ii wr => ∃ (i : Nat) (d : PD) (may : List (List UInt8)) (g o cap ml : Nat) (Q : Nat → Prop), ii = .int .i64 i ∧ i ≤ n ∧ i ≤ 40 ∧ vv = .slice (some ⟨g, o, none⟩) ml cap ∧ ml ≤ i + 1 ∧ 1 ≤ ml ∧ ml ≤ cap ∧ cap ≤ 9223372036854775807 ∧ Hid (ml = may.length) ∧ Hid (Part may g o cap wr) ∧ Hid (Mine w Q D d wr) ∧ Hid (Q g ∧ w.heap.size ≤ g) ∧ Hid (Small i d) ∧ Hid (Inv d may m)) (fun _ ii _ => (n - (intOf ii).toNat))
  case atStart => exact ⟨0, _, [zz], w2.heap.size, 0, 1, 1, _, rfl, by omega, by omega, rfl, by omega, by omega, by omega, by omega, hidm rfl, P3, H3, hidm ⟨.inr ⟨HSZ2.out, by simp⟩, Nat.le_trans HSZ1.out HSZ2.out⟩, hidm ⟨rfl, rfl, Nat.le_refl _, Nat.le_refl _, Nat.le_refl _⟩, hidm (by rw [HZZ.out]; exact Inv.new 8 m)⟩
  case round =>
    rename World => wr
    obtain ⟨i, d, may, g, o, cap, ml, Q, rfl, hi, hi2, rfl, hml1, hml2, hml3, hml4, HML, HP, HM, HQ, HD, HIN⟩ := hrel
    rcases Nat.lt_or_ge i n with hlt | hge
    · rcases Nat.lt_or_ge i 40 with hlt2 | hge2
      · have g1 : (i : Int) < n := by omega
        have g2 : (i : Int) < 40 := by omega
        have hil : i < l.length := by have := HN.out; omega
        obtain ⟨b, bo, cp, he, hb, q0, q1, q2, q3⟩ := HL.out.at i hil
        simp only [Value.slice.injEq] at he
        obtain ⟨rfl, -, rfl⟩ := he
        obtain ⟨x, hx⟩ : ∃ x, x = l[i] := ⟨_, rfl⟩
        rw [← hx] at q0 q1 q2 q3
        have hbel := HM.out.bel
        have p0 := (hbel.cell (p := ⟨b, bo + i * 4, none⟩) hb).trans q0
        have p1 := (hbel.cell (p := ⟨b, bo + i * 4 + 1, none⟩) hb).trans q1
        have p2 := (hbel.cell (p := ⟨b, bo + i * 4 + 2, none⟩) hb).trans q2
        have p3 := (hbel.cell (p := ⟨b, bo + i * 4 + 3, none⟩) hb).trans q3
        have hgr := HP.out.lt
        clear hx q0 q1 q2 q3 hbel
        obtain ⟨WA, hWA⟩ : ∃ WA, WA = wr.alloc (.cells #[.int .i64 x.kind, .int .i64 x.pos, .string x.s, .slice x.ko x.ks.length x.kc] 33) := ⟨_, rfl⟩
        have hbA : Below wr.heap.size wr WA := by rw [hWA]; exact (Below.refl _ _).alloc (Nat.le_refl _) _
        have hrA : WA.heap[wr.heap.size]? = some (.cells #[.int .i64 x.kind, .int .i64 x.pos, .string x.s, .slice x.ko x.ks.length x.kc] 33 (0, 0)) := by rw [hWA]; exact heap_alloc_last _ _
        have HMA := hidm (HM.out.guard hbA)
        have HPA := hidm (HP.out.later hbA)
        have HSZ := hidm (show wr.heap.size < WA.heap.size from by rw [hWA]; simp)
        have HA0 := hidm (row_cell hrA 0)
        have HA1 := hidm (row_cell hrA 1)
        have HA2 := hidm (row_cell hrA 2)
        have HWA := hidm hWA
        clear hWA hbA hrA
        by_cases hk0 : x.kind = 0
        · rw [hk0] at p0 HA0 HWA
          rcases Nat.lt_or_ge 128 x.s.size with hs1 | hs1
          · have g3 : ¬ (x.s.size : Int) ≤ 128 := by omega
            go_wp2_with fail
            rw [← HWA.out]
            go_roundw
            case rel => exact ⟨i + 1, d, may, g, o, cap, ml, _, by go_num, by omega, by omega, rfl, by omega, hml2, hml3, hml4, HML, HPA, HMA, hidm ⟨.inl HQ.out.1, HQ.out.2⟩, hidm (HD.out.more (Nat.le_succ i)), HIN⟩
            case measure => simp [intOf]; omega
          · have g3 : (x.s.size : Int) ≤ 128 := by omega
            go_wp2_with fail
            rw [← HWA.out]
            refine (m_write_any x.pos x.s HMA.out (by have := HD.out.2.2.1; omega) (by have := HD.out.2.2.2.1; omega)).mono ?_
            rintro e w5 ⟨rfl, hm5, hk5⟩
            have HK5 := hidm hk5
            have HM5 := hidm hm5
            have HP5 := hidm (HPA.out.keep (hk5 g (.inl HQ.out.1)))
            clear hm5 hk5
            have r0 : w5.cell? ⟨wr.heap.size, 0, none⟩ = some (.int .i64 0) := by rw [World.cell?_of_block (w := WA) (a := ⟨wr.heap.size, 0, none⟩) (HK5.out _ (.inr ⟨Nat.le_refl _, HSZ.out⟩))]; exact HA0.out
            have r1 : w5.cell? ⟨wr.heap.size, 1, none⟩ = some (.int .i64 x.pos) := by rw [World.cell?_of_block (w := WA) (a := ⟨wr.heap.size, 1, none⟩) (HK5.out _ (.inr ⟨Nat.le_refl _, HSZ.out⟩))]; exact HA1.out
            have r2 : w5.cell? ⟨wr.heap.size, 2, none⟩ = some (.string x.s) := by rw [World.cell?_of_block (w := WA) (a := ⟨wr.heap.size, 2, none⟩) (HK5.out _ (.inr ⟨Nat.le_refl _, HSZ.out⟩))]; exact HA2.out
            have HBU := hidm (show d.burnt = false from by unfold PD.burnt; rw [HD.out.2.1]; rfl)
            clear p0 p1 p2 p3
            by_cases hoff : x.pos < 0 ∨ (d.n : Int) ≤ x.pos
            · have hcode : d.wcode x.pos x.s = 2 := by unfold PD.wcode; rw [if_pos hoff]
              have hst : d.wstep x.pos x.s = d := by unfold PD.wstep; rw [hcode]; rfl
              rw [hst] at HM5
              rw [hcode]
              clear hcode hst hoff
              go_wp2_with fail
              go_roundw
              case rel => exact ⟨i + 1, d, may, g, o, cap, ml, _, by go_num, by omega, by omega, rfl, by omega, hml2, hml3, hml4, HML, HP5, HM5, hidm ⟨.inl HQ.out.1, HQ.out.2⟩, hidm (HD.out.more (Nat.le_succ i)), HIN⟩
              case measure => simp [intOf]; omega
            · obtain ⟨q, hq⟩ : ∃ q : Nat, x.pos = (q : Int) := ⟨x.pos.toNat, by omega⟩
              rw [hq] at hoff HM5 r1 ⊢
              have hcode : d.wcode q x.s = 0 := by unfold PD.wcode; rw [if_neg hoff, if_neg (by omega), HBU.out]; rfl
              have hst : d.wstep q x.s = (d.write q x.s.data.toList).burn := by unfold PD.wstep; rw [hcode]; simp
              have HDW := hidm (HD.out.write q x.s)
              rw [hst] at HM5 HDW
              rw [hcode]
              have HIW := hidm (HIN.out.write q x.s.data.toList)
              clear hcode hst hoff hq
              by_cases hqm : q = m
              · subst hqm
                have hiw := HIW.out
                rw [if_pos rfl] at hiw
                have HIW := hidm hiw
                clear hiw
                go_wp2_with fail
                refine (rpad_any x.s (by omega) _).mono ?_
                rintro e w6 ⟨rfl, hb6⟩
                have HM6 := hidm (HM5.out.later hb6)
                have HP6 := hidm (HP5.out.later hb6)
                have r06 := cell_later hb6 r0
                have HSZ6 := hidm (show wr.heap.size < w6.heap.size from Nat.lt_of_lt_of_le (by have := HM5.out.qlt wr.heap.size (.inr ⟨Nat.le_refl _, HSZ.out⟩); exact this) hb6.size)
                obtain ⟨ty, hty⟩ : ∃ t, t = pad x.s.data.toList := ⟨_, rfl⟩
                rw [← hty] at HIW ⊢
                clear r0 r1 r2 hb6 hty
                have hlm : may.length ≤ 1000000 := by have := HML.out; omega
                have hml5 : ml = may.length := HML.out
                subst hml5
                go_wp2_with (at_builtin; refine wpList_part_append (w := w6.alloc (.cells #[.string (S ty)] 9)) rfl _ _ rfl (HP6.out.later ((Below.refl _ _).alloc (Nat.le_refl _) _)) hlm rfl ty ⟨w6.heap.size, 0, none⟩ 1 rfl ?PX ?_)
                case PX => rw [show (⟨w6.heap.size, 0, none⟩ : Addr).add 0 = ⟨w6.heap.size, 0, none⟩ from rfl, cell_of_row _ _ 0 _ _ (0, 0) (heap_alloc_last w6 _)]; rfl
                intro g2' o2 cap2 w8 hp8 hg8 hgg
                have hb7 : Below w6.heap.size w6 (w6.alloc (.cells #[.string (S ty)] 9)) := (Below.refl _ _).alloc (Nat.le_refl _) _
                have HM7 := hidm (HM6.out.guard hb7)
                have HM8 := hidm (HM7.out.side hg8 (.inl (.inl HQ.out.1)) HQ.out.2)
                have HP8 := hidm hp8
                have hcap2 : may.length + 1 ≤ cap2 := by have := hp8.len; simpa using this
                have hcm2 := hp8.cm
                have r08 : w8.cell? ⟨wr.heap.size, 0, none⟩ = some (.int .i64 0) := by
                  rw [World.cell?_of_block (w := w6.alloc (.cells #[.string (S ty)] 9)) (a := ⟨wr.heap.size, 0, none⟩) (hg8.block wr.heap.size (by have := HSZ6.out; simp; omega) (fun e => by cases e; omega))]
                  exact cell_later hb7 r06
                have HQ8 := hidm (show (fun k => ((Q k ∨ (wr.heap.size ≤ k ∧ k < WA.heap.size)) ∨ (w6.heap.size ≤ k ∧ k < (w6.alloc (.cells #[.string (S ty)] 9)).heap.size)) ∨ ((w6.alloc (.cells #[.string (S ty)] 9)).heap.size ≤ k ∧ k < w8.heap.size)) g2' ∧ w.heap.size ≤ g2' from by
                  rcases hgg with h | h
                  · rw [h]; exact ⟨.inl (.inl (.inl HQ.out.1)), HQ.out.2⟩
                  · have h1 : w6.heap.size + 1 ≤ g2' := by simpa using h.1
                    exact ⟨.inr ⟨by simp; omega, h.2⟩, by have := HM6.out.bel.size; omega⟩)
                clear hp8 hg8 hgg hb7 r06
                go_wp2_with fail
                go_roundw
                case rel => exact ⟨i + 1, _, _, g2', o2, cap2, may.length + 1, _, by go_num, by omega, by omega, rfl, by omega, by omega, by omega, by omega, hidm (by simp), HP8, HM8, HQ8, HDW, HIW⟩
                case measure => simp [intOf]; omega
              · have g4 : ¬ (q : Int) = (m : Int) := by omega
                have g5 : ((q : Int) == (m : Int)) = false := by simp; omega
                have hiw := HIW.out
                rw [if_neg hqm] at hiw
                have HIW := hidm hiw
                clear hiw
                go_wp2_with fail
                go_roundw
                case rel => exact ⟨i + 1, _, may, g, o, cap, ml, _, by go_num, by omega, by omega, rfl, by omega, hml2, hml3, hml4, HML, HP5, HM5, hidm ⟨.inl HQ.out.1, HQ.out.2⟩, HDW, HIW⟩
                case measure => simp [intOf]; omega
        · have g3 : (x.kind == 0) = false := by simpa using hk0
          by_cases hk2 : x.kind = 2
          · rw [hk2] at p0 HWA
            go_wp2_with fail
            rw [← HWA.out]
            refine (m_flush HMA.out (by unfold PD.burnt; rw [HD.out.2.1]; rfl) (by have := HD.out.2.2.2.2; omega)).mono ?_
            rintro e w5 ⟨rfl, hm5, hk5⟩
            have HM5 := hidm hm5
            have HP5 := hidm (HPA.out.keep (hk5 g (.inl HQ.out.1)))
            clear hm5 hk5
            have HIF := hidm HIN.out.flush
            have HDF := hidm (show Small (i + 1) d.flush.burn from ⟨HD.out.1, HD.out.2.1, Nat.zero_le _, by have := HD.out.2.2.2.1; show d.wr ≤ _; omega, by have := HD.out.2.2.2.2; show d.fl + 1 ≤ _; omega⟩)
            obtain ⟨n1, hn1⟩ : ∃ n1, ml = n1 + 1 := ⟨ml - 1, by omega⟩
            have HPL := hidm (HP5.out.last n1 (by rw [← HML.out, hn1]) (d.f m) (by
              have h1 := HIN.out.last
              rw [List.getLast?_eq_getElem?, ← HML.out, hn1] at h1
              exact h1))
            have HN1 := hidm hn1
            rw [hn1]
            have g6 : wrap64 (((n1 + 1 : Nat) : Int) - 1) = (n1 : Int) := by unfold wrap64; omega
            have g7 : ¬ cap = n1 := by omega
            have g8 : n1 ≤ n1 + 1 := by omega
            have g9 : n1 + 1 ≤ cap := by omega
            have g10 : n1 + 1 - n1 = 1 := by omega
            clear hn1 p0 p1 p2 p3
            go_wp2_with fail
            skip
            go_roundw
            case rel => exact ⟨i + 1, _, [d.f m], g, o + n1, cap - n1, 1, _, by go_num, by omega, by omega, by first | rfl | (simp; done), by omega, by omega, by omega, by omega, hidm rfl, HPL, HM5, hidm ⟨.inl HQ.out.1, HQ.out.2⟩, HDF, HIF⟩
            case measure => simp [intOf]; omega
          · have g4 : (x.kind == 2) = false := by simpa using hk2
            go_wp2_with fail
            rw [← HWA.out]
            go_roundw
            case rel => exact ⟨i + 1, d, may, g, o, cap, ml, _, by go_num, by omega, by omega, rfl, by omega, hml2, hml3, hml4, HML, HPA, HMA, hidm ⟨.inl HQ.out.1, HQ.out.2⟩, hidm (HD.out.more (Nat.le_succ i)), HIN⟩
            case measure => simp [intOf]; omega
      · have g1 : (i : Int) < n := by omega
        have g2 : ¬ (i : Int) < 40 := by omega
        have HLQ := hidm (show ∀ q, Q q → q < wr.heap.size from HM.out.qlt)
        have HIN9 := HIN
        clear hge2
        go_wp2_with fail
        refine (m_dirty HM.out).mono ?_
        rintro e w9 ⟨vd, rfl, hi9, hb9⟩
        have HM9 := hidm (HM.out.later hb9)
        have HP9 := hidm (HP.out.later hb9)
        obtain ⟨vo, vc, hvd, _, _⟩ := hi9.form
        rw [dirty_len] at hvd
        subst hvd
        clear hi9 hb9
        obtain ⟨nd, hnd⟩ : ∃ nd, nd = d.cs.length := ⟨_, rfl⟩
        have HND := hidm hnd
        rw [← hnd]
        clear hnd
        obtain ⟨mm, hmm⟩ : ∃ mm, mm = min kn nd := ⟨_, rfl⟩
        have hmin : min (kn : Int) (nd : Int) = (mm : Int) := by omega
        have hmk : mm ≤ kn := by omega
        have hmd : mm ≤ nd := by omega
        have hms : mm ≤ ksc := by omega
        have HBK := hidm (((HKS.out.later HM9.out.bel)).take mm (by have := HKN.out; omega))
        have HLT := hidm (show (ks.take mm).length = mm from by rw [List.length_take]; have := HKN.out; omega)
        clear hmm
        go_wp2_with fail
        have CR := m_crash (ks.take mm) kso ksc HM9.out (by rw [HLT.out, ← HND.out]; exact hmd) HBK.out (fun hne p hp => .inl (by
          obtain ⟨b, o, e, hlt, _⟩ := HKS.out.2.2 (fun e => hne (by rw [e]; simp))
          rw [e] at hp
          cases hp
          exact hlt))
        rw [HLT.out] at CR
        refine CR.mono ?_
        clear CR
        rintro e w10 ⟨rfl, hm10, hk10⟩
        have HM10 := hidm hm10
        have HP10 := hidm (HP9.out.keep (hk10 g HQ.out.1))
        have HMEM := hidm (HIN9.out.crash (ks.take mm))
        have HN10 := hidm (show (d.crash (ks.take mm)).n = 8 from HD.out.1)
        have HC10 := hidm (show (d.crash (ks.take mm)).cs = [] from rfl)
        obtain ⟨d2, hd2⟩ : ∃ d2, d2 = d.crash (ks.take mm) := ⟨_, rfl⟩
        rw [← hd2] at HM10 HMEM HN10 HC10
        clear hm10 hk10 hd2
        go_wp2_with fail
        refine (m_read m HM10.out (by rw [HN10.out]; exact hm8)).mono ?_
        rintro e w11 ⟨rfl, hb11⟩
        have HM11 := hidm (HM10.out.later hb11)
        have HP11 := hidm (HP10.out.later hb11)
        have hll := HM11.out.flen (m : Nat)
        obtain ⟨tx, htx⟩ : ∃ t, t = d2.f (m : Nat) := ⟨_, rfl⟩
        rw [← htx] at HMEM hll ⊢
        have hs8 : tx.toArray.size = 128 := by simpa using hll
        clear hb11 htx hll
        go_wp2_with fail
        go_loopw [16, 17] (fun bb jj wx => ∃ (j : Nat) (bv : Bool), jj = .int .i64 j ∧ bb = .bool bv ∧ j ≤ ml ∧ Hid (bv = (may.take j).any (· == tx)) ∧ Hid (Below w11.heap.size w11 wx)) (fun _ jj _ => (ml - (intOf jj).toNat))
        case atStart => exact ⟨0, false, rfl, rfl, by omega, hidm rfl, hidm (Below.refl _ _)⟩
        case round =>
          rename World => wx
          obtain ⟨j, bv, rfl, rfl, hj, HBV, HBX⟩ := hrel
          rcases Nat.lt_or_ge j ml with hjl | hjl
          · have g5 : (j : Int) < ml := by omega
            have hjm : j < may.length := by have := HML.out; omega
            have hcj := (HP11.out.later HBX.out).at j hjm
            obtain ⟨y, hy⟩ : ∃ y, y = may[j] := ⟨_, rfl⟩
            have HST := hidm (show (may.take (j + 1)).any (· == tx) = ((may.take j).any (· == tx) || (y == tx)) from by
              rw [List.take_succ_eq_append_getElem hjm, List.any_append, hy]; simp)
            rw [← hy] at hcj
            clear hy
            have hcmp : (y.toArray.toList == tx.toArray.toList) = (y == tx) := by simp
            cases bv
            · go_wp2_with fail
              go_roundw
              case rel => exact ⟨j + 1, y == tx, by go_num, by first | rfl | simp, by omega, hidm (by rw [HST.out, ← HBV.out]; simp), HBX⟩
              case measure => simp [intOf]; omega
            · go_wp2_with fail
              go_roundw
              case rel => exact ⟨j + 1, true, by go_num, rfl, by omega, hidm (by rw [HST.out, ← HBV.out]; simp), HBX⟩
              case measure => simp [intOf]; omega
          · obtain rfl : j = ml := by omega
            have g5 : ¬ (j : Int) < (j : Int) := by omega
            have hbt : bv = true := by
              rw [HBV.out, List.take_of_length_le (by rw [HML.out]; exact Nat.le_refl _), List.any_eq_true]
              exact ⟨tx, HMEM.out, by simp⟩
            subst hbt
            have HMX := hidm (HM11.out.later HBX.out)
            go_wp2_with fail
            refine (m_dirty HMX.out).mono ?_
            rintro e w12 ⟨ve, rfl, hi12, hb12⟩
            have HM12 := hidm (HMX.out.later hb12)
            obtain ⟨xo, xc, hve, _, _⟩ := hi12.form
            rw [dirty_len, HC10.out] at hve
            subst hve
            clear hi12 hb12
            go_wp2_with fail
            refine (known_any _).mono ?_
            rintro e wk ⟨rfl, hbk⟩
            have HBE := hidm (HM12.out.bel.trans (hbk.mono HM12.out.bel.size))
            clear hbk
            go_wp2_with fail
            go_ret
            exact ⟨rfl, HBE.out⟩
    · obtain rfl : i = n := by omega
      have g1 : ¬ (i : Int) < (i : Int) := by omega
      have HLQ := hidm (show ∀ q, Q q → q < wr.heap.size from HM.out.qlt)
      have HIN9 := HIN
      clear hge
      go_wp2_with fail
      refine (m_dirty HM.out).mono ?_
      rintro e w9 ⟨vd, rfl, hi9, hb9⟩
      have HM9 := hidm (HM.out.later hb9)
      have HP9 := hidm (HP.out.later hb9)
      obtain ⟨vo, vc, hvd, _, _⟩ := hi9.form
      rw [dirty_len] at hvd
      subst hvd
      clear hi9 hb9
      obtain ⟨nd, hnd⟩ : ∃ nd, nd = d.cs.length := ⟨_, rfl⟩
      have HND := hidm hnd
      rw [← hnd]
      clear hnd
      obtain ⟨mm, hmm⟩ : ∃ mm, mm = min kn nd := ⟨_, rfl⟩
      have hmin : min (kn : Int) (nd : Int) = (mm : Int) := by omega
      have hmk : mm ≤ kn := by omega
      have hmd : mm ≤ nd := by omega
      have hms : mm ≤ ksc := by omega
      have HBK := hidm (((HKS.out.later HM9.out.bel)).take mm (by have := HKN.out; omega))
      have HLT := hidm (show (ks.take mm).length = mm from by rw [List.length_take]; have := HKN.out; omega)
      clear hmm
      go_wp2_with fail
      have CR := m_crash (ks.take mm) kso ksc HM9.out (by rw [HLT.out, ← HND.out]; exact hmd) HBK.out (fun hne p hp => .inl (by
        obtain ⟨b, o, e, hlt, _⟩ := HKS.out.2.2 (fun e => hne (by rw [e]; simp))
        rw [e] at hp
        cases hp
        exact hlt))
      rw [HLT.out] at CR
      refine CR.mono ?_
      clear CR
      rintro e w10 ⟨rfl, hm10, hk10⟩
      have HM10 := hidm hm10
      have HP10 := hidm (HP9.out.keep (hk10 g HQ.out.1))
      have HMEM := hidm (HIN9.out.crash (ks.take mm))
      have HN10 := hidm (show (d.crash (ks.take mm)).n = 8 from HD.out.1)
      have HC10 := hidm (show (d.crash (ks.take mm)).cs = [] from rfl)
      obtain ⟨d2, hd2⟩ : ∃ d2, d2 = d.crash (ks.take mm) := ⟨_, rfl⟩
      rw [← hd2] at HM10 HMEM HN10 HC10
      clear hm10 hk10 hd2
      go_wp2_with fail
      refine (m_read m HM10.out (by rw [HN10.out]; exact hm8)).mono ?_
      rintro e w11 ⟨rfl, hb11⟩
      have HM11 := hidm (HM10.out.later hb11)
      have HP11 := hidm (HP10.out.later hb11)
      have hll := HM11.out.flen (m : Nat)
      obtain ⟨tx, htx⟩ : ∃ t, t = d2.f (m : Nat) := ⟨_, rfl⟩
      rw [← htx] at HMEM hll ⊢
      have hs8 : tx.toArray.size = 128 := by simpa using hll
      clear hb11 htx hll
      go_wp2_with fail
      go_loopw [16, 17] (fun bb jj wx => ∃ (j : Nat) (bv : Bool), jj = .int .i64 j ∧ bb = .bool bv ∧ j ≤ ml ∧ Hid (bv = (may.take j).any (· == tx)) ∧ Hid (Below w11.heap.size w11 wx)) (fun _ jj _ => (ml - (intOf jj).toNat))
      case atStart => exact ⟨0, false, rfl, rfl, by omega, hidm rfl, hidm (Below.refl _ _)⟩
      case round =>
        rename World => wx
        obtain ⟨j, bv, rfl, rfl, hj, HBV, HBX⟩ := hrel
        rcases Nat.lt_or_ge j ml with hjl | hjl
        · have g5 : (j : Int) < ml := by omega
          have hjm : j < may.length := by have := HML.out; omega
          have hcj := (HP11.out.later HBX.out).at j hjm
          obtain ⟨y, hy⟩ : ∃ y, y = may[j] := ⟨_, rfl⟩
          have HST := hidm (show (may.take (j + 1)).any (· == tx) = ((may.take j).any (· == tx) || (y == tx)) from by
            rw [List.take_succ_eq_append_getElem hjm, List.any_append, hy]; simp)
          rw [← hy] at hcj
          clear hy
          have hcmp : (y.toArray.toList == tx.toArray.toList) = (y == tx) := by simp
          cases bv
          · go_wp2_with fail
            go_roundw
            case rel => exact ⟨j + 1, y == tx, by go_num, by first | rfl | simp, by omega, hidm (by rw [HST.out, ← HBV.out]; simp), HBX⟩
            case measure => simp [intOf]; omega
          · go_wp2_with fail
            go_roundw
            case rel => exact ⟨j + 1, true, by go_num, rfl, by omega, hidm (by rw [HST.out, ← HBV.out]; simp), HBX⟩
            case measure => simp [intOf]; omega
        · obtain rfl : j = ml := by omega
          have g5 : ¬ (j : Int) < (j : Int) := by omega
          have hbt : bv = true := by
            rw [HBV.out, List.take_of_length_le (by rw [HML.out]; exact Nat.le_refl _), List.any_eq_true]
            exact ⟨tx, HMEM.out, by simp⟩
          subst hbt
          have HMX := hidm (HM11.out.later HBX.out)
          go_wp2_with fail
          refine (m_dirty HMX.out).mono ?_
          rintro e w12 ⟨ve, rfl, hi12, hb12⟩
          have HM12 := hidm (HMX.out.later hb12)
          obtain ⟨xo, xc, hve, _, _⟩ := hi12.form
          rw [dirty_len, HC10.out] at hve
          subst hve
          clear hi12 hb12
          go_wp2_with fail
          refine (known_any _).mono ?_
          rintro e wk ⟨rfl, hbk⟩
          have HBE := hidm (HM12.out.bel.trans (hbk.mono HM12.out.bel.size))
          clear hbk
          go_wp2_with fail
          go_ret
          exact ⟨rfl, HBE.out⟩
theorem law_any (l : List Opv) (sl : Value) (ks : List Bool) (kso : Option Addr) (ksc : Nat) (a : Nat) (w : World) (ha : a < 256) (hin : OpsAt l sl w) (hks : BoolsAt ks kso ksc w) :
    Calls Try.prog 4 #[sl, .slice kso ks.length ksc, .int .u8 a] w fun e w' => e = .returned (.bool true) ∧ Below w.heap.size w w' := by
  obtain ⟨lo, lc, rfl, h1, h2⟩ := hin.form
  exact main_any l lo _ lc ks kso _ ksc a w rfl (by omega) rfl ha hin hks
theorem laidOut : laidOutB Try.prog = true := by kernel_rfl
set_option maxRecDepth 100000 in
theorem contract (H : Type) (enc : TypeId × Value → H) (W : World) (base : Nat) (args : Array Value) (ds gs : List (DataW H)) (before : List MemPlace)
    (hval : ∀ (j : Nat) t v, Try.f4.params[j]? = some t → args[j]? = some v → Value.okWide Try.prog W .any base t v)
    (hW : DataW.Whole enc Try.prog Try.f4.params.toList Rows.diskStaysSpec.vars false W args.toList ds gs before)
    (hsz0 : (DataW.weightsEach Try.prog (Try.f4.params.toList ++ Rows.diskStaysSpec.plain.varTypes Try.prog) (ds ++ gs)).all (· ≤ reachBytes) = true) :
    Calls Try.prog 4 args W fun e W' => ∃ v, e = .returned v ∧ Rows.diskStaysSpec.post enc Try.prog Try.f4 false true false false W args v W' := by
  have hW' := hW
  obtain ⟨p, q, hA0, hV, rfl, hfz, hnd⟩ := hW
  have hA : DataW.TrodAll enc Try.prog W 0 (fun _ => true) true Try.f4.params.toList args.toList ds p := hA0
  rw [Try.params4] at hA hval hsz0
  obtain ⟨v0, vs0, d0, ds0, p0, q0, hargs, rfl, rfl, h0, r0⟩ := trodAll_cons hA
  obtain ⟨v1, vs1, d1, ds1, p1, q1, rfl, rfl, rfl, h1, r1⟩ := trodAll_cons r0
  obtain ⟨v2, vs2, d2, ds2, p2, q2, rfl, rfl, rfl, h2, r2⟩ := trodAll_cons r1
  obtain ⟨rfl, rfl, rfl⟩ := trodAll_nil r2
  obtain rfl : args = #[v0, v1, v2] := by cases args; simp_all
  obtain ⟨rfl, rfl⟩ := trodVars_none hV
  have hsz := fun n hn => of_decide_eq_true (List.all_eq_true.1 hsz0 n hn)
  obtain ⟨l, hml, hnl⟩ := open_ops (hval 0 22 v0 rfl rfl) h0
  obtain ⟨ks, kso, ksc, rfl, hmks⟩ := open_bools (hval 1 31 v1 rfl rfl) h1
  obtain ⟨a, rfl, hd2, hp2, wa⟩ := open_int Try.underlying5 (hval 2 5 v2 rfl rfl) h2
  have ba := bounds_u8 wa
  obtain ⟨a, rfl⟩ := Int.eq_ofNat_of_zero_le ba.1
  clear hA0 hsz0
  simp only [List.append_nil] at hW'
  have hlt : ∀ x ∈ p0 ++ p1 ++ p2, x.block < W.heap.size := fun x hx => hW'.lt x (by simpa using hx)
  have walk := law_any l v0 ks kso ksc a W (by omega) hml hmks
  refine walk.mono fun e W' ⟨he, hg⟩ => ?_
  subst he
  refine ⟨_, rfl, Fr.post_made (pa := p0 ++ (p1 ++ p2)) (pv := []) hW' (fun _ _ _ => trodAll_cons_mk (shut_bool Try.underlying4 _) trodAll_mk0) (fun sp hsp => ?_) (fun _ _ => rfl) (by simp) hg (ok_one (by kernel_rfl) rfl (okWide_bool_mk Try.underlying4 _))⟩
  have g0 : DataW.Trod enc Try.prog W' 0 sp true 22 _ d0 p0 := WideElems.Trod_stays laidOut (by kernel_rfl) (of_decide_eq_true (by kernel_rfl)) h0 (fun x hx => hg.same (hlt x (by simp [hx]))) (fun x hx => hsp x (by simp [hx]))
  have g1 : DataW.Trod enc Try.prog W' 0 sp true 31 _ d1 p1 := WideElems.Trod_stays laidOut (by kernel_rfl) (of_decide_eq_true (by kernel_rfl)) h1 (fun x hx => hg.same (hlt x (by simp [hx]))) (fun x hx => hsp x (by simp [hx]))
  have g2 : DataW.Trod enc Try.prog W' 0 sp true 5 _ d2 p2 := WideElems.Trod_stays laidOut (by kernel_rfl) (of_decide_eq_true (by kernel_rfl)) h2 (fun x hx => hg.same (hlt x (by simp [hx]))) (fun x hx => hsp x (by simp [hx]))
  have hT := (trodAll_cons_mk g0 (trodAll_cons_mk g1 (trodAll_cons_mk g2 trodAll_mk0)))
  simp only [List.append_nil] at hT
  exact hT
set_option maxRecDepth 100000 in
theorem lifted (os : Os) (started : os.Started) (H : Type) (enc : TypeId × Value → H) :
    ReturnsInHanded {} Try.checked os 4 .any (Rows.diskStaysSpec.pre6 enc Try.prog Try.f4 Rows.diskStaysRow.domain false) (Rows.diskStaysSpec.post enc Try.prog Try.f4 false true false false) := by
  refine returnsInHanded_of_change_sized (C := Try.checked) Fr.own started (by kernel_rfl) Try.func4
    (ChangeSpec.witness6 (enc := enc) (C := Try.checked) false ⟨#[], #[.slice none 0 0, .slice none 0 0, .int .u8 0], []⟩ 8 (by kernel_rfl) (by kernel_rfl) (by kernel_rfl) (by kernel_rfl)) ?_
  intro W base args ds gs before hval hW _ hsz _
  exact contract H enc W base args ds gs before hval hW hsz
theorem said : Rows.DiskStaysSaid :=
  OpenClaim.holds_of_wide 4 Try.f4 rfl rfl rfl rfl rfl rfl rfl ⟨rfl, rfl, rfl, rfl, rfl⟩ rfl rfl rfl rfl rfl (by kernel_rfl) Try.func4 (by kernel_rfl)
    (of_decide_eq_true (by kernel_rfl)) (by unfold Func.isWrapper; first | (rw [if_pos (by decide +kernel)]; kernel_rfl) | (rw [if_neg (by decide +kernel)]; exact ⟨rfl, rfl⟩))
    (fun os started H enc _ => lifted os started H enc)
end LaDiskStays
end Go.Proofs.Ytkbadjlehmaneaa
