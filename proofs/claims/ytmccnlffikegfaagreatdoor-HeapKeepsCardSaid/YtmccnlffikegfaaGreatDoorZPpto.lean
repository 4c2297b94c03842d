/- A pager's Open. Conditions: as each says. -/
import Derived.Test.YtmccnlffikegfaaGreatDoorZPo
import Derived.Test.YtmccnlffikegfaaGreatDoorZDlto
namespace Go.Proofs.YtmccnlffikegfaaGreatDoor
open Go.RowKit
namespace Pgr
open Wal (Pair PL R sealB sbody slot np wrs Cn tot openedG slF pair_mine)
open Dsk (PD Mine KeepQ Only below_keeps cell_later sec vals pad zeros upd IntsAt ints)
open Crc (S S_of S_size)
theorem popen_nil (w : World) : Calls Tryz.prog 18 #[.pointer none, .int .i64 10] w fun e w' => e = .returned (.tuple #[.pointer none, .int .i64 1]) ∧ w = w' := by
  have HL := hidm (Dsk.len_none none w (.inl rfl))
  go_enter Tryz.func18, Tryz.ntmps18
  go_wp2_with fail
  refine HL.out.mono ?_
  rintro e w1 ⟨rfl, rfl⟩
  go_wp2_with fail
  go_ret2
  exact ⟨rfl, rfl⟩
section
variable {W : World} {Q : Nat → Prop} {P L D : Nat} {v : PV} {g : PL} {d : PD} {w : World}
theorem popen_arg (h : Mine W Q D d w) (lg : Nat) (hl : lg ≤ 100000) (hbad : d.n < lg + 1 ∨ lg + 1024 < d.n) : Calls Tryz.prog 18 #[.pointer (some ⟨D, 0, none⟩), .int .i64 (lg : Int)] w fun e w' => e = .returned (.tuple #[.pointer none, .int .i64 1]) ∧ w = w' := by
  have HL := hidm (Dsk.m_len h)
  have hdn := h.ok.1
  obtain ⟨r, hr⟩ : ∃ r : Int, r = (d.n : Int) - (lg : Int) := ⟨_, rfl⟩
  have hrw : IntKind.i64.wrap r = r := by simp only [IntKind.wrap_i64]; omega
  have hr' := hr.symm
  by_cases h1 : r < 1
  · clear h hbad hr hdn hl
    go_enter Tryz.func18, Tryz.ntmps18
    go_wp2_with fail
    refine HL.out.mono ?_
    rintro e w1 ⟨rfl, rfl⟩
    go_wp2_with fail
    go_ret2
    exact ⟨rfl, rfl⟩
  · have h2 : 1024 < r := by omega
    clear h hbad hr hdn hl
    go_enter Tryz.func18, Tryz.ntmps18
    go_wp2_with fail
    refine HL.out.mono ?_
    rintro e w1 ⟨rfl, rfl⟩
    go_wp2_with fail
    go_ret2
    exact ⟨rfl, rfl⟩
theorem Pg.new (h : Pair W Q L D g d w) (hv : v.ok) (hch : v.ch = []) (hfit : v.first + v.pages = d.n) :
    Pg W Q (w.heap.size + 1) L D v g d ((w.alloc (.map #[] 0)).alloc (.cells (pcells (w.heap.size + 1) L D w.heap.size v) 85)) ∧ KeepQ Q w ((w.alloc (.map #[] 0)).alloc (.cells (pcells (w.heap.size + 1) L D w.heap.size v) 85)) := by
  have hb : Below w.heap.size w ((w.alloc (.map #[] 0)).alloc (.cells (pcells (w.heap.size + 1) L D w.heap.size v) 85)) := ((Below.refl _ _).alloc (Nat.le_refl _) _).alloc (by simp) _
  have hq := h.qlt
  have hW := h.bel.size
  have hrow := heap_alloc_last (w.alloc (.map #[] 0)) (.cells (pcells (w.heap.size + 1) L D w.heap.size v) 85)
  rw [World.size_alloc] at hrow
  have hmap := (MapIs.new w).later ((Below.refl _ _).alloc (Nat.le_refl _) (.cells (pcells (w.heap.size + 1) L D w.heap.size v) 85))
  refine ⟨⟨⟨w.heap.size, (h.guard hb).less (fun k hk => ?_), ⟨hrow, by rw [hch]; exact hmap, hv⟩, ⟨by omega, fun e => by have := hq _ e; omega⟩, ⟨hW, fun e => by have := hq _ e; omega⟩⟩, hfit⟩, h.kept hb⟩
  rcases hk with hk | hk | hk
  · exact .inl hk
  · rw [hk]; exact .inr ⟨by omega, by simp⟩
  · rw [hk]; exact .inr ⟨by omega, by simp <;> omega⟩
/-- What an Open does behind the log's. -/
def restS (n t : Nat) : Option Ch → List Step
  | none => []
  | some ch => tailS n (t + 1) ch
/-- What an Open comes to. -/
def OpensP (W : World) (Q : Nat → Prop) (D n N t b : Nat) (oc : Option Ch) (d : PD) (w : World) (e : Ending) (w' : World) : Prop :=
  ((run d (openS n t b oc)).1 = true ∧ ∃ P L, e = .returned (.tuple #[.pointer (some ⟨P, 0, none⟩), .int .i64 0]) ∧ Pg W Q P L D ⟨2 + n, N, [], false⟩ ⟨0, n, openT t oc, [], 0, false⟩ (run d (openS n t b oc)).2 w' ∧ KeepQ Q w w') ∨
    ((run d (openS n t b oc)).1 = false ∧ e = .returned (.tuple #[.pointer none, .int .i64 6]) ∧ Mine W Q D (run d (openS n t b oc)).2 w' ∧ KeepQ Q w w')
set_option maxHeartbeats 8000000 in
set_option maxRecDepth 100000 in
theorem popen_in {n N t b : Nat} {A : List R} (h : Mine W Q D d w) (hcn : Cn 0 n t b d.f A) (oc : Option Ch) (hA : (oc = none ∧ A = []) ∨ ∃ t0 ch, oc = some ch ∧ A = [(t0, record ch)] ∧ Ok N ch) (hdn : d.n = 2 + n + N) (hn : 2 ≤ n ∧ n ≤ 998) (hN : 1 ≤ N ∧ N ≤ 1024) (ht : t + 3 ≤ 1099511627776) (hc : d.cs.length ≤ 700000) (hw : d.wr ≤ 700000) (hf : d.fl ≤ 700000) (lg : Nat) (hlg : lg = 2 + n) :
    Calls Tryz.prog 18 #[.pointer (some ⟨D, 0, none⟩), .int .i64 (lg : Int)] w fun e w' => OpensP W Q D n N t b oc d w e w' := by
  have HL := hidm (Dsk.m_len h)
  obtain ⟨hsl, hog⟩ := opens hcn
  have WO := hidm (Wal.open_run h 0 lg n (by omega) (by omega) (by omega) (by rw [hsl]; show t < _; omega) (by omega) (by omega) (by omega))
  have hWO := WO.out
  unfold Wal.OpenP at hWO
  rw [hsl, hog] at hWO
  have hopen : openS n t b oc = slotS 0 (t + 1) b ++ restS n t oc := by cases oc <;> rfl
  have hvok : ({ first := 2 + n, pages := N, ch := [], halted := false } : PV).ok := ⟨by show 2 + n ≤ 4096; omega, hN.1, hN.2, Ok.nil _⟩
  obtain ⟨r, hr⟩ : ∃ r : Int, r = (d.n : Int) - (lg : Int) := ⟨_, rfl⟩
  have hrw : IntKind.i64.wrap r = r := by simp only [IntKind.wrap_i64]; omega
  have hr' := hr.symm
  have hrN : r = (N : Int) := by omega
  have g1 : ¬ r < 1 := by omega
  have g2 : ¬ 1024 < r := by omega
  have hmm := @run_makeMap Tryz.prog
  unfold OpensP
  rw [hopen]
  rcases hr1 : run d (slotS 0 (t + 1) b) with ⟨ok, d1⟩
  simp only [hr1] at hWO
  have hfew := run_few (slotS 0 (t + 1) b) d
  rw [hr1] at hfew
  simp only [slotS, List.length_cons, List.length_nil] at hfew
  obtain ⟨u1, u2, u3, u4, _⟩ := hfew
  cases ok with
  | false =>
    rw [seq_fail hr1]
    simp only [Bool.false_eq_true, false_and, false_or, true_and] at hWO
    have HWO := hidm hWO
    clear h hcn hA hdn hn hN ht hc hw hf hlg hsl hog WO hWO hopen hvok hr hrN hr1 u1 u2 u3 u4
    go_enter Tryz.func18, Tryz.ntmps18
    go_wp2_with fail
    refine HL.out.mono ?_
    rintro e w1 ⟨rfl, rfl⟩
    go_wp2_with fail
    refine HWO.out.mono ?_
    rintro e w2 ⟨rfl, hm, hk⟩
    have HM := hidm hm
    have HK := hidm hk
    clear hm hk
    go_wp2_with fail
    go_ret2
    exact .inr ⟨by trivial, rfl, HM.out, HK.out⟩
  | true =>
    rw [seq_ok hr1]
    simp only [Bool.true_eq_false, false_and, or_false, true_and] at hWO
    have HWO := hidm hWO
    have NEW := hidm (fun (L : Nat) (w2 : World) (hp : Pair W Q L D ⟨0, n, t + 1, A.map Prod.snd, tot A, false⟩ d1 w2) => Pg.new (v := ⟨2 + n, N, [], false⟩) hp hvok rfl (by rw [u1]; exact hdn.symm))
    have HLG := hidm (show (lg : Int) = ((2 + n : Nat) : Int) from by omega)
    have HRN := hidm hrN
    rcases hA with ⟨rfl, rfl⟩ | ⟨t0, ch, rfl, rfl, hok⟩
    · rw [show restS n t none = [] from rfl, show run d1 [] = (true, d1) from rfl]
      have RD := hidm (fun (P L : Nat) (w3 : World) (hp : Pg W Q P L D ⟨2 + n, N, [], false⟩ ⟨0, n, t + 1, [], 0, false⟩ d1 w3) => redo_none hp rfl)
      change Hid (∀ (L : Nat) (w2 : World), Pair W Q L D ⟨0, n, t + 1, [], 0, false⟩ d1 w2 → _) at NEW
      clear h hcn hdn hn hN ht hc hw hf hlg hsl hog WO hWO hopen hvok hr hr1 hrN u1 u2 u3 u4
      go_enter Tryz.func18, Tryz.ntmps18
      go_wp2_with fail
      refine HL.out.mono ?_
      rintro e w1 ⟨rfl, rfl⟩
      go_wp2_with fail
      refine HWO.out.mono ?_
      rintro e w2 ⟨L, rfl, hp, hk⟩
      obtain ⟨hn1, hn2⟩ := NEW.out L w2 hp
      have HNG := hidm hn1
      have HNK := hidm (hk.trans hn2)
      clear hp hk hn1 hn2
      go_wp2_with fail
      unfold pcells at HNG HNK
      rw [← HLG.out, ← HRN.out] at HNG HNK
      refine (RD.out _ L _ HNG.out).mono ?_
      rintro e w4 ⟨rfl, hb⟩
      have HG4 := hidm (HNG.out.later hb)
      have HK4 := hidm (HNK.out.trans (HNG.out.kept hb))
      clear hb
      go_wp2_with fail
      go_ret2
      exact .inl ⟨by trivial, _, L, rfl, HG4.out, HK4.out⟩
    · rw [show restS n t (some ch) = tailS n (t + 1) ch from rfl]
      rcases hr2 : run d1 (tailS n (t + 1) ch) with ⟨ok, d2⟩
      have RD := hidm (fun (P L : Nat) (w3 : World) (hp : Pg W Q P L D ⟨2 + n, N, [], false⟩ ⟨0, n, t + 1, [record ch], tot [(t0, record ch)], false⟩ d1 w3) => redo_one hp hok rfl (by omega) (by omega) (by omega) (by omega))
      rw [hr2] at RD
      change Hid (∀ (L : Nat) (w2 : World), Pair W Q L D ⟨0, n, t + 1, [record ch], tot [(t0, record ch)], false⟩ d1 w2 → _) at NEW
      cases ok with
      | true =>
        have hcc : code (true, d2).1 = 0 := rfl
        rw [hcc] at RD
        clear h hcn hdn hn hN ht hc hw hf hlg hsl hog WO hWO hopen hvok hr hr1 hr2 hrN u1 u2 u3 u4 hok hcc
        go_enter Tryz.func18, Tryz.ntmps18
        go_wp2_with fail
        refine HL.out.mono ?_
        rintro e w1 ⟨rfl, rfl⟩
        go_wp2_with fail
        refine HWO.out.mono ?_
        rintro e w2 ⟨L, rfl, hp, hk⟩
        obtain ⟨hn1, hn2⟩ := NEW.out L w2 hp
        have HNG := hidm hn1
        have HNK := hidm (hk.trans hn2)
        clear hp hk hn1 hn2
        go_wp2_with fail
        unfold pcells at HNG HNK
        rw [← HLG.out, ← HRN.out] at HNG HNK
        refine (RD.out _ L _ HNG.out).mono ?_
        rintro e w4 ⟨rfl, ⟨g', hp, hg⟩, hk⟩
        have hg := hg (by trivial)
        subst hg
        have HG4 := hidm hp
        have HK4 := hidm (HNK.out.trans hk)
        clear hp hk
        go_wp2_with fail
        go_ret2
        exact .inl ⟨by trivial, _, L, rfl, HG4.out, HK4.out⟩
      | false =>
        have hcc : code (false, d2).1 = 6 := rfl
        rw [hcc] at RD
        clear h hcn hdn hn hN ht hc hw hf hlg hsl hog WO hWO hopen hvok hr hr1 hr2 hrN u1 u2 u3 u4 hok hcc
        go_enter Tryz.func18, Tryz.ntmps18
        go_wp2_with fail
        refine HL.out.mono ?_
        rintro e w1 ⟨rfl, rfl⟩
        go_wp2_with fail
        refine HWO.out.mono ?_
        rintro e w2 ⟨L, rfl, hp, hk⟩
        obtain ⟨hn1, hn2⟩ := NEW.out L w2 hp
        have HNG := hidm hn1
        have HNK := hidm (hk.trans hn2)
        clear hp hk hn1 hn2
        go_wp2_with fail
        unfold pcells at HNG HNK
        rw [← HLG.out, ← HRN.out] at HNG HNK
        refine (RD.out _ L _ HNG.out).mono ?_
        rintro e w4 ⟨rfl, ⟨g', hp, hg⟩, hk⟩
        clear hg
        obtain ⟨M4, hl4, _⟩ := hp.ex
        have HM4 := hidm ((pair_mine hl4).1.less2 (fun k hk => .inl hk))
        have HK4 := hidm (HNK.out.trans hk)
        clear hp hk hl4
        go_wp2_with fail
        go_ret2
        exact .inr ⟨by trivial, rfl, HM4.out, HK4.out⟩
end
end Pgr
end Go.Proofs.YtmccnlffikegfaaGreatDoor
/- A pager that lives, with all that its disk may have been through; its calls; texts. Conditions: as each says. -/
namespace Go.Proofs.YtmccnlffikegfaaGreatDoor
open Go.RowKit
namespace Pgr
open Wal (Pair PL R sealB sbody slot np wrs Cn tot openedG slF pair_mine)
open Dsk (PD Mine KeepQ Only below_keeps cell_later sec vals pad zeros upd IntsAt ints BoolsAt)
open Crc (S S_of S_size)
/-- A pager lives: pages V, changes ch; if u, its disk has no fuse. -/
structure Lv (W : World) (Q : Nat → Prop) (P L D n N K : Nat) (u : Bool) (ch : Ch) (V : Nat → List UInt8) (w : World) : Prop where
  ex : ∃ d t b, Pg W Q P L D ⟨2 + n, N, ch, false⟩ ⟨0, n, t, [], 0, false⟩ d w ∧ Calm n N K t b d V ∧ d.wr ≤ K ∧ d.fl ≤ K ∧ (u = true → d.fu = false)
/-- A disk at rest, that is a pager's. -/
structure Re (W : World) (Q : Nat → Prop) (D n N K : Nat) (V : Nat → List UInt8) (w : World) : Prop where
  ex : ∃ d, Mine W Q D d w ∧ d.n = 2 + n + N ∧ Rs n N K d.f V ∧ d.cs = [] ∧ d.wr ≤ K ∧ d.fl ≤ K ∧ d.fu = false
section
variable {W : World} {Q : Nat → Prop} {P L D n N K : Nat} {u : Bool} {ch : Ch} {V : Nat → List UInt8} {v : PV} {g : PL} {d : PD} {w w' : World}
theorem Lv.later (h : Lv W Q P L D n N K u ch V w) (hb : Below w.heap.size w w') : Lv W Q P L D n N K u ch V w' := by
  obtain ⟨d, t, b, hp, r⟩ := h.ex
  exact ⟨d, t, b, hp.later hb, r⟩
theorem Lv.guardO {T : Nat → Prop} (h : Lv W Q P L D n N K u ch V w) (ho : Only T w w') (hT : ∀ k, T k → Q k ∧ W.heap.size ≤ k) : Lv W (fun k => Q k ∨ (w.heap.size ≤ k ∧ k < w'.heap.size)) P L D n N K u ch V w' := by
  obtain ⟨d, t, b, hp, r⟩ := h.ex
  exact ⟨d, t, b, hp.guardO ho hT, r⟩
theorem Lv.guard (h : Lv W Q P L D n N K u ch V w) (hb : Below w.heap.size w w') : Lv W (fun k => Q k ∨ (w.heap.size ≤ k ∧ k < w'.heap.size)) P L D n N K u ch V w' := h.guardO (T := fun _ => False) (.of hb) (fun _ e => e.elim)
theorem Lv.less {Q' : Nat → Prop} (h : Lv W Q P L D n N K u ch V w) (hQ : ∀ k, Q' k → Q k) : Lv W Q' P L D n N K u ch V w := by
  obtain ⟨d, t, b, hp, r⟩ := h.ex
  exact ⟨d, t, b, hp.less hQ, r⟩
theorem Lv.kept (h : Lv W Q P L D n N K u ch V w) (hb : Below w.heap.size w w') : KeepQ Q w w' := by
  obtain ⟨d, t, b, hp, r⟩ := h.ex
  exact hp.kept hb
theorem Lv.bel (h : Lv W Q P L D n N K u ch V w) : Below W.heap.size W w := by
  obtain ⟨d, t, b, hp, r⟩ := h.ex
  exact hp.bel
theorem Lv.qlt (h : Lv W Q P L D n N K u ch V w) : ∀ k, Q k → k < w.heap.size := by
  obtain ⟨d, t, b, hp, r⟩ := h.ex
  exact hp.qlt
theorem Lv.ok (h : Lv W Q P L D n N K u ch V w) : 1 ≤ N ∧ N ≤ 1024 ∧ Ok N ch := by
  obtain ⟨d, t, b, hp, r⟩ := h.ex
  exact ⟨hp.ok.2.1, hp.ok.2.2.1, hp.ok.2.2.2⟩
theorem see_is {ch : Ch} {t b : Nat} {d : PD} (hc : Calm n N K t b d V) {k : Nat} (hk : k < N) : Pg.see ⟨2 + n, N, ch, false⟩ d k = over ch V k := over_congr (fun _ => hc.pgs k hk)
theorem Lv.len (h : Lv W Q P L D n N K u ch V w) {k : Nat} (hk : k < N) : (over ch V k).length = 128 := by
  obtain ⟨d, t, b, hp, hc, _⟩ := h.ex
  rw [← see_is hc hk]; exact hp.see_len k
theorem Lv.read (h : Lv W Q P L D n N K u ch V w) (k : Nat) (hk : k < N) : Calls Tryz.prog 42 #[.pointer (some ⟨P, 0, none⟩), .int .i64 (k : Int)] w fun e w' => e = .returned (.tuple #[.string (S (over ch V k)), .int .i64 0]) ∧ Below w.heap.size w w' := by
  obtain ⟨d, t, b, hp, hc, _⟩ := h.ex
  have := read_in k hp hk
  rw [see_is hc hk] at this
  exact this
theorem Lv.plen (h : Lv W Q P L D n N K u ch V w) : Calls Tryz.prog 39 #[.pointer (some ⟨P, 0, none⟩)] w fun e w' => e = .returned (.int .i64 (N : Int)) ∧ w = w' := by
  obtain ⟨d, t, b, hp, _⟩ := h.ex
  exact plen_any hp
theorem Lv.frees (h : Lv W Q P L D n N K u ch V w) : Calls Tryz.prog 14 #[.pointer (some ⟨P, 0, none⟩)] w fun e w' => e = .returned (.int .i64 (freeN (over ch V 0) N : Int)) ∧ Below w.heap.size w w' := by
  have h0 := h.ok.1
  obtain ⟨d, t, b, hp, hc, _⟩ := h.ex
  have := frees_in hp
  rw [see_is hc (by omega)] at this
  exact this
theorem Lv.isfree (h : Lv W Q P L D n N K u ch V w) (k : Nat) (hk : k < N) : Calls Tryz.prog 40 #[.pointer (some ⟨P, 0, none⟩), .int .i64 (k : Int)] w fun e w' => e = .returned (.bool (!useB (over ch V 0) k)) ∧ Below w.heap.size w w' := by
  obtain ⟨d, t, b, hp, hc, _⟩ := h.ex
  have := isfree_in k hp hk
  rw [see_is hc (by omega)] at this
  exact this
theorem Lv.write (h : Lv W Q P L D n N K u ch V w) (k : Nat) (s : ByteArray) (hs : s.size ≤ 128) (hk : k < N) (h0 : k ≠ 0) : Calls Tryz.prog 51 #[.pointer (some ⟨P, 0, none⟩), .int .i64 (k : Int), .string s] w fun e w' => e = .returned (.int .i64 0) ∧ Lv W Q P L D n N K u (put ch k (pad s.data.toList)) V w' ∧ KeepQ Q w w' := by
  obtain ⟨d, t, b, hp, hc, r⟩ := h.ex
  exact (write_in k s hs hp hk h0).mono fun e w' ⟨he, hp', hk'⟩ => ⟨he, ⟨d, t, b, hp', hc, r⟩, hk'⟩
theorem Lv.write_off (h : Lv W Q P L D n N K u ch V w) (k : Int) (s : ByteArray) (hk : off N k) : Calls Tryz.prog 51 #[.pointer (some ⟨P, 0, none⟩), .int .i64 k, .string s] w fun e w' => e = .returned (.int .i64 2) ∧ w = w' := by
  obtain ⟨d, t, b, hp, _⟩ := h.ex
  exact Pgr.write_off k s hp hk
theorem Lv.write_zero (h : Lv W Q P L D n N K u ch V w) (s : ByteArray) : Calls Tryz.prog 51 #[.pointer (some ⟨P, 0, none⟩), .int .i64 0, .string s] w fun e w' => e = .returned (.int .i64 1) ∧ w = w' := by
  obtain ⟨d, t, b, hp, _⟩ := h.ex
  exact Pgr.write_zero s hp
theorem Lv.write_big (h : Lv W Q P L D n N K u ch V w) (k : Nat) (s : ByteArray) (hs : 128 < s.size) (hk : k < N) (h0 : k ≠ 0) : Calls Tryz.prog 51 #[.pointer (some ⟨P, 0, none⟩), .int .i64 (k : Int), .string s] w fun e w' => e = .returned (.int .i64 19) ∧ w = w' := by
  obtain ⟨d, t, b, hp, _⟩ := h.ex
  exact Pgr.write_big k s hs hp hk h0
/-- What the changes are behind an Alloc of page k. -/
def allocCh (ch : Ch) (m : List UInt8) (k : Nat) : Ch := put (put ch 0 (takeB m k)) k zeros
theorem Lv.alloc (h : Lv W Q P L D n N K u ch V w) : Calls Tryz.prog 41 #[.pointer (some ⟨P, 0, none⟩)] w fun e w' =>
    (∃ k : Nat, k < N ∧ k ≠ 0 ∧ useB (over ch V 0) k = false ∧ (∀ j, j < k → useB (over ch V 0) j = true) ∧ e = .returned (.tuple #[.int .i64 (k : Int), .int .i64 0]) ∧ Lv W Q P L D n N K u (allocCh ch (over ch V 0) k) V w' ∧ KeepQ Q w w') ∨
      ((∀ j, j < N → useB (over ch V 0) j = true) ∧ e = .returned (.tuple #[.int .i64 0, .int .i64 3]) ∧ Below w.heap.size w w') := by
  have h0 := h.ok.1
  obtain ⟨d, t, b, hp, hc, r⟩ := h.ex
  have := alloc_in hp
  rw [see_is hc (by omega)] at this
  refine this.mono fun e w' h1 => ?_
  rcases h1 with ⟨k, a1, a2, a3, a4, a5, a6, a7⟩ | h1
  · exact .inl ⟨k, a1, a2, a3, a4, a5, ⟨d, t, b, a6, hc, r⟩, a7⟩
  · exact .inr h1
theorem Lv.free (h : Lv W Q P L D n N K u ch V w) (k : Nat) (hk : k < N) (h0 : k ≠ 0) (hu : useB (over ch V 0) k = true) : Calls Tryz.prog 57 #[.pointer (some ⟨P, 0, none⟩), .int .i64 (k : Int)] w fun e w' => e = .returned (.int .i64 0) ∧ Lv W Q P L D n N K u (put ch 0 (giveB (over ch V 0) k)) V w' ∧ KeepQ Q w w' := by
  obtain ⟨d, t, b, hp, hc, r⟩ := h.ex
  have := free_in k hp hk h0 (by rw [see_is hc (by omega)]; exact hu)
  rw [see_is hc (by omega)] at this
  exact this.mono fun e w' ⟨he, hp', hk'⟩ => ⟨he, ⟨d, t, b, hp', hc, r⟩, hk'⟩
theorem Lv.free_idle (h : Lv W Q P L D n N K u ch V w) (k : Nat) (hk : k < N) (h0 : k ≠ 0) (hu : useB (over ch V 0) k = false) : Calls Tryz.prog 57 #[.pointer (some ⟨P, 0, none⟩), .int .i64 (k : Int)] w fun e w' => e = .returned (.int .i64 6) ∧ Below w.heap.size w w' := by
  obtain ⟨d, t, b, hp, hc, r⟩ := h.ex
  exact Pgr.free_idle k hp hk h0 (by rw [see_is hc (by omega)]; exact hu)
theorem Lv.free_zero (h : Lv W Q P L D n N K u ch V w) : Calls Tryz.prog 57 #[.pointer (some ⟨P, 0, none⟩), .int .i64 0] w fun e w' => e = .returned (.int .i64 1) ∧ w = w' := by
  obtain ⟨d, t, b, hp, _⟩ := h.ex
  exact Pgr.free_zero hp
theorem run_prefix (d : PD) (l : List Step) : ∃ p q, l = p ++ q ∧ (run d l).2 = exec d p ∧ ((run d l).1 = true → p = l) := by
  rcases run_cases l d with h | ⟨p, q, h1, _, h3⟩
  · exact ⟨l, [], by simp, by rw [h], fun _ => rfl⟩
  · exact ⟨p, q, h1, by rw [h3], fun e => by rw [h3] at e; cases e⟩
theorem commitS_len (n t : Nat) (ch : Ch) : (commitS n t ch).length = np (record ch) + ch.length + 4 := by
  unfold commitS tailS
  simp only [List.length_append, plws_len, pws_len, List.length_cons, List.length_nil]
  omega
/-- A pager that a commit has halted: a crash leaves the pages V, or V'. -/
structure Hv (W : World) (Q : Nat → Prop) (P L D n N K : Nat) (ch : Ch) (V V' : Nat → List UInt8) (w : World) : Prop where
  ex : ∃ g d, Pg W Q P L D ⟨2 + n, N, ch, true⟩ g d w ∧ (∀ ks, Rs n N K (d.crash ks).f V ∨ Rs n N K (d.crash ks).f V') ∧ d.wr ≤ K ∧ d.fl ≤ K ∧ d.cs.length ≤ K
/-- What a commit comes to. -/
def CommitL (W : World) (Q : Nat → Prop) (P L D n N K : Nat) (u : Bool) (ch : Ch) (V : Nat → List UInt8) (w : World) (e : Ending) (w' : World) : Prop :=
  (e = .returned (.int .i64 0) ∧ Lv W Q P L D n N (K + 3000) u [] (over ch V) w' ∧ KeepQ Q w w') ∨ (u = false ∧ e = .returned (.int .i64 6) ∧ Hv W Q P L D n N (K + 3000) ch V (over ch V) w' ∧ KeepQ Q w w')
theorem Calm.more {t b K' : Nat} (h : Calm n N K t b d V) (hK : K ≤ K') : Calm n N K' t b d V := ⟨h.life, h.cs, h.bt, Nat.le_trans h.tT hK, h.pgs⟩
theorem Lv.more {K' : Nat} (h : Lv W Q P L D n N K u ch V w) (hK : K ≤ K') : Lv W Q P L D n N K' u ch V w := by
  obtain ⟨d, t, b, hp, hc, h1, h2, h3⟩ := h.ex
  exact ⟨d, t, b, hp, hc.more hK, by omega, by omega, h3⟩
theorem Hv.more {K' : Nat} {V' : Nat → List UInt8} (h : Hv W Q P L D n N K ch V V' w) (hK : K ≤ K') : Hv W Q P L D n N K' ch V V' w := by
  obtain ⟨g, d, hp, hc, h1, h2, h3⟩ := h.ex
  exact ⟨g, d, hp, fun ks => (hc ks).imp (fun x => x.more hK) (fun x => x.more hK), by omega, by omega, by omega⟩
theorem Lv.commit (h : Lv W Q P L D n N K u ch V w) (hn : n ≤ 998) (hr : np (record ch) ≤ n) (hK : K ≤ 700000) : Calls Tryz.prog 20 #[.pointer (some ⟨P, 0, none⟩)] w fun e w' => CommitL W Q P L D n N K u ch V w e w' := by
  by_cases he : ch = []
  · subst he
    obtain ⟨d, t, b, hp, hc, r⟩ := h.ex
    refine (pcommit_idle hp rfl rfl).mono fun e w' h1 => ?_
    obtain ⟨he, rfl⟩ := h1
    exact .inl ⟨he, h.more (by omega), fun _ _ => rfl⟩
  · obtain ⟨d, t, b, hp, hc, hw, hf, hfu⟩ := h.ex
    have htT := hc.tT
    have hok := hp.ok.2.2.2
    have hcnt : ch.length ≤ N := hok.count
    have hN : N ≤ 1024 := hp.ok.2.2.1
    refine (pcommit_in hp rfl he rfl (by omega) (by omega) hr (by rw [hc.cs]; exact Nat.zero_le _) (by omega) (by omega)).mono fun e w' h1 => ?_
    obtain ⟨c1, c2⟩ := commit_crash (T := K + 3000) (hc.more (by omega)) (by omega) (by omega) (by omega) hok hr
    obtain ⟨f1, f2, f3, f4, f5⟩ := run_few (commitS n t ch) d
    rw [commitS_len, hc.cs] at f2
    rw [commitS_len] at f3 f4
    rw [List.length_nil] at f2
    obtain ⟨p, q, hpq, hex, hall⟩ := run_prefix d (commitS n t ch)
    rcases h1 with ⟨e1, e2, e3, e4⟩ | ⟨e1, e2, ⟨g', e3⟩, e4⟩
    · refine .inl ⟨e1, ⟨_, t + 1, t + 1, e3, ?_, (show (run d (commitS n t ch)).2.wr ≤ K + 3000 by omega), (show (run d (commitS n t ch)).2.fl ≤ K + 3000 by omega), fun hu => f5.trans (hfu hu)⟩, e4⟩
      have : (run d (commitS n t ch)).2 = exec d (commitS n t ch) := by rw [hex, hall e2]
      show Calm n N (K + 3000) (t + 1) (t + 1) (run d (commitS n t ch)).2 _
      rw [this]; exact c2
    · cases hu : u with
      | true =>
        have := run_open (commitS n t ch) d (hfu hu)
        change (run d (commitS n t ch)).1 = false at e2
        rw [this] at e2
        cases e2
      | false =>
        refine .inr ⟨rfl, e1, ⟨g', _, e3, fun ks => ?_, (show (run d (commitS n t ch)).2.wr ≤ K + 3000 by omega), (show (run d (commitS n t ch)).2.fl ≤ K + 3000 by omega), (show (run d (commitS n t ch)).2.cs.length ≤ K + 3000 by omega)⟩, e4⟩
        show Rs n N (K + 3000) ((run d (commitS n t ch)).2.crash ks).f V ∨ Rs n N (K + 3000) ((run d (commitS n t ch)).2.crash ks).f (over ch V)
        rw [hex]
        exact c1 p q hpq ks
/-! ### A crash, an Open -/
theorem mine_of (h : Pg W Q P L D v g d w) : Mine W Q D d w := by
  obtain ⟨M, hl, _⟩ := h.ex
  exact (pair_mine hl).1.less2 (fun k hk => .inl hk)
theorem crash_fu (d : PD) (ks : List Bool) : (d.crash ks).n = d.n ∧ (d.crash ks).cs = [] ∧ (d.crash ks).wr = d.wr ∧ (d.crash ks).fl = d.fl ∧ (d.crash ks).fu = false := ⟨rfl, rfl, rfl, rfl, rfl⟩
theorem Re.later (h : Re W Q D n N K V w) (hb : Below w.heap.size w w') : Re W Q D n N K V w' := by
  obtain ⟨d, hm, r⟩ := h.ex
  exact ⟨d, hm.later hb, r⟩
theorem Re.new (hN : 1 ≤ N) (h : Mine W Q D (PD.new (2 + n + N)) w) : Re W Q D n N 0 (fun _ => zeros) w :=
  ⟨_, h, rfl, ⟨0, 0, [], Cn.new 0 n (2 + n + N), Nat.le_refl _, Nat.le_refl _, .inl ⟨rfl, fun _ _ => rfl⟩⟩, rfl, Nat.le_refl _, Nat.le_refl _, (have := hN; rfl)⟩
theorem Rs.oc {K : Nat} {f : Int → List UInt8} (h : Rs n N K f V) : ∃ t b A oc, Cn 0 n t b f A ∧ b ≤ t ∧ t ≤ K ∧ ((oc = none ∧ A = [] ∧ ∀ i, i < N → pg (2 + n) f i = V i) ∨ ∃ t0 ch, oc = some ch ∧ A = [(t0, record ch)] ∧ Ok N ch ∧ ∀ i, i < N → over ch (pg (2 + n) f) i = V i) := by
  obtain ⟨t, b, A, h1, h2, h3, h4⟩ := h
  rcases h4 with ⟨e, hv⟩ | ⟨t0, ch, e, ho, hv⟩
  · exact ⟨t, b, A, none, h1, h2, h3, .inl ⟨rfl, e, hv⟩⟩
  · exact ⟨t, b, A, some ch, h1, h2, h3, .inr ⟨t0, ch, rfl, e, ho, hv⟩⟩
theorem openS_len (n t b : Nat) (oc : Option Ch) (hoc : ∀ ch, oc = some ch → Ok N ch) : (openS n t b oc).length ≤ N + 5 := by
  cases oc with
  | none => show 2 + 0 ≤ _; omega
  | some ch =>
    have := (hoc ch rfl).count
    unfold openS tailS
    simp only [List.length_append, pws_len, List.length_cons, List.length_nil]
    omega
theorem Re.open (h : Re W Q D n N K V w) (hn : 2 ≤ n ∧ n ≤ 998) (hN : 1 ≤ N ∧ N ≤ 1024) (hK : K ≤ 600000) (lg : Nat) (hlg : lg = 2 + n) :
    Calls Tryz.prog 18 #[.pointer (some ⟨D, 0, none⟩), .int .i64 (lg : Int)] w fun e w' => ∃ P L, e = .returned (.tuple #[.pointer (some ⟨P, 0, none⟩), .int .i64 0]) ∧ Lv W Q P L D n N (K + 2000) true [] V w' ∧ KeepQ Q w w' := by
  obtain ⟨d, hm, hdn, hrs, hcs, hw, hf, hfu⟩ := h.ex
  obtain ⟨t, b, A, oc, hcn, hbt, htK, hA⟩ := hrs.oc
  have hA' : (oc = none ∧ A = []) ∨ ∃ t0 ch, oc = some ch ∧ A = [(t0, record ch)] ∧ Ok N ch := by
    rcases hA with ⟨h1, h2, _⟩ | ⟨t0, ch, h1, h2, h3, _⟩
    · exact .inl ⟨h1, h2⟩
    · exact .inr ⟨t0, ch, h1, h2, h3⟩
  have hlen := openS_len (N := N) n t b oc (fun ch hch => by
    rcases hA' with ⟨h1, _⟩ | ⟨t0, c2, h1, _, h3⟩
    · rw [h1] at hch; cases hch
    · rw [h1] at hch; cases hch; exact h3)
  refine (popen_in hm hcn oc hA' hdn hn hN (by omega) (by rw [hcs]; exact Nat.zero_le _) (by omega) (by omega) lg hlg).mono fun e w' h1 => ?_
  obtain ⟨_, b', hb', hcalm⟩ := open_crash (T := K + 2000) hcn hcs hbt (by omega) (by omega) oc hA
  have hro := run_open (openS n t b oc) d hfu
  obtain ⟨f1, f2, f3, f4, f5⟩ := run_few (openS n t b oc) d
  rcases h1 with ⟨e1, P, L, e2, e3, e4⟩ | ⟨e1, _⟩
  · refine ⟨P, L, e2, ⟨_, _, b', e3, ?_, by omega, by omega, fun _ => f5.trans hfu⟩, e4⟩
    rw [hro]; exact hcalm
  · rw [hro] at e1; cases e1
/-- An Open that a fuse may cut off. -/
structure Ho (W : World) (Q : Nat → Prop) (D n N K : Nat) (V : Nat → List UInt8) (w : World) : Prop where
  ex : ∃ d, Mine W Q D d w ∧ d.n = 2 + n + N ∧ (∀ ks, Rs n N K (d.crash ks).f V) ∧ d.wr ≤ K ∧ d.fl ≤ K ∧ d.cs.length ≤ K
theorem Ho.later (h : Ho W Q D n N K V w) (hb : Below w.heap.size w w') : Ho W Q D n N K V w' := by
  obtain ⟨d, hm, r⟩ := h.ex
  exact ⟨d, hm.later hb, r⟩
/-- What a crash may leave: the pages V, or V'. -/
structure H2 (W : World) (Q : Nat → Prop) (D n N K : Nat) (V V' : Nat → List UInt8) (w : World) : Prop where
  ex : ∃ d, Mine W Q D d w ∧ d.n = 2 + n + N ∧ (∀ ks, Rs n N K (d.crash ks).f V ∨ Rs n N K (d.crash ks).f V') ∧ d.wr ≤ K ∧ d.fl ≤ K ∧ d.cs.length ≤ K
theorem Hv.h2 {V' : Nat → List UInt8} (h : Hv W Q P L D n N K ch V V' w) : H2 W Q D n N K V V' w := by
  obtain ⟨g, d, hp, hc, r⟩ := h.ex
  exact ⟨d, mine_of hp, hp.fit.symm, hc, r⟩
theorem Lv.h2 (h : Lv W Q P L D n N K u ch V w) : H2 W Q D n N K V V w := by
  obtain ⟨d, t, b, hp, hc, hw, hf, _⟩ := h.ex
  exact ⟨d, mine_of hp, hp.fit.symm, fun ks => .inl (hc.rs ks), hw, hf, by rw [hc.cs]; exact Nat.zero_le _⟩
theorem H2.later {V' : Nat → List UInt8} (h : H2 W Q D n N K V V' w) (hb : Below w.heap.size w w') : H2 W Q D n N K V V' w' := by
  obtain ⟨d, hm, r⟩ := h.ex
  exact ⟨d, hm.later hb, r⟩
end
end Pgr
end Go.Proofs.YtmccnlffikegfaaGreatDoor
