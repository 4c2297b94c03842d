/- Texts; a log's life in memory: its calls without a fuse. Conditions: as each says. -/
import Derived.Test.YtpamffheapnoaaaWp
import Derived.Test.YtpamffheapnoaaaWc
namespace Go.Proofs.Ytpamffheapnoaaa
open Go.RowKit
namespace Wal
open Dsk (PD Mine KeepQ DiskIs Only Grow upd pad BoolsAt)
open Crc (S S_of S_size S_append S_add hidm)
def StrsAt (bs : List (List UInt8)) (sl : Value) (w : World) : Prop := ∃ ao cap, sl = .slice ao bs.length cap ∧ bs.length ≤ cap ∧ cap ≤ 9223372036854775807 ∧ (bs ≠ [] → ∃ b off, ao = some ⟨b, off, none⟩ ∧ b < w.heap.size ∧ ∀ j (h : j < bs.length), w.cell? ⟨b, off + j, none⟩ = some (.string (S bs[j])))
theorem StrsAt.later {bs : List (List UInt8)} {sl : Value} {w w' : World} (h : StrsAt bs sl w) (hb : Below w.heap.size w w') : StrsAt bs sl w' := by
  obtain ⟨ao, cap, h1, hc, hm, h2⟩ := h
  refine ⟨ao, cap, h1, hc, hm, fun hne => ?_⟩
  obtain ⟨b, off, h3, h4, h5⟩ := h2 hne
  exact ⟨b, off, h3, Nat.lt_of_lt_of_le h4 hb.size, fun j hj => by rw [hb.cell (p := ⟨b, off + j, none⟩) h4]; exact h5 j hj⟩
theorem StrsAt.at {bs : List (List UInt8)} {sl : Value} {w : World} (h : StrsAt bs sl w) (i : Nat) (hi : i < bs.length) : ∃ b off cap, sl = .slice (some ⟨b, off, none⟩) bs.length cap ∧ b < w.heap.size ∧ w.cell? ⟨b, off + i, none⟩ = some (.string (S bs[i])) := by
  obtain ⟨ao, cap, h1, _, _, h2⟩ := h
  obtain ⟨b, off, rfl, h4, h5⟩ := h2 (fun e => by rw [e] at hi; cases hi)
  exact ⟨b, off, cap, h1, h4, h5 i hi⟩
theorem StrsAt.form {bs : List (List UInt8)} {sl : Value} {w : World} (h : StrsAt bs sl w) : ∃ ao cap, sl = .slice ao bs.length cap ∧ bs.length ≤ cap ∧ cap ≤ 9223372036854775807 := by
  obtain ⟨ao, cap, h1, hc, hm, _⟩ := h
  exact ⟨ao, cap, h1, hc, hm⟩
/-- The first texts alone. -/
theorem StrsAt.take {bs : List (List UInt8)} {ao : Option Addr} {cap : Nat} {w : World} (h : StrsAt bs (.slice ao bs.length cap) w) (k c2 : Nat) (hk : k ≤ bs.length) (hc2 : k ≤ c2) (hcm : c2 ≤ 9223372036854775807) : StrsAt (bs.take k) (.slice ao k c2) w := by
  obtain ⟨ao', cap', h1, hc, hm, h2⟩ := h
  simp only [Value.slice.injEq, true_and] at h1
  obtain ⟨rfl, rfl⟩ := h1
  have hl : (bs.take k).length = k := by rw [List.length_take]; omega
  refine ⟨ao, c2, by rw [hl], by rw [hl]; exact hc2, hcm, fun hne => ?_⟩
  have hb : bs ≠ [] := fun e => hne (by rw [e]; simp)
  obtain ⟨b, off, h3, h4, h5⟩ := h2 hb
  refine ⟨b, off, h3, h4, fun j hj => ?_⟩
  rw [hl] at hj
  rw [h5 j (by omega)]
  simp
theorem StrsAt.of_owns {base : Nat} {bs : List (List UInt8)} {sl : Value} {w : World} (h : w.ownsRow base 9 1 sl bs.length (strs bs)) : StrsAt bs sl w := by
  obtain ⟨g, cap, rfl, hc, hm⟩ | ⟨hv, h0⟩ : (∃ g cap, sl = .slice (some ⟨g, 0, none⟩) bs.length cap ∧ bs.length ≤ cap ∧ cap ≤ 9223372036854775807) ∨ (sl = .slice none 0 0 ∧ bs.length = 0) := by
    rcases h.2 with h2 | ⟨g, cap, cur, hv, _, _, hc, hm, _⟩
    · exact .inr h2
    · exact .inl ⟨g, cap, hv, hc, by unfold maxLen at hm; omega⟩
  · refine ⟨_, cap, rfl, hc, hm, fun _ => ⟨g, 0, rfl, (h.lt g rfl).2, fun j hj => ?_⟩⟩
    rw [Nat.zero_add, h.cellAt j (by omega)]
    unfold strs; simp [hj]
  · have hcs := List.eq_nil_of_length_eq_zero h0
    subst hcs
    exact ⟨none, 0, hv, Nat.le_refl _, by omega, fun h => absurd rfl h⟩
set_option maxHeartbeats 4000000 in
set_option maxRecDepth 100000 in
theorem rtexts_same (bs : List (List UInt8)) (sa sb : Value) (w : World) (h1 : StrsAt bs sa w) (h2 : StrsAt bs sb w) :
    Calls Try.prog 22 #[sa, sb] w fun e w' => e = .returned (.bool true) ∧ Below w.heap.size w w' := by
  obtain ⟨ao, ac, rfl, hac, ham⟩ := h1.form
  obtain ⟨bo, bc, rfl, hbc, hbm⟩ := h2.form
  have H1 := hidm h1
  have H2 := hidm h2
  obtain ⟨n, hn⟩ : ∃ n, n = bs.length := ⟨_, rfl⟩
  have HN := hidm hn
  rw [← hn]
  have hnb : n ≤ 9223372036854775807 := by omega
  clear h1 h2 hac hbc ham hbm hn
  go_enter Try.func22, Try.ntmps22
  go_wp2_with fail
  go_loopw [5] (fun ii wr => ∃ i : Nat, ii = .int .i64 i ∧ i ≤ n ∧ Hid (Below w.heap.size w wr)) (fun ii _ => (n - (intOf ii).toNat))
  case atStart => exact ⟨0, rfl, by omega, hidm (Below.refl _ _)⟩
  case round =>
    obtain ⟨i, rfl, hi, HB⟩ := hrel
    rcases Nat.lt_or_ge i n with hlt | hge
    · have f1 : (i : Int) < n := by omega
      have hia : i < bs.length := by have := HN.out; omega
      obtain ⟨b1, o1, c1, he1, _, q0⟩ := (H1.out.later HB.out).at i hia
      obtain ⟨b2, o2, c2, he2, _, r0⟩ := (H2.out.later HB.out).at i hia
      simp only [Value.slice.injEq, true_and] at he1 he2
      obtain ⟨rfl, rfl⟩ := he1
      obtain ⟨rfl, rfl⟩ := he2
      obtain ⟨x, hx⟩ : ∃ x, x = bs[i] := ⟨_, rfl⟩
      rw [← hx] at q0 r0
      clear hx
      go_wp2_with fail
      go_quiet (fail)
      go_wp2_with fail
      go_roundw
      case rel => exact ⟨i + 1, by go_num, by omega, hidm (Dsk.dN HB.out _)⟩
      case measure => simp [intOf]; omega
    · obtain rfl : i = n := by omega
      have f1 : ¬ (i : Int) < i := by omega
      go_wp2_with fail
      go_ret
      exact ⟨rfl, HB.out⟩
theorem len_tot (A : List R) : A.length ≤ tot A := by
  induction A with
  | nil => exact Nat.le_refl _
  | cons r A ih =>
    have := np_pos r.2
    simp only [List.length_cons, tot]
    omega
/-- What a log at rest is when it is opened. -/
theorem Cn.opens {F n t b : Nat} {f : Int → List UInt8} {A : List R} (h : Cn F n t b f A) : slF F f = (t, b) ∧ openedG F n f = ⟨F, n, t + 1, A.map Prod.snd, tot A, false⟩ := by
  refine ⟨h.slots, ?_⟩
  have hr : readG F n f = ends 0 A := by
    unfold readG
    rw [h.slots]
    exact h.read
  unfold openedG
  rw [hr, h.slots, ends_map, lst_ends, Nat.zero_add]
/-- What the disk of a log may have been through. -/
structure Few (k N : Nat) (d : PD) : Prop where
  n : d.n = N
  cs : d.cs.length ≤ k
  wr : d.wr ≤ k
  fl : d.fl ≤ k
theorem Few.more {k k' N : Nat} {d : PD} (h : Few k N d) (hk : k ≤ k') : Few k' N d := ⟨h.n, Nat.le_trans h.cs hk, Nat.le_trans h.wr hk, Nat.le_trans h.fl hk⟩
/-- The log L on the disk D lives: A is there for sure, B was appended since; without a fuse. -/
structure Lg (W : World) (Q : Nat → Prop) (L D F n N k t b : Nat) (A B : List R) (w : World) : Prop where
  ex : ∃ d, Pair W Q L D ⟨F, n, t, (A ++ B).map Prod.snd, tot (A ++ B), false⟩ d w ∧ Life F n t b d A B ∧ Few k N d ∧ d.fu = false
  fit : F + 2 + n ≤ N
  few : k ≤ 800000
  top : t ≤ 1000000 ∧ b ≤ t ∧ n ≤ 1000
/-- A disk at rest that has a log. -/
structure Rest (W : World) (Q : Nat → Prop) (D F n N k t b : Nat) (A : List R) (w : World) : Prop where
  ex : ∃ d, Mine W Q D d w ∧ Cn F n t b d.f A ∧ Few k N d ∧ d.cs = [] ∧ d.fu = false
section
variable {W : World} {Q : Nat → Prop} {L D F n N k t b : Nat} {A B : List R} {w w' : World}
theorem Lg.later (h : Lg W Q L D F n N k t b A B w) (hb : Below w.heap.size w w') : Lg W Q L D F n N k t b A B w' := by
  obtain ⟨d, hp, h2⟩ := h.ex
  exact ⟨⟨d, hp.later hb, h2⟩, h.fit, h.few, h.top⟩
theorem Lg.bel (h : Lg W Q L D F n N k t b A B w) : Below W.heap.size W w := by
  obtain ⟨d, hp, h2⟩ := h.ex
  exact hp.bel
theorem Lg.guard (h : Lg W Q L D F n N k t b A B w) (hb : Below w.heap.size w w') : Lg W (fun k => Q k ∨ (w.heap.size ≤ k ∧ k < w'.heap.size)) L D F n N k t b A B w' := by
  obtain ⟨d, hp, h2⟩ := h.ex
  exact ⟨⟨d, hp.guard hb, h2⟩, h.fit, h.few, h.top⟩
theorem Lg.less {Q' : Nat → Prop} (h : Lg W Q L D F n N k t b A B w) (hQ : ∀ k, Q' k → Q k) : Lg W Q' L D F n N k t b A B w := by
  obtain ⟨d, hp, h2⟩ := h.ex
  exact ⟨⟨d, hp.less hQ, h2⟩, h.fit, h.few, h.top⟩
theorem Lg.gen (h : Lg W Q L D F n N k t b A B w) : Calls Try.prog 23 #[.pointer (some ⟨L, 0, none⟩)] w fun e w' => e = .returned (.int .i64 (t : Int)) ∧ w = w' := by
  obtain ⟨d, hp, h2⟩ := h.ex
  exact gen_any hp
theorem Lg.used (h : Lg W Q L D F n N k t b A B w) : Calls Try.prog 25 #[.pointer (some ⟨L, 0, none⟩)] w fun e w' => e = .returned (.int .i64 ((tot (A ++ B) : Nat) : Int)) ∧ w = w' := by
  obtain ⟨d, hp, h2⟩ := h.ex
  exact used_any hp
theorem Lg.fits (h : Lg W Q L D F n N k t b A B w) (m : Nat) (hm : m ≤ 9223372036854775807) : Calls Try.prog 26 #[.pointer (some ⟨L, 0, none⟩), .int .i64 (m : Int)] w fun e w' => e = .returned (.bool (decide ((m - 1) / 100 + 1 ≤ n - tot (A ++ B)))) ∧ Below w.heap.size w w' := by
  obtain ⟨d, hp, h2⟩ := h.ex
  exact fits_any m hm hp
theorem Lg.big (h : Lg W Q L D F n N k t b A B w) : ∀ x ∈ (A ++ B).map Prod.snd, x.length ≤ 1000000 := fun x hx => by
  obtain ⟨d, hp, h2, _⟩ := h.ex
  obtain ⟨r, hr, rfl⟩ := List.mem_map.1 hx
  have h3 := h2.bd.room
  have h4 := h.top.2.2
  have h5 : np r.2 ≤ tot (A ++ B) := by
    clear h2 h3 hp hx
    generalize A ++ B = X at hr
    induction X with
    | nil => cases hr
    | cons y X ih =>
      simp only [tot]
      rcases List.mem_cons.1 hr with e | e
      · rw [← e]; omega
      · have := ih e; omega
  have h6 := np_len r.2
  have h7 : tot (A ++ B) = tot A + tot B := tot_app A B
  omega
theorem Lg.records (h : Lg W Q L D F n N k t b A B w) : Calls Try.prog 21 #[.pointer (some ⟨L, 0, none⟩)] w fun e w' => ∃ ao c, e = .returned (.slice ao (A ++ B).length c) ∧ w'.ownsRow w.heap.size 9 1 (.slice ao (A ++ B).length c) (A ++ B).length (strs ((A ++ B).map Prod.snd)) ∧ Below w.heap.size w w' := by
  obtain ⟨d, hp, h2⟩ := h.ex
  have := records_any hp h.big
  have hl : ((A ++ B).map Prod.snd).length = (A ++ B).length := List.length_map _
  refine this.mono fun e w' h3 => ?_
  obtain ⟨ao, c, h4, h5, h6⟩ := h3
  have h4 : e = .returned (.slice ao ((A ++ B).map Prod.snd).length c) := h4
  have h5 : w'.ownsRow w.heap.size 9 1 (.slice ao ((A ++ B).map Prod.snd).length c) ((A ++ B).map Prod.snd).length (strs ((A ++ B).map Prod.snd)) := h5
  rw [hl] at h4 h5
  exact ⟨ao, c, h4, h5, h6⟩
theorem wrs_unfused {d : PD} (F t u : Nat) (s : List UInt8) (hf : d.fu = false) (j : Nat) : (wrs d F t u s j).burnt = false := by
  unfold PD.burnt
  rw [(wrs_is d F t u s j).2.2.2.2, hf]
  rfl
theorem wrs_bd {d : PD} {s : List UInt8} (h : Bd F n t b d A (B ++ [(t, s)])) (hu : tot A + tot B + np s ≤ n) (hcur : ∀ i, i < tot B + 0 → plF F d.f (tot A + i) = pat (B ++ [(t, s)]) i) (ht : t ≤ 1099511627776) (hn : n ≤ 1000) : ∀ j, j ≤ np s → Bd F n t b (wrs d F t (tot A + tot B) s j) A (B ++ [(t, s)]) ∧ ∀ i, i < tot B + j → plF F (wrs d F t (tot A + tot B) s j).f (tot A + i) = pat (B ++ [(t, s)]) i := by
  intro j
  induction j with
  | zero => exact fun _ => ⟨h, hcur⟩
  | succ j ih =>
    intro hj
    obtain ⟨h1, h2⟩ := ih (by omega)
    exact ⟨h1.wrote (by omega) rfl ht hn, cur_wrote h2 (by omega) rfl ht (by omega)⟩
theorem Lg.append (h : Lg W Q L D F n N k t b A B w) (s : ByteArray) (hf : np s.data.toList ≤ n - tot (A ++ B)) (hk : k + 1000 ≤ 800000) : Calls Try.prog 17 #[.pointer (some ⟨L, 0, none⟩), .string s] w fun e w' => e = .returned (.int .i64 0) ∧ Lg W Q L D F n N (k + 1000) t b A (B ++ [(t, s.data.toList)]) w' ∧ KeepQ Q w w' := by
  obtain ⟨d, hp, hl, hw, hfu⟩ := h.ex
  have hT : tot (A ++ B) = tot A + tot B := tot_app A B
  have hroom := hl.bd.room
  have hnn := h.top.2.2
  have ht := h.top.1
  have hfew := h.few
  have hcs := hw.cs
  have hwr := hw.wr
  have hfl := hw.fl
  have hfit := h.fit
  have hN := hw.n
  have hc := append_any s hp rfl hf (by show ((A ++ B).map Prod.snd).length ≤ tot (A ++ B); rw [List.length_map]; exact len_tot _) (by show F + 2 + n ≤ d.n; omega) (by omega) (by omega)
  refine hc.mono fun e w' h1 => ?_
  obtain ⟨h1, hkq⟩ := h1
  rcases h1 with ⟨he, hp', _⟩ | ⟨j, hj, _, _, hbz⟩
  · refine ⟨he, ⟨⟨wrs d F t (tot (A ++ B)) s.data.toList (np s.data.toList), ?_, ?_, ?_, ?_⟩, h.fit, hk, h.top⟩, hkq⟩
    · have e1 : (A ++ (B ++ [(t, s.data.toList)])).map Prod.snd = (A ++ B).map Prod.snd ++ [s.data.toList] := by rw [← List.append_assoc, List.map_append]; rfl
      have e2 : tot (A ++ (B ++ [(t, s.data.toList)])) = tot (A ++ B) + np s.data.toList := by rw [← List.append_assoc, tot_app]; rfl
      rw [e1, e2]
      exact hp'
    · rw [hT]
      have hb := hl.bd.record s.data.toList (by omega)
      obtain ⟨g1, g2⟩ := wrs_bd hb (by omega) (hl.start _) (by omega) hnn (np s.data.toList) (Nat.le_refl _)
      exact ⟨g1, fun i hi => g2 i (by rw [tot_app] at hi; exact hi)⟩
    · obtain ⟨g1, g2, g3, g4, g5⟩ := wrs_is d F t (tot (A ++ B)) s.data.toList (np s.data.toList)
      exact ⟨g1.trans hN, by omega, by omega, by omega⟩
    · rw [(wrs_is d F t (tot (A ++ B)) s.data.toList (np s.data.toList)).2.2.2.2]; exact hfu
  · have h9 := wrs_unfused F t (tot (A ++ B)) s.data.toList hfu j
    rw [show (wrs d F t (tot (A ++ B)) s.data.toList j).burnt = true from hbz] at h9
    cases h9
theorem Lg.full (h : Lg W Q L D F n N k t b A B w) (s : ByteArray) (hs : s.size ≤ 1099511627776) (hf : ¬ np s.data.toList ≤ n - tot (A ++ B)) : Calls Try.prog 17 #[.pointer (some ⟨L, 0, none⟩), .string s] w fun e w' => e = .returned (.int .i64 3) ∧ Below w.heap.size w w' := by
  obtain ⟨d, hp, hl, hw, hfu⟩ := h.ex
  exact append_full s hs hp rfl hf
theorem Lg.commit (h : Lg W Q L D F n N k t b A B w) (hk : k + 1 ≤ 800000) : Calls Try.prog 18 #[.pointer (some ⟨L, 0, none⟩)] w fun e w' => e = .returned (.int .i64 0) ∧ Lg W Q L D F n N (k + 1) t b (A ++ B) [] w' ∧ KeepQ Q w w' := by
  obtain ⟨d, hp, hl, hw, hfu⟩ := h.ex
  have hfl := hw.fl
  have hbu : d.burnt = false := by unfold PD.burnt; rw [hfu]; rfl
  refine (commit_on hp rfl hbu (by have := h.few; omega)).mono fun e w' h1 => ?_
  obtain ⟨he, hp', hkq⟩ := h1
  refine ⟨he, ⟨⟨d.flush.burn, by rw [List.append_nil]; exact hp', hl.flush rfl rfl, ⟨hw.n, Nat.zero_le _, Nat.le_succ_of_le hw.wr, Nat.succ_le_succ hw.fl⟩, hfu⟩, h.fit, hk, h.top⟩, hkq⟩
theorem Lg.reset (h : Lg W Q L D F n N k t b A B w) (hk : k + 1 ≤ 800000) (ht : t + 1 ≤ 1000000) : Calls Try.prog 24 #[.pointer (some ⟨L, 0, none⟩)] w fun e w' => e = .returned (.int .i64 0) ∧ Lg W Q L D F n N (k + 1) (t + 1) (t + 1) [] [] w' ∧ KeepQ Q w w' := by
  obtain ⟨d, hp, hl, hw, hfu⟩ := h.ex
  have hfl := hw.fl
  have hcs := hw.cs
  have hwr := hw.wr
  have hfit := h.fit
  have hN := hw.n
  have hbu : d.burnt = false := by unfold PD.burnt; rw [hfu]; rfl
  refine (reset_on hp rfl (by show t < _; omega) (by show F + 1 < d.n; omega) hbu (by show (d.fu && _) = false; rw [hfu]; rfl) (by omega) (by omega) (by omega)).mono fun e w' h1 => ?_
  obtain ⟨he, hp', hkq⟩ := h1
  refine ⟨he, ⟨⟨_, hp', hl.reset (by omega) rfl rfl, ⟨hw.n, Nat.zero_le _, Nat.succ_le_succ hw.wr, Nat.succ_le_succ hw.fl⟩, hfu⟩, h.fit, hk, ⟨ht, Nat.le_refl _, h.top.2.2⟩⟩, hkq⟩
theorem Rest.later (h : Rest W Q D F n N k t b A w) (hb : Below w.heap.size w w') : Rest W Q D F n N k t b A w' := by
  obtain ⟨d, hm, h2⟩ := h.ex
  exact ⟨d, hm.later hb, h2⟩
theorem Rest.new (h : Mine W Q D (PD.new N) w) : Rest W Q D F n N 0 0 0 [] w := ⟨PD.new N, h, Cn.new F n N, ⟨rfl, Nat.le_refl _, Nat.le_refl _, Nat.le_refl _⟩, rfl, rfl⟩
theorem Rest.open (h : Rest W Q D F n N k t b A w) (m : Nat) (hm : m = n + 2) (hn : 2 ≤ n ∧ n ≤ 998) (hN : F + 2 + n ≤ N) (ht : t + 1 ≤ 1000000) (hb : b ≤ t) (hk : k + 1 ≤ 800000) :
    Calls Try.prog 15 #[.pointer (some ⟨D, 0, none⟩), .int .i64 (F : Int), .int .i64 (m : Int)] w fun e w' => ∃ L, e = .returned (.tuple #[.pointer (some ⟨L, 0, none⟩), .int .i64 0]) ∧ Lg W Q L D F n N (k + 1) (t + 1) b A [] w' ∧ KeepQ Q w w' ∧ w.heap.size ≤ L := by
  obtain ⟨d, hmm, hcn, hw, hc0, hfu⟩ := h.ex
  obtain ⟨hs, hg⟩ := hcn.opens
  have hfl := hw.fl
  have hcs := hw.cs
  have hwr := hw.wr
  have hdn := hw.n
  refine (open_any hmm F m n (by omega) hm (by omega) hfu (by rw [hs]; show t < _; omega) (by omega) (by omega) (by omega)).mono fun e w' h1 => ?_
  obtain ⟨L, he, hp, hkq, hL⟩ := h1
  obtain ⟨o1, o2, o3, o4, o5, o6⟩ := opened_is (d := d) F hfu
  rw [hs] at o2
  rw [hg] at hp
  refine ⟨L, he, ⟨⟨opened d F, by rw [List.append_nil]; exact hp, hcn.opened hb (by omega) o2 o3, ⟨o1.trans hdn, by rw [o3]; exact Nat.zero_le _, by rw [o4]; omega, by rw [o5]; omega⟩, o6⟩, hN, hk, ⟨ht, by omega, by omega⟩⟩, hkq, hL⟩
/-- The disk beneath a log. -/
theorem Lg.beneath (h : Lg W Q L D F n N k t b A B w) : ∃ (U : Nat → Prop) (d : PD), Mine W (fun j => Q j ∨ U j) D d w ∧ Life F n t b d A B ∧ Few k N d ∧ d.fu = false := by
  obtain ⟨d, hp, hl, hw, hfu⟩ := h.ex
  obtain ⟨U, sl, hm, _, _⟩ := hp.ex
  exact ⟨U, d, hm, hl, hw, hfu⟩
end
end Wal
end Go.Proofs.Ytpamffheapnoaaa
