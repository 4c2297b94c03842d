/- What the program's index keeps to, as a contract; the law's build under it. Conditions: less than a thousand items, texts no longer than 2^47. -/
import Derived.Test.YtapdhelioecneaaU9
namespace Go.Proofs.Ytapdhelioecneaa
open Go.RowKit
namespace Idx
/-- Items that an index has here: in order, not too many. -/
structure Fit (b : Nat) (L : List It) : Prop where
  ok : Ok L
  n : L.length ≤ b
  kb : Kb L
theorem Fit.mono {b c : Nat} {L : List It} (h : Fit b L) (hc : b ≤ c) : Fit c L := ⟨h.ok, Nat.le_trans h.n hc, h.kb⟩
theorem fit_nil (b : Nat) : Fit b [] := ⟨ok_nil, Nat.zero_le _, fun i h => by cases h⟩
theorem Fit.ins {b : Nat} {L : List It} (h : Fit b L) {i : It} (hi : i.k.length ≤ 140737488351232) : Fit (b + 1) (insL L i) := by
  refine ⟨ok_ins h.ok i, ?_, ?_⟩
  · unfold insL; split
    · have := h.n; unfold Idx.ins; simp only [List.length_append, List.length_cons, List.length_take, List.length_drop]; omega
    · have := h.n; omega
  · unfold insL; split
    · intro x hx; rcases mem_ins.1 hx with rfl | hx
      · exact hi
      · exact h.kb x hx
    · exact h.kb
theorem Fit.del {b : Nat} {L : List It} (h : Fit b L) (k : List UInt8) (s : Int) : Fit b (delL L k s) := by
  refine ⟨ok_del h.ok k s, ?_, ?_⟩
  · unfold delL; split
    · have := h.n; unfold Idx.del; simp only [List.length_append, List.length_take, List.length_drop]; omega
    · exact h.n
  · unfold delL; split
    · intro x hx; exact h.kb x (mem_del hx)
    · exact h.kb
theorem Fit.clo {b : Nat} {L : List It} (h : Fit b L) (k : List UInt8) (s e : Int) : Fit b (cloL L k s e) := by
  refine ⟨ok_clo h.ok k s e, ?_, ?_⟩
  · unfold cloL; split
    · have := h.n; unfold Idx.clo; rw [List.length_map]; exact this
    · exact h.n
  · unfold cloL; split
    · intro x hx
      obtain ⟨y, hy, rfl⟩ := List.mem_map.1 hx
      rw [(clo_key k s e y).1]; exact h.kb y hy
    · exact h.kb
/-- What a change of the program's index comes to. -/
def ChgX (PX : Nat → Int → (Nat → Prop) → List It → World → Prop) (R : Nat) (n : Int) (F : Nat → Prop) (c : Int) (L' : List It) (w : World) (e : Ending) (w' : World) : Prop := e = .returned (.int .i64 c) ∧ ∃ F', PX R n F' L' w' ∧ To F F' w w'
/-- What a question comes to: these items, in blocks of the call's own. -/
def AskX (L : List It) (w : World) (e : Ending) (w' : World) : Prop := ∃ v, e = .returned v ∧ ItemsAt L v w' ∧ (L ≠ [] → ∀ g, v.ownBlock = some g → w.heap.size ≤ g ∧ g < w'.heap.size) ∧ Below w.heap.size w w'
/-- A row of numbers that is read. -/
def IntsAt (l : List Int) (sl : Value) (w : World) : Prop := ∃ ao cap, sl = .slice ao l.length cap ∧ l.length ≤ cap ∧ cap ≤ 9223372036854775807 ∧ (l = [] ∨ ∃ b off, ao = some ⟨b, off, none⟩ ∧ b < w.heap.size ∧ ∀ (j : Nat) (h : j < l.length), w.cell? ⟨b, off + j, none⟩ = some (.int .i64 l[j]))
/-- How many items blocks may have: none is empty, none has more than twice the width, two neighbours have more than it together. -/
structure Blk (n : Int) (len : Nat) (l : List Int) : Prop where
  one : ∀ x, x ∈ l → 1 ≤ x ∧ x ≤ 2 * n
  two : ∀ (j : Nat) (h : j + 1 < l.length), n < l[j] + l[j + 1]
  sum : l.sum = len
theorem Blk.short {n : Int} {len : Nat} {l : List Int} (h : Blk n len l) : l.length ≤ len := by
  have key : ∀ m : List Int, (∀ x, x ∈ m → 1 ≤ x) → (m.length : Int) ≤ m.sum := by
    intro m
    induction m with
    | nil => intro _; simp
    | cons x m ih =>
      intro hx
      have h1 := hx x List.mem_cons_self
      have h2 := ih (fun y hy => hx y (List.mem_cons_of_mem _ hy))
      simp only [List.length_cons, List.sum_cons]; omega
  have := key l (fun x hx => (h.one x hx).1)
  rw [h.sum] at this; omega
/-- What the program's index keeps to. -/
structure Con (PX : Nat → Int → (Nat → Prop) → List It → World → Prop) : Prop where
  keep : ∀ {R : Nat} {n : Int} {F : Nat → Prop} {L : List It} {w w' : World}, PX R n F L w → w.heap.size ≤ w'.heap.size → (∀ k, F k → w'.heap[k]? = w.heap[k]?) → PX R n F L w'
  fl : ∀ {R : Nat} {n : Int} {F : Nat → Prop} {L : List It} {w : World}, PX R n F L w → ∀ k, F k → k < w.heap.size
  new : ∀ (n : Int) (w : World), newC n = 0 → Calls Try.prog 10 #[.int .i64 n] w fun e w' => ∃ R F, e = .returned (.tuple #[.pointer (some ⟨R, 0, none⟩), .int .i64 0]) ∧ PX R n F [] w' ∧ (∀ k, F k → w.heap.size ≤ k) ∧ Below w.heap.size w w'
  no : ∀ (n : Int) (w : World), newC n = 1 → Calls Try.prog 10 #[.int .i64 n] w fun e w' => e = .returned (.tuple #[.pointer none, .int .i64 1]) ∧ Below w.heap.size w w'
  insert : ∀ {R : Nat} {n : Int} {F : Nat → Prop} {L : List It} {w : World}, PX R n F L w → Fit 998 L → ∀ i : It, i.inn → Calls Try.prog 12 #[.pointer (some ⟨R, 0, none⟩), .agg #[.string (S i.k), .int .i64 i.s, .int .i64 i.e, .int .i64 i.id]] w fun e w' => ChgX PX R n F (insC L i) (insL L i) w e w'
  close : ∀ {R : Nat} {n : Int} {F : Nat → Prop} {L : List It} {w : World}, PX R n F L w → Fit 998 L → ∀ (k : List UInt8) (s e9 : Int), k.length ≤ 140737488351232 → In64 s → In64 e9 → Calls Try.prog 14 #[.pointer (some ⟨R, 0, none⟩), .string (S k), .int .i64 s, .int .i64 e9] w fun e w' => ChgX PX R n F (cloC L k s e9) (cloL L k s e9) w e w'
  delete : ∀ {R : Nat} {n : Int} {F : Nat → Prop} {L : List It} {w : World}, PX R n F L w → Fit 998 L → ∀ (k : List UInt8) (s : Int), k.length ≤ 140737488351232 → In64 s → Calls Try.prog 16 #[.pointer (some ⟨R, 0, none⟩), .string (S k), .int .i64 s] w fun e w' => ChgX PX R n F (delC L k s) (delL L k s) w e w'
  get : ∀ {R : Nat} {n : Int} {F : Nat → Prop} {L : List It} {w : World}, PX R n F L w → Fit 998 L → ∀ (k : List UInt8) (s : Int), k.length ≤ 140737488351232 → In64 s → Calls Try.prog 24 #[.pointer (some ⟨R, 0, none⟩), .string (S k), .int .i64 s] w fun e w' => GetP (getI L k s) w e w'
  stab : ∀ {R : Nat} {n : Int} {F : Nat → Prop} {L : List It} {w : World}, PX R n F L w → Fit 998 L → ∀ (lo hi : List UInt8) (t : Int), lo.length ≤ 140737488351232 → hi.length ≤ 140737488351232 → In64 t → Calls Try.prog 20 #[.pointer (some ⟨R, 0, none⟩), .string (S lo), .string (S hi), .int .i64 t] w fun e w' => AskX (stab L lo hi t) w e w'
  over : ∀ {R : Nat} {n : Int} {F : Nat → Prop} {L : List It} {w : World}, PX R n F L w → Fit 998 L → ∀ (lo hi : List UInt8) (a b : Int), lo.length ≤ 140737488351232 → hi.length ≤ 140737488351232 → In64 a → In64 b → Calls Try.prog 22 #[.pointer (some ⟨R, 0, none⟩), .string (S lo), .string (S hi), .agg #[.int .i64 a, .int .i64 b]] w fun e w' => AskX (over L lo hi a b) w e w'
  all : ∀ {R : Nat} {n : Int} {F : Nat → Prop} {L : List It} {w : World}, PX R n F L w → Fit 998 L → Calls Try.prog 29 #[.pointer (some ⟨R, 0, none⟩)] w fun e w' => AskX L w e w'
  len : ∀ {R : Nat} {n : Int} {F : Nat → Prop} {L : List It} {w : World}, PX R n F L w → Fit 998 L → Calls Try.prog 26 #[.pointer (some ⟨R, 0, none⟩)] w fun e w' => e = .returned (.int .i64 (L.length : Int)) ∧ Below w.heap.size w w'
  max : ∀ {R : Nat} {n : Int} {F : Nat → Prop} {L : List It} {w : World}, PX R n F L w → Fit 998 L → Calls Try.prog 27 #[.pointer (some ⟨R, 0, none⟩)] w fun e w' => e = .returned (.int .i64 (maxE L)) ∧ Below w.heap.size w w'
  blocks : ∀ {R : Nat} {n : Int} {F : Nat → Prop} {L : List It} {w : World}, PX R n F L w → Fit 998 L → Calls Try.prog 32 #[.pointer (some ⟨R, 0, none⟩)] w fun e w' => ∃ v l, e = .returned v ∧ IntsAt l v w' ∧ Blk n L.length l ∧ Below w.heap.size w w'
theorem Con.later {PX : Nat → Int → (Nat → Prop) → List It → World → Prop} (K : Con PX) {R b : Nat} {n : Int} {F : Nat → Prop} {L : List It} {w w' : World} (h : PX R n F L w) (hb : Below b w w') (hn : w.heap.size ≤ b) : PX R n F L w' := K.keep h hb.size (fun k hk => hb.block k (Nat.lt_of_lt_of_le (K.fl h k hk) hn))
/-- Where what was told lies: in no block of the index. -/
def Off (L : List It) (v : Value) (F : Nat → Prop) (w : World) : Prop := L ≠ [] → ∀ g, v.ownBlock = some g → g < w.heap.size ∧ ¬ F g
theorem ItemsAt.none {v : Value} {w w' : World} (h : ItemsAt [] v w) : ItemsAt [] v w' := by
  obtain ⟨ao, cap, h1, hc, hm, h2⟩ := h
  rcases h2 with h2 | ⟨b, off, h3, h4, h5⟩
  · exact ⟨ao, cap, h1, hc, hm, .inl h2⟩
  · exact ⟨ao, cap, h1, hc, hm, .inl ⟨rfl, fun e => by rw [e] at h3; cases h3⟩⟩
theorem ItemsAt.to {L : List It} {v : Value} {F F' : Nat → Prop} {w w' : World} (h : ItemsAt L v w) (ho : Off L v F w) (ht : To F F' w w') : ItemsAt L v w' ∧ Off L v F' w' := by
  by_cases hL : L = []
  · subst hL; exact ⟨h.none, fun e => absurd rfl e⟩
  · refine ⟨h.keep ht.size (fun g hg => ht.keeps (ho hL g hg).1 (ho hL g hg).2), fun _ g hg => ⟨Nat.lt_of_lt_of_le (ho hL g hg).1 ht.size, fun e => ?_⟩⟩
    rcases ht.2.2 g e with e2 | e2
    · exact (ho hL g hg).2 e2
    · have := (ho hL g hg).1; omega
theorem Off.later {L : List It} {v : Value} {F : Nat → Prop} {w w' : World} (ho : Off L v F w) (hs : w.heap.size ≤ w'.heap.size) : Off L v F w' := fun hL g hg => ⟨Nat.lt_of_lt_of_le (ho hL g hg).1 hs, (ho hL g hg).2⟩
theorem ChgX.next {PX : Nat → Int → (Nat → Prop) → List It → World → Prop} {R : Nat} {n : Int} {F : Nat → Prop} {c : Int} {L' : List It} {w0 w w' : World} {e : Ending} (h : ChgX PX R n F c L' w e w') (hb : Below w0.heap.size w0 w) (hF : ∀ k, F k → w0.heap.size ≤ k) :
    e = .returned (.int .i64 c) ∧ ∃ F', PX R n F' L' w' ∧ (∀ k, F' k → w0.heap.size ≤ k) ∧ Below w0.heap.size w0 w' ∧ To F F' w w' := by
  obtain ⟨h1, F', h2, h3⟩ := h
  refine ⟨h1, F', h2, fun k hk => ?_, hb.trans (h3.1.below hF hb.size), h3⟩
  rcases h3.2.2 k hk with e | e
  · exact hF k e
  · have := hb.size; omega
/-! ### build -/
def stepL (L : List It) (o : Opv) : List It := if 100 < o.i.k.length then L else if o.kind = 0 then insL L o.i else if o.kind = 1 then cloL L o.i.k o.i.s o.i.e else if o.kind = 2 then delL L o.i.k o.i.s else L
def buildL (L : List It) (l : List Opv) : List It := (l.take 200).foldl stepL L
theorem Fit.step {b : Nat} {L : List It} (h : Fit b L) {o : Opv} (ho : o.inn) : Fit (b + 1) (stepL L o) := by
  have h1 := h.mono (Nat.le_succ b)
  unfold stepL
  split
  · exact h1
  · split
    · exact h.ins ho.i.k
    · split
      · exact h1.clo _ _ _
      · split
        · exact h1.del _ _
        · exact h1
theorem Fit.steps {L : List It} (l : List Opv) (hi : ∀ o ∈ l, o.inn) : ∀ {b : Nat}, Fit b L → Fit (b + l.length) (l.foldl stepL L) := by
  induction l generalizing L with
  | nil => intro b h; exact h
  | cons o l ih =>
    intro b h
    have := ih (fun x hx => hi x (List.mem_cons_of_mem _ hx)) (h.step (hi o List.mem_cons_self))
    refine this.mono ?_
    simp only [List.length_cons]; omega
theorem steps_take (L : List It) {l : List Opv} {i : Nat} (hi : i < l.length) : (l.take (i + 1)).foldl stepL L = stepL ((l.take i).foldl stepL L) l[i] := by
  rw [List.take_succ_eq_append_getElem hi, List.foldl_append]; rfl
set_option maxHeartbeats 8000000 in
set_option maxRecDepth 100000 in
theorem build_any {PX : Nat → Int → (Nat → Prop) → List It → World → Prop} (K : Con PX) {m : Int} {R : Nat} {F : Nat → Prop} {L : List It} {l : List Opv} {sl : Value} {w00 w : World} (hA : OpsAt l sl w00) (hin : ∀ o ∈ l, o.inn) (h0 : Below w00.heap.size w00 w) (h : PX R m F L w) (hF : ∀ k, F k → w00.heap.size ≤ k) (hft : Fit 700 L) :
    Calls Try.prog 31 #[.pointer (some ⟨R, 0, none⟩), sl] w fun e w' => e = .returned (.tuple #[]) ∧ ∃ F', PX R m F' (buildL L l) w' ∧ To F F' w w' := by
  obtain ⟨so, sc, rfl, _, _⟩ := hA.form
  have HA := hide hA
  have HIN := hide hin
  have H0 := hide h0
  have HFF := hide hF
  have HFT := hide hft
  have HX := hide h
  obtain ⟨n, hn⟩ : ∃ n, n = l.length := ⟨_, rfl⟩
  rw [← hn]
  have HN := hide hn
  clear hA hin h0 h hF hft hn
  go_enter Try.func31, Try.ntmps31
  go_wp2_with fail
  go_loopw [4] (fun ii wr => ∃ i : Nat, ii = .int .i64 i ∧ i ≤ n ∧ i ≤ 200 ∧ Hid (∃ F', PX R m F' ((l.take i).foldl stepL L) wr ∧ To F F' w wr)) (fun ii _ => (n - (intOf ii).toNat))
  case atStart => exact ⟨0, rfl, by omega, by omega, hide ⟨F, HX.out, .refl⟩⟩
  case round =>
    rename World => wr
    obtain ⟨i, rfl, hi, hi2, HR⟩ := hrel
    obtain ⟨Fa, hp, ht⟩ := HR.out
    have HP := hide hp
    have HT := hide ht
    clear hp ht HR
    rcases Nat.lt_or_ge i n with hlt | hge
    · have g1 : (i : Int) < (n : Int) := by omega
      rcases Nat.lt_or_ge i 200 with hlt2 | hge2
      · have g2 : (i : Int) < 200 := by omega
        have hil : i < l.length := by rw [← HN.out]; exact hlt
        have HBW := hide (show Below w00.heap.size w00 wr from H0.out.trans (HT.out.1.below HFF.out H0.out.size))
        obtain ⟨b0, off, cap, he, hbw, ⟨k0, k1, k2, k3, k4, k5, k6, k7⟩⟩ := (HA.out.later HBW.out (Nat.le_refl _)).at i hil
        rw [← HN.out] at he
        simp only [Value.slice.injEq, true_and] at he
        obtain ⟨rfl, rfl⟩ := he
        have HTK := hide (steps_take L hil)
        have HFM := hide (show Fit 998 ((l.take i).foldl stepL L) from ((HFT.out.steps (l.take i) (fun o ho => HIN.out o (List.mem_of_mem_take ho))).mono (by rw [List.length_take]; omega)))
        have HOI := hide (HIN.out _ (List.getElem_mem hil))
        obtain ⟨o, hx⟩ : ∃ o, o = l[i] := ⟨_, rfl⟩
        rw [← hx] at k0 k1 k2 k3 k4 k5 k6 k7 HTK HOI
        obtain ⟨M, hM⟩ : ∃ M, M = (l.take i).foldl stepL L := ⟨_, rfl⟩
        rw [← hM] at HTK HFM HP
        clear hx hbw hM
        have HQA := hide (below_alloc wr (.cells #[.int .i64 o.kind, .string (S o.i.k), .int .i64 o.i.s, .int .i64 o.i.e, .int .i64 o.i.id, .string (S o.hi), .int .i64 o.t, .int .i64 o.u] 33))
        have HK0 := hide (show ∀ u : World, u.heap[wr.heap.size]? = (wr.alloc (.cells #[.int .i64 o.kind, .string (S o.i.k), .int .i64 o.i.s, .int .i64 o.i.e, .int .i64 o.i.id, .string (S o.hi), .int .i64 o.t, .int .i64 o.u] 33)).heap[wr.heap.size]? → u.cell? ⟨wr.heap.size, 0, none⟩ = some (.int .i64 o.kind) from fun u hu => by rw [World.cell?_of_block (a := ⟨wr.heap.size, 0, none⟩) hu]; go_keep)
        have HPA := hide (K.later HP.out HQA.out (Nat.le_refl _))
        have HTA := hide (show To F Fa w (wr.alloc (.cells #[.int .i64 o.kind, .string (S o.i.k), .int .i64 o.i.s, .int .i64 o.i.e, .int .i64 o.i.id, .string (S o.hi), .int .i64 o.t, .int .i64 o.u] 33)) from HT.out.trans (.below HQA.out))
        have HNB := hide (show ¬ Fa wr.heap.size from fun e => by have := K.fl HP.out _ e; omega)
        have HLT := hide (show wr.heap.size < (wr.alloc (.cells #[.int .i64 o.kind, .string (S o.i.k), .int .i64 o.i.s, .int .i64 o.i.e, .int .i64 o.i.id, .string (S o.hi), .int .i64 o.t, .int .i64 o.u] 33)).heap.size from by simp)
        rcases Nat.lt_or_ge 100 o.i.k.length with hk | hk
        · have g3 : (100 : Int) < (o.i.k.length : Int) := by omega
          have HS := hide (show stepL M o = M from by unfold stepL; rw [if_pos hk])
          go_wp2_with fail
          go_roundw
          case rel => exact ⟨i + 1, by go_num, by omega, by omega, Fa, by rw [HTK.out, HS.out]; exact HPA.out, HTA.out⟩
          case measure => simp [intOf]; omega
        · have g3 : ¬ (100 : Int) < (o.i.k.length : Int) := by omega
          have HS0 := hide (show stepL M o = if o.kind = 0 then insL M o.i else if o.kind = 1 then cloL M o.i.k o.i.s o.i.e else if o.kind = 2 then delL M o.i.k o.i.s else M from by unfold stepL; rw [if_neg (by omega)])
          by_cases q0 : o.kind = 0
          · have g4 : (o.kind == 0) = true := by rw [q0]; rfl
            have g5 : (o.kind == 1) = false := by rw [q0]; rfl
            have g6 : (o.kind == 2) = false := by rw [q0]; rfl
            have HS := hide (HS0.out.trans (if_pos q0))
            clear q0
            go_wp2_with fail
            refine (K.insert HPA.out HFM.out o.i HOI.out.i).mono ?_
            rintro e w1 ⟨rfl, Fb, hp, ht⟩
            have HP1 := hide hp
            have HT1 := hide ht
            have c0 := HK0.out w1 (HT1.out.keeps HLT.out HNB.out)
            clear hp ht
            go_wp2_with fail
            go_roundw
            case rel => exact ⟨i + 1, by go_num, by omega, by omega, Fb, by rw [HTK.out, HS.out]; exact HP1.out, HTA.out.trans HT1.out⟩
            case measure => simp [intOf]; omega
          · by_cases q1 : o.kind = 1
            · have g4 : (o.kind == 0) = false := by rw [q1]; rfl
              have g5 : (o.kind == 1) = true := by rw [q1]; rfl
              have g6 : (o.kind == 2) = false := by rw [q1]; rfl
              have HS := hide ((HS0.out.trans (if_neg q0)).trans (if_pos q1))
              clear q0 q1
              go_wp2_with fail
              refine (K.close HPA.out HFM.out o.i.k o.i.s o.i.e HOI.out.i.k HOI.out.i.s HOI.out.i.e).mono ?_
              rintro e w1 ⟨rfl, Fb, hp, ht⟩
              have HP1 := hide hp
              have HT1 := hide ht
              have c0 := HK0.out w1 (HT1.out.keeps HLT.out HNB.out)
              clear hp ht
              go_wp2_with fail
              go_roundw
              case rel => exact ⟨i + 1, by go_num, by omega, by omega, Fb, by rw [HTK.out, HS.out]; exact HP1.out, HTA.out.trans HT1.out⟩
              case measure => simp [intOf]; omega
            · by_cases q2 : o.kind = 2
              · have g4 : (o.kind == 0) = false := by rw [q2]; rfl
                have g5 : (o.kind == 1) = false := by rw [q2]; rfl
                have g6 : (o.kind == 2) = true := by rw [q2]; rfl
                have HS := hide (((HS0.out.trans (if_neg q0)).trans (if_neg q1)).trans (if_pos q2))
                clear q0 q1 q2
                go_wp2_with fail
                refine (K.delete HPA.out HFM.out o.i.k o.i.s HOI.out.i.k HOI.out.i.s).mono ?_
                rintro e w1 ⟨rfl, Fb, hp, ht⟩
                have HP1 := hide hp
                have HT1 := hide ht
                have c0 := HK0.out w1 (HT1.out.keeps HLT.out HNB.out)
                clear hp ht
                go_wp2_with fail
                go_roundw
                case rel => exact ⟨i + 1, by go_num, by omega, by omega, Fb, by rw [HTK.out, HS.out]; exact HP1.out, HTA.out.trans HT1.out⟩
                case measure => simp [intOf]; omega
              · have g4 : (o.kind == 0) = false := by rw [beq_eq_false_iff_ne]; exact q0
                have g5 : (o.kind == 1) = false := by rw [beq_eq_false_iff_ne]; exact q1
                have g6 : (o.kind == 2) = false := by rw [beq_eq_false_iff_ne]; exact q2
                have HS := hide (((HS0.out.trans (if_neg q0)).trans (if_neg q1)).trans (if_neg q2))
                clear q0 q1 q2
                go_wp2_with fail
                go_roundw
                case rel => exact ⟨i + 1, by go_num, by omega, by omega, Fa, by rw [HTK.out, HS.out]; exact HPA.out, HTA.out⟩
                case measure => simp [intOf]; omega
      · have g2 : ¬ (i : Int) < 200 := by omega
        have HE := hide (show (l.take i).foldl stepL L = buildL L l from by unfold buildL; rw [show i = 200 by omega])
        go_wp2_with fail
        go_end0
        exact ⟨rfl, Fa, by rw [← HE.out]; exact HP.out, HT.out⟩
    · obtain rfl : i = n := by omega
      have g1 : ¬ (i : Int) < (i : Int) := by omega
      have HE := hide (show (l.take i).foldl stepL L = buildL L l from by unfold buildL; rw [HN.out, List.take_length, List.take_of_length_le (by rw [← HN.out]; exact hi2)])
      go_wp2_with fail
      go_end0
      exact ⟨rfl, Fa, by rw [← HE.out]; exact HP.out, HT.out⟩
end Idx
end Go.Proofs.Ytapdhelioecneaa
