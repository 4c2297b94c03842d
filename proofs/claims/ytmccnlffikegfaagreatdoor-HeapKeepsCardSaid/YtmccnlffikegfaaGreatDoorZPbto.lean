/- Pages that are changed: rising rows of pages, as they stand in a map; a commit's record. No condition. -/
import Derived.Test.YtmccnlffikegfaaGreatDoorZDato
import Derived.Test.YtmccnlffikegfaaGreatDoorZCod
import Derived.Maps.RangeWalk
import Derived.Lib.SlKeysI
import Derived.Lib.TrimByte
import Derived.Test.YtmccnlffikegfaaGreatDoorZWk
namespace Go.Proofs.YtmccnlffikegfaaGreatDoor
open Go.RowKit
namespace Pgr
open Cod (uB tB)
open Dsk (pad sec sec_inj)
theorem hidm {p : Prop} (h : p) : Hid p := h
abbrev Ch := List (Nat × List UInt8)
def look : Ch → Nat → Option (List UInt8)
  | [], _ => none
  | p :: ch, k => if p.1 = k then some p.2 else look ch k
def put : Ch → Nat → List UInt8 → Ch
  | [], k, s => [(k, s)]
  | p :: ch, k, s => if k < p.1 then (k, s) :: p :: ch else if k = p.1 then (k, s) :: ch else p :: put ch k s
structure Ok (N : Nat) (ch : Ch) : Prop where
  rise : ch.Pairwise (fun a b => a.1 < b.1)
  lt : ∀ p ∈ ch, p.1 < N
  len : ∀ p ∈ ch, p.2.length = 128
theorem Ok.nil (N : Nat) : Ok N [] := ⟨.nil, fun _ h => (by cases h), fun _ h => (by cases h)⟩
theorem Ok.tail {N : Nat} {p : Nat × List UInt8} {ch : Ch} (h : Ok N (p :: ch)) : Ok N ch :=
  ⟨(List.pairwise_cons.1 h.rise).2, fun q hq => h.lt q (List.mem_cons_of_mem _ hq), fun q hq => h.len q (List.mem_cons_of_mem _ hq)⟩
theorem put_mem {k : Nat} {s : List UInt8} {q : Nat × List UInt8} : ∀ {ch : Ch}, q ∈ put ch k s → q = (k, s) ∨ q ∈ ch
  | [], h => .inl (List.mem_singleton.1 h)
  | p :: ch, h => by
    unfold put at h
    split at h
    · rcases List.mem_cons.1 h with h | h
      · exact .inl h
      · exact .inr h
    · split at h
      · rcases List.mem_cons.1 h with h | h
        · exact .inl h
        · exact .inr (List.mem_cons_of_mem _ h)
      · rcases List.mem_cons.1 h with h | h
        · exact .inr (h ▸ List.mem_cons_self ..)
        · exact (put_mem h).imp id (List.mem_cons_of_mem _)
theorem put_rise {k : Nat} {s : List UInt8} : ∀ {ch : Ch}, ch.Pairwise (fun a b => a.1 < b.1) → (put ch k s).Pairwise (fun a b => a.1 < b.1)
  | [], _ => List.pairwise_singleton _ _
  | p :: ch, h => by
    obtain ⟨h1, h2⟩ := List.pairwise_cons.1 h
    unfold put
    split
    · refine List.pairwise_cons.2 ⟨fun q hq => ?_, h⟩
      rcases List.mem_cons.1 hq with rfl | hq
      · assumption
      · have := h1 q hq; show k < q.1; omega
    · split
      · rename_i e
        exact List.pairwise_cons.2 ⟨fun q hq => by have := h1 q hq; show k < q.1; omega, h2⟩
      · refine List.pairwise_cons.2 ⟨fun q hq => ?_, put_rise h2⟩
        rcases put_mem hq with rfl | hq
        · show p.1 < k; omega
        · exact h1 q hq
theorem Ok.put {N k : Nat} {s : List UInt8} {ch : Ch} (h : Ok N ch) (hk : k < N) (hs : s.length = 128) : Ok N (put ch k s) :=
  ⟨put_rise h.rise, fun q hq => (put_mem hq).elim (fun e => by rw [e]; exact hk) (h.lt q), fun q hq => (put_mem hq).elim (fun e => by rw [e]; exact hs) (h.len q)⟩
theorem look_put (k : Nat) (s : List UInt8) (j : Nat) : ∀ ch : Ch, look (put ch k s) j = if j = k then some s else look ch j
  | [] => by
    show (if k = j then some s else none) = _
    by_cases h : j = k
    · rw [if_pos h.symm, if_pos h]
    · rw [if_neg (fun e => h e.symm), if_neg h]; rfl
  | p :: ch => by
    unfold put
    split
    · show (if k = j then some s else look (p :: ch) j) = _
      by_cases h : j = k
      · rw [if_pos h.symm, if_pos h]
      · rw [if_neg (fun e => h e.symm), if_neg h]
    · split
      · rename_i e
        show (if k = j then some s else look ch j) = _
        by_cases h : j = k
        · rw [if_pos h.symm, if_pos h]
        · rw [if_neg (fun e => h e.symm), if_neg h]
          show _ = if p.1 = j then some p.2 else look ch j
          rw [if_neg (fun e2 => h (by omega))]
      · show (if p.1 = j then some p.2 else look (put ch k s) j) = if j = k then some s else if p.1 = j then some p.2 else look ch j
        rw [look_put k s j ch]
        by_cases h : j = k
        · rw [if_neg (by omega), if_pos h, if_pos h]
        · rw [if_neg h, if_neg h]
theorem look_mem : ∀ {ch : Ch} {k : Nat} {s : List UInt8}, look ch k = some s → (k, s) ∈ ch
  | p :: ch, k, s, h => by
    unfold look at h
    split at h
    · rename_i e
      have : p.2 = s := Option.some.inj h
      rw [← e, ← this]; exact List.mem_cons_self ..
    · exact List.mem_cons_of_mem _ (look_mem h)
theorem mem_look : ∀ {ch : Ch} {k : Nat} {s : List UInt8}, ch.Pairwise (fun a b => a.1 < b.1) → (k, s) ∈ ch → look ch k = some s
  | p :: ch, k, s, hp, h => by
    obtain ⟨h1, h2⟩ := List.pairwise_cons.1 hp
    unfold look
    rcases List.mem_cons.1 h with rfl | h
    · rw [if_pos rfl]
    · have := h1 _ h
      have this : p.1 < k := this
      rw [if_neg (by omega)]; exact mem_look h2 h
theorem Ok.look_len {N k : Nat} {s : List UInt8} {ch : Ch} (h : Ok N ch) (hk : look ch k = some s) : s.length = 128 ∧ k < N := ⟨h.len _ (look_mem hk), h.lt _ (look_mem hk)⟩
theorem len_from : ∀ (ch : Ch) (lo N : Nat), ch.Pairwise (fun a b => a.1 < b.1) → lo ≤ N → (∀ p ∈ ch, lo ≤ p.1 ∧ p.1 < N) → lo + ch.length ≤ N
  | [], lo, N, _, h, _ => h
  | p :: ch, lo, N, hp, h, hk => by
    obtain ⟨h1, h2⟩ := List.pairwise_cons.1 hp
    have h3 := hk p (List.mem_cons_self ..)
    have := len_from ch (p.1 + 1) N h2 (by omega) (fun q hq => ⟨h1 q hq, (hk q (List.mem_cons_of_mem _ hq)).2⟩)
    rw [List.length_cons]; omega
theorem Ok.count {N : Nat} {ch : Ch} (h : Ok N ch) : ch.length ≤ N := by
  have := len_from ch 0 N h.rise (Nat.zero_le _) (fun p hp => ⟨Nat.zero_le _, h.lt p hp⟩)
  omega
theorem put_last {k : Nat} {s : List UInt8} : ∀ {ch : Ch}, (∀ p ∈ ch, p.1 < k) → put ch k s = ch ++ [(k, s)]
  | [], _ => rfl
  | p :: ch, h => by
    have h1 := h p (List.mem_cons_self ..)
    unfold put
    rw [if_neg (by omega), if_neg (by omega), put_last (fun q hq => h q (List.mem_cons_of_mem _ hq))]; rfl
/-- The pages, with what is changed. -/
def over (ch : Ch) (V : Nat → List UInt8) (i : Nat) : List UInt8 := (look ch i).getD (V i)
theorem over_nil (V : Nat → List UInt8) : over [] V = V := rfl
theorem over_put (ch : Ch) (V : Nat → List UInt8) (k : Nat) (s : List UInt8) (j : Nat) : over (put ch k s) V j = if j = k then s else over ch V j := by
  unfold over
  rw [look_put]
  by_cases h : j = k
  · rw [if_pos h, if_pos h]; rfl
  · rw [if_neg h, if_neg h]
theorem over_congr {ch : Ch} {V W : Nat → List UInt8} {i : Nat} (h : look ch i = none → V i = W i) : over ch V i = over ch W i := by
  unfold over
  cases hl : look ch i with
  | none => exact h hl
  | some s => rfl
theorem over_len {N : Nat} {ch : Ch} (h : Ok N ch) {V : Nat → List UInt8} {i : Nat} (hv : (V i).length = 128) : (over ch V i).length = 128 := by
  unfold over
  cases hl : look ch i with
  | none => exact hv
  | some s => exact (h.look_len hl).1
/-! ### Records -/
/-- The bytes without those 0 at their end. -/
def bare (s : List UInt8) : List UInt8 := Lib.trimRightB s 0
def rec1 (p : Nat × List UInt8) : List UInt8 := uB p.1 ++ tB (bare p.2)
def record (ch : Ch) : List UInt8 := uB ch.length ++ ch.flatMap rec1
theorem drop_zeros : ∀ l : List UInt8, ∃ k, l = List.replicate k 0 ++ l.dropWhile (· == 0)
  | [] => ⟨0, rfl⟩
  | c :: l => by
    by_cases h : c = 0
    · obtain ⟨k, hk⟩ := drop_zeros l
      refine ⟨k + 1, ?_⟩
      rw [List.dropWhile_cons_of_pos (by rw [h]; rfl), List.replicate_succ, List.cons_append, ← hk, h]
    · exact ⟨0, by rw [List.dropWhile_cons_of_neg (by simpa using h)]; rfl⟩
theorem bare_back (s : List UInt8) : ∃ k, s = bare s ++ List.replicate k 0 := by
  obtain ⟨k, hk⟩ := drop_zeros s.reverse
  refine ⟨k, ?_⟩
  have := congrArg List.reverse hk
  rw [List.reverse_reverse, List.reverse_append, List.reverse_replicate] at this
  exact this
theorem bare_len (s : List UInt8) : (bare s).length ≤ s.length := by
  obtain ⟨k, hk⟩ := bare_back s
  have := congrArg List.length hk
  rw [List.length_append] at this
  omega
theorem pad_bare {s : List UInt8} (h : s.length = 128) : pad (bare s) = s := by
  obtain ⟨k, hk⟩ := bare_back s
  have h1 := congrArg List.length hk
  rw [List.length_append, List.length_replicate, h] at h1
  unfold pad
  rw [show 128 - (bare s).length = k by omega, ← hk]
theorem pad_full {s : List UInt8} (h : s.length = 128) : pad s = s := by unfold pad; rw [h]; simp
theorem rec1_len {p : Nat × List UInt8} (h : p.2.length = 128) (hk : p.1 < 1024) : (rec1 p).length ≤ 132 ∧ (p.1 < 128 → (rec1 p).length ≤ 131) := by
  have h1 := Cod.uB_len p.1 2 (by omega) (by have : (128:Nat)^2 = 16384 := by decide
                                             omega)
  have hb := bare_len p.2
  unfold rec1
  have e : (uB p.1 ++ tB (bare p.2)).length = (uB p.1).length + ((uB (bare p.2).length).length + (bare p.2).length) := by unfold tB; simp
  rw [e]
  by_cases hf : (bare p.2).length = 128
  · have h2 := Cod.uB_len (bare p.2).length 2 (by omega) (by have : (128:Nat)^2 = 16384 := by decide
                                                             omega)
    refine ⟨by omega, fun h3 => ?_⟩
    rw [Cod.uB_lt h3, List.length_singleton]; omega
  · have h2 : (uB (bare p.2).length).length = 1 := by rw [Cod.uB_lt (by omega)]; rfl
    refine ⟨by omega, fun h3 => ?_⟩
    rw [Cod.uB_lt h3, List.length_singleton]; omega
theorem flat_len {ch : Ch} {m : Nat} (h : ∀ p ∈ ch, (rec1 p).length ≤ m) : (ch.flatMap rec1).length ≤ ch.length * m := by
  induction ch with
  | nil => simp
  | cons p ch ih =>
    have h1 := h p (List.mem_cons_self ..)
    have h2 := ih (fun q hq => h q (List.mem_cons_of_mem _ hq))
    rw [List.flatMap_cons, List.length_append, List.length_cons, Nat.add_mul]
    omega
theorem record_len {N : Nat} {ch : Ch} (h : Ok N ch) (hN : N ≤ 1024) : (record ch).length ≤ 140000 := by
  have h0 := h.count
  have h1 := flat_len (ch := ch) (m := 132) (fun p hp => (rec1_len (h.len p hp) (by have := h.lt p hp; omega)).1)
  have h2 := Cod.uB_len ch.length 2 (by omega) (by have : (128:Nat)^2 = 16384 := by decide
                                                   omega)
  have h3 : ch.length * 132 ≤ 1024 * 132 := Nat.mul_le_mul_right _ (by omega)
  unfold record
  rw [List.length_append]; omega
/-- With some forty pages a commit fits the log. -/
theorem record_few {N : Nat} {ch : Ch} (h : Ok N ch) (hN : N ≤ 127) : (record ch).length ≤ 1 + N * 131 := by
  have h0 := h.count
  have h1 := flat_len (ch := ch) (m := 131) (fun p hp => (rec1_len (h.len p hp) (by have := h.lt p hp; omega)).2 (by have := h.lt p hp; omega))
  have h3 : ch.length * 131 ≤ N * 131 := Nat.mul_le_mul_right _ (by omega)
  unfold record
  rw [List.length_append, Cod.uB_lt (show ch.length < 128 by omega), List.length_singleton]; omega
/-! ### As a map -/
def lit (k : Nat) : Lit := .int .i64 (k : Int)
def ent (p : Nat × List UInt8) : Lit × DataW (List UInt8) := (lit p.1, .held p.2)
def dat (ch : Ch) : DataW (List UInt8) := .map (ch.map ent)
theorem lit_same (a b : Nat) : (lit a).sameKey (lit b) = decide (a = b) := by
  unfold lit Lit.sameKey
  by_cases h : a = b
  · subst h; simp
  · have : ¬ (a : Int) = (b : Int) := by omega
    simp [h, this]
theorem lit_before (a b : Nat) : (lit a).before (lit b) = decide (a < b) := by
  unfold lit Lit.before
  by_cases h : a < b
  · simp [h, show (a : Int) < b by omega]
  · simp [h, show ¬ (a : Int) < b by omega]
theorem ent_key (p : Nat × List UInt8) (k : Nat) : (ent p).1.sameKey (lit k) = decide (p.1 = k) := lit_same _ _
theorem filter_all {ch : Ch} {k : Nat} (h : ∀ p ∈ ch, p.1 ≠ k) : (ch.map ent).filter (fun p => !p.1.sameKey (lit k)) = ch.map ent := by
  refine List.filter_eq_self.2 (fun q hq => ?_)
  obtain ⟨p, hp, rfl⟩ := List.mem_map.1 hq
  rw [ent_key]; simp [h p hp]
theorem insert_head {ch : Ch} {k : Nat} {s : List UInt8} (h : ∀ p ∈ ch, k < p.1) : DataW.insert (lit k, .held s) (ch.map ent) = (lit k, .held s) :: ch.map ent := by
  cases ch with
  | nil => rfl
  | cons p ch =>
    have h1 := h p (List.mem_cons_self ..)
    show (if (lit k).before (lit p.1) then _ else _) = _
    rw [lit_before, if_pos (by simpa using h1)]; rfl
theorem dat_ins {k : Nat} {s : List UInt8} : ∀ {ch : Ch}, ch.Pairwise (fun a b => a.1 < b.1) → DataW.insert (lit k, .held s) ((ch.map ent).filter fun p => !p.1.sameKey (lit k)) = (put ch k s).map ent
  | [], _ => rfl
  | p :: ch, hp => by
    obtain ⟨h1, h2⟩ := List.pairwise_cons.1 hp
    unfold put
    split
    · rename_i hk
      rw [filter_all (ch := p :: ch) (fun q hq e => by
        rcases List.mem_cons.1 hq with rfl | hq
        · omega
        · have := h1 q hq; omega), insert_head (fun q hq => by
        rcases List.mem_cons.1 hq with rfl | hq
        · exact hk
        · have := h1 q hq; omega)]
      rfl
    · split
      · rename_i hk
        rw [List.map_cons, List.filter_cons_of_neg (by rw [ent_key]; simp [hk]), filter_all (fun q hq e => by have := h1 q hq; omega), insert_head (fun q hq => by have := h1 q hq; omega)]
        rfl
      · rename_i h3 h4
        rw [List.map_cons, List.filter_cons_of_pos (by rw [ent_key]; simp; omega)]
        show (if (lit k).before (lit p.1) then _ else _) = _
        rw [lit_before, if_neg (by simp; omega), dat_ins h2]
        rfl
theorem dat_put {k : Nat} {s : List UInt8} {ch : Ch} (h : ch.Pairwise (fun a b => a.1 < b.1)) : (dat ch).put (lit k) (.held s) = dat (put ch k s) := congrArg DataW.map (dat_ins h)
theorem find_ent (k : Nat) : ∀ ch : Ch, (ch.map ent).find? (fun p => p.1.sameKey (lit k)) = (look ch k).map fun s => (lit k, .held s)
  | [] => rfl
  | p :: ch => by
    show (match (ent p).1.sameKey (lit k) with | true => some (ent p) | false => (ch.map ent).find? (fun p => p.1.sameKey (lit k))) = _
    rw [ent_key]
    unfold look
    by_cases h : p.1 = k
    · rw [if_pos h, decide_eq_true h]; unfold ent; rw [h]; rfl
    · rw [if_neg h, decide_eq_false h]; exact find_ent k ch
theorem dat_at (ch : Ch) (k : Nat) (z : List UInt8) : (dat ch).atKey (lit k) (.held z) = .held ((look ch k).getD z) := by
  unfold dat DataW.atKey
  simp only [find_ent]
  cases look ch k <;> rfl
theorem any_ent (k : Nat) : ∀ ch : Ch, (ch.map ent).any (fun p => p.1.sameKey (lit k)) = (look ch k).isSome
  | [] => rfl
  | p :: ch => by
    show ((ent p).1.sameKey (lit k) || (ch.map ent).any (fun p => p.1.sameKey (lit k))) = _
    rw [ent_key, any_ent k ch, show look (p :: ch) k = if p.1 = k then some p.2 else look ch k from rfl]
    by_cases h : p.1 = k
    · rw [if_pos h, decide_eq_true h]; rfl
    · rw [if_neg h, decide_eq_false h]; rfl
theorem dat_has (ch : Ch) (k : Nat) : Maps.has (dat ch) (lit k) = (look ch k).isSome := any_ent k ch
theorem dat_size (ch : Ch) : Maps.size (dat ch) = ch.length := by
  show (ch.map ent).length = _
  rw [List.length_map]
theorem dat_keys (ch : Ch) : intKeys (dat ch) = ch.map (fun p => (p.1 : Int)) := by
  show (ch.map ent).map _ = _
  rw [List.map_map]; rfl
theorem keys_sorted {ch : Ch} (h : ch.Pairwise (fun a b => a.1 < b.1)) {ss : List Int} (hp : ss.Perm (intKeys (dat ch))) : ss.mergeSort (fun x y => decide (x ≤ y)) = ch.map (fun p => (p.1 : Int)) := by
  rw [dat_keys] at hp
  have := mergeSort_of_perm_i hp
  show ss.mergeSort leI = _
  rw [this]
  refine List.mergeSort_of_pairwise ?_
  refine List.pairwise_map.2 (h.imp fun {a b} hab => ?_)
  simp only [leI, decide_eq_true_eq]; omega
/-! ### An element of the map -/
open Classical in
noncomputable def elem (v : Value) : Option (DataW (List UInt8) × List MemPlace) := if h : ∃ s : List UInt8, s.length = 128 ∧ v = .agg (sec s) then some (.held h.choose, []) else none
theorem elem_sec {s : List UInt8} (hs : s.length = 128) : elem (.agg (sec s)) = some (.held s, []) := by
  unfold elem
  have h : ∃ t : List UInt8, t.length = 128 ∧ Value.agg (sec s) = .agg (sec t) := ⟨s, hs, rfl⟩
  rw [dif_pos h]
  have h2 : sec s = sec h.choose := by simpa using h.choose_spec.2
  rw [← sec_inj h2]
theorem elem_inv {v : Value} {z : DataW (List UInt8) × List MemPlace} (h : elem v = some z) : ∃ s : List UInt8, s.length = 128 ∧ v = .agg (sec s) ∧ z = (.held s, []) := by
  unfold elem at h
  split at h
  · rename_i hx
    exact ⟨hx.choose, hx.choose_spec.1, hx.choose_spec.2, (Option.some.inj h).symm⟩
  · cases h
end Pgr
end Go.Proofs.YtmccnlffikegfaaGreatDoor
/- A disk's steps, one behind the other, till its fuse burns; what a crash leaves of a commit, and of an Open, that are cut off anywhere. No condition. -/
namespace Go.Proofs.YtmccnlffikegfaaGreatDoor
open Go.RowKit
namespace Pgr
open Wal
open Dsk (PD Wt upd upd_same upd_other pad undoW redo zeros)
/-- A write, or a flush. -/
inductive Step where
  | wr (k : Nat) (s : List UInt8)
  | fl
def Step.go (d : PD) : Step → PD
  | .wr k s => (d.write k s).burn
  | .fl => d.flush.burn
def exec (d : PD) (l : List Step) : PD := l.foldl Step.go d
/-- Till the fuse burns. -/
def run : PD → List Step → Bool × PD
  | d, [] => (true, d)
  | d, x :: l => if d.burnt then (false, d) else run (x.go d) l
theorem run_cons (d : PD) (x : Step) (l : List Step) : run d (x :: l) = if d.burnt = true then (false, d) else run (x.go d) l := rfl
theorem exec_app (d : PD) (a b : List Step) : exec d (a ++ b) = exec (exec d a) b := List.foldl_append ..
theorem run_cases : ∀ (l : List Step) (d : PD), run d l = (true, exec d l) ∨ ∃ p q, l = p ++ q ∧ q ≠ [] ∧ run d l = (false, exec d p)
  | [], d => .inl rfl
  | x :: l, d => by
    unfold run
    cases hb : d.burnt with
    | true => exact .inr ⟨[], x :: l, rfl, by simp, by rw [if_pos rfl]; rfl⟩
    | false =>
      rw [if_neg (by simp)]
      rcases run_cases l (x.go d) with h | ⟨p, q, h1, h2, h3⟩
      · exact .inl h
      · exact .inr ⟨x :: p, q, by rw [h1]; rfl, h2, h3⟩
theorem run_app : ∀ (a b : List Step) (d : PD), run d (a ++ b) = if (run d a).1 = true then run (run d a).2 b else run d a
  | [], b, d => rfl
  | x :: a, b, d => by
    cases hb : d.burnt with
    | true =>
      have e : ∀ l : List Step, run d (x :: l) = (false, d) := fun l => by rw [run_cons, hb]; rfl
      rw [List.cons_append, e, e]; rfl
    | false =>
      have e : ∀ l : List Step, run d (x :: l) = run (x.go d) l := fun l => by rw [run_cons, hb]; rfl
      rw [List.cons_append, e, e]
      exact run_app a b (x.go d)
theorem go_fu (d : PD) (x : Step) : (x.go d).fu = d.fu := by cases x <;> rfl
theorem exec_fu : ∀ (l : List Step) (d : PD), (exec d l).fu = d.fu
  | [], _ => rfl
  | x :: l, d => (exec_fu l (x.go d)).trans (go_fu d x)
theorem run_open : ∀ (l : List Step) (d : PD), d.fu = false → run d l = (true, exec d l)
  | [], _, _ => rfl
  | x :: l, d, h => by
    have hb : d.burnt = false := by unfold Dsk.PD.burnt; rw [h]; rfl
    unfold run
    rw [hb, if_neg (by simp), run_open l (x.go d) ((go_fu d x).trans h)]
    rfl
theorem go_few (d : PD) (x : Step) : (x.go d).n = d.n ∧ (x.go d).cs.length ≤ d.cs.length + 1 ∧ (x.go d).wr ≤ d.wr + 1 ∧ (x.go d).fl ≤ d.fl + 1 := by
  cases x with
  | wr k s => exact ⟨rfl, by show (d.cs ++ [_]).length ≤ _; rw [List.length_append]; exact Nat.le_refl _, Nat.le_refl _, Nat.le_succ _⟩
  | fl => exact ⟨rfl, Nat.zero_le _, Nat.le_succ _, Nat.le_refl _⟩
theorem exec_few : ∀ (l : List Step) (d : PD), (exec d l).n = d.n ∧ (exec d l).cs.length ≤ d.cs.length + l.length ∧ (exec d l).wr ≤ d.wr + l.length ∧ (exec d l).fl ≤ d.fl + l.length
  | [], _ => ⟨rfl, Nat.le_refl _, Nat.le_refl _, Nat.le_refl _⟩
  | x :: l, d => by
    obtain ⟨h1, h2, h3, h4⟩ := exec_few l (x.go d)
    obtain ⟨g1, g2, g3, g4⟩ := go_few d x
    have : exec d (x :: l) = exec (x.go d) l := rfl
    rw [this, List.length_cons]
    exact ⟨h1.trans g1, by omega, by omega, by omega⟩
theorem run_few (l : List Step) (d : PD) : (run d l).2.n = d.n ∧ (run d l).2.cs.length ≤ d.cs.length + l.length ∧ (run d l).2.wr ≤ d.wr + l.length ∧ (run d l).2.fl ≤ d.fl + l.length ∧ (run d l).2.fu = d.fu := by
  rcases run_cases l d with h | ⟨p, q, h1, h2, h3⟩
  · rw [h]
    obtain ⟨a, b, c, e⟩ := exec_few l d
    exact ⟨a, b, c, e, exec_fu l d⟩
  · rw [h3]
    obtain ⟨a, b, c, e⟩ := exec_few p d
    have : p.length ≤ l.length := by rw [h1, List.length_append]; omega
    exact ⟨a, Nat.le_trans b (by omega), Nat.le_trans c (by omega), Nat.le_trans e (by omega), exec_fu p d⟩
/-! ### Rows of writes -/
def wrts (l : List (Nat × List UInt8)) : List Step := l.map fun p => .wr p.1 p.2
structure Wrote (d e : PD) (l : List (Nat × List UInt8)) : Prop where
  un : undoW e.f e.cs = undoW d.f d.cs
  cs : ∀ x ∈ e.cs, x ∈ d.cs ∨ ∃ p ∈ l, x.pos = p.1 ∧ x.laid = pad p.2
  off : ∀ q : Int, (∀ p ∈ l, (p.1 : Int) ≠ q) → e.f q = d.f q
theorem wrts_are : ∀ (l : List (Nat × List UInt8)) (d : PD), Wrote d (exec d (wrts l)) l
  | [], d => ⟨rfl, fun x hx => .inl hx, fun q _ => rfl⟩
  | p :: l, d => by
    obtain ⟨h1, h2, h3⟩ := wrts_are l ((d.write p.1 p.2).burn)
    refine ⟨h1.trans (undoW_write d.f d.cs _ _), fun x hx => ?_, fun q hq => ?_⟩
    · rcases h2 x hx with h | ⟨q, hq, h⟩
      · have h : x ∈ d.cs ++ [⟨p.1, pad p.2, d.f p.1⟩] := h
        rcases List.mem_append.1 h with h | h
        · exact .inl h
        · rw [List.mem_singleton.1 h]
          exact .inr ⟨p, List.mem_cons_self .., rfl, rfl⟩
      · exact .inr ⟨q, List.mem_cons_of_mem _ hq, h⟩
    · rw [show exec d (wrts (p :: l)) = exec ((d.write p.1 p.2).burn) (wrts l) from rfl, h3 q (fun x hx => hq x (List.mem_cons_of_mem _ hx))]
      exact upd_other _ _ _ _ (fun e => hq p (List.mem_cons_self ..) e.symm)
/-- The pages' writes. -/
def pws (B : Nat) (ch : Ch) : List (Nat × List UInt8) := ch.map fun p => (B + p.1, p.2)
/-- What the pages are. -/
def pg (B : Nat) (f : Int → List UInt8) (i : Nat) : List UInt8 := f ((B + i : Nat) : Int)
theorem pws_low {B : Nat} {ch : Ch} {q : Nat} (hq : q < B) : ∀ p ∈ pws B ch, (p.1 : Int) ≠ (q : Int) := fun p hp => by
  obtain ⟨x, _, rfl⟩ := List.mem_map.1 hp
  show ((B + x.1 : Nat) : Int) ≠ _
  omega
theorem pws_pages : ∀ (ch : Ch) (d : PD) (B N : Nat), Ok N ch → ∀ i, pg B (exec d (wrts (pws B ch))).f i = over ch (pg B d.f) i
  | [], d, B, N, _, i => rfl
  | p :: ch, d, B, N, h, i => by
    have ih := pws_pages ch ((d.write (B + p.1) p.2).burn) B N h.tail i
    rw [show exec d (wrts (pws B (p :: ch))) = exec ((d.write (B + p.1) p.2).burn) (wrts (pws B ch)) from rfl, ih]
    have hl := h.len p (List.mem_cons_self ..)
    show (look ch i).getD (upd d.f ((B + p.1 : Nat) : Int) (pad p.2) ((B + i : Nat) : Int)) = (if p.1 = i then some p.2 else look ch i).getD (d.f ((B + i : Nat) : Int))
    by_cases hi : p.1 = i
    · have hn : look ch i = none := by
        cases hl2 : look ch i with
        | none => rfl
        | some s =>
          have := (List.pairwise_cons.1 h.rise).1 _ (look_mem hl2)
          have this : p.1 < i := this
          omega
      rw [if_pos hi, hn, hi]
      show upd _ _ _ _ = p.2
      rw [upd_same, pad_full hl]
    · rw [if_neg hi, upd_other _ _ _ _ (by omega)]
theorem pws_take (B : Nat) (ch : Ch) (j : Nat) : (wrts (pws B ch)).take j = wrts (pws B (ch.take j)) := by
  unfold wrts pws
  rw [← List.map_take, ← List.map_take]
theorem Ok.take {N : Nat} {ch : Ch} (h : Ok N ch) (j : Nat) : Ok N (ch.take j) :=
  ⟨h.rise.sublist (List.take_sublist _ _), fun p hp => h.lt p (List.mem_of_mem_take hp), fun p hp => h.len p (List.mem_of_mem_take hp)⟩
/-! ### A log whose other sectors change -/
theorem cn_like {F n t b : Nat} {f g : Int → List UInt8} {A : List R} (h : Cn F n t b f A) (hg : ∀ q : Nat, q < F + 2 + n → g q = f q) : Cn F n t b g A := by
  have hp : ∀ i, i < n → plF F g i = plF F f i := fun i hi => plF_congr (hg _ (by omega))
  have hr := h.room
  refine ⟨?_, fun i hi p hpp => h.all i hi p (hp i hi ▸ hpp), fun i hi => by rw [hp i (by omega)]; exact h.a1 i hi, ?_, h.mono, hr⟩
  · rw [← h.slots]; unfold slF; rw [hg F (by omega), hg (F + 1) (by omega)]
  · rw [go_congr (pl' := plF F f) _ _ _ _ (fun j h1 h2 => hp j (by omega))]; exact h.stop
theorem life_like {F n t b : Nat} {d e : PD} {A : List R} (h : Life F n t b d A []) (hc : d.cs = []) (he : e.cs = []) (hg : ∀ q : Nat, q < F + 2 + n → e.f q = d.f q) : Life F n t b e A [] := by
  have hu : undoW d.f d.cs = d.f := by rw [hc]; rfl
  have hv : undoW e.f e.cs = e.f := by rw [he]; rfl
  have hp : ∀ i, i < n → plF F e.f i = plF F d.f i := fun i hi => plF_congr (hg _ (by omega))
  obtain ⟨b1, b2, b3, b4, b5, b6, b7, b8, b9⟩ := h.bd
  rw [hu] at b2 b3 b5 b6
  have ht : tot A ≤ n := by omega
  refine ⟨⟨b1, ?_, fun i hi => ?_, fun x hx => (by rw [he] at hx; cases hx), fun i h1 hi p hpp => ?_, ?_, b7, b8, b9⟩, fun i hi => by simp [tot] at hi⟩
  · rw [hv, ← b2]; unfold slF; rw [hg F (by omega), hg (F + 1) (by omega)]
  · rw [hv, hp i (by omega)]; exact b3 i hi
  · rw [hv, hp i hi] at hpp; exact b5 i h1 hi p hpp
  · rw [hv, go_congr (pl' := plF F d.f) _ _ _ _ (fun j h1 h2 => hp j (by omega))]; exact b6
theorem life_cn {F n t b : Nat} {d : PD} {A : List R} (h : Life F n t b d A []) (hc : d.cs = []) : Cn F n t b d.f A := by
  have hu : undoW d.f d.cs = d.f := by rw [hc]; rfl
  have hr := h.bd.room
  simp [tot] at hr
  have hs := h.bd.stop
  rw [hu] at hs
  exact ⟨h.bd.slot_same, h.turns, h.bd.pl_left, go_mixed (t := t) (pl' := plF F d.f) (n - tot A) (tot A) (st (lt b A)) [] (fun j h1 h2 p hp => h.bd.old j h1 (by omega) p (hu.symm ▸ hp)) (fun j _ _ => .inl rfl) hs (fun _ => .inl rfl), h.bd.mono, hr⟩
theorem crash_none {d : PD} (hc : d.cs = []) (ks : List Bool) : (d.crash ks).f = d.f := by
  funext q
  rcases crash_at d ks q with e | ⟨x, hx, _⟩
  · rw [e, hc]; rfl
  · rw [hc] at hx; cases hx
/-! ### What a disk at rest, that is a pager's, comes to -/
/-- The log's records A and the pages of f come to the pages V. -/
def Comes (B N : Nat) (f : Int → List UInt8) (A : List R) (V : Nat → List UInt8) : Prop :=
  (A = [] ∧ ∀ i, i < N → pg B f i = V i) ∨ ∃ t0 ch, A = [(t0, record ch)] ∧ Ok N ch ∧ ∀ i, i < N → over ch (pg B f) i = V i
/-- A disk at rest, whose log has n places, with N pages behind it, that come to V; the turn is T at most. -/
def Rs (n N T : Nat) (f : Int → List UInt8) (V : Nat → List UInt8) : Prop := ∃ t b A, Cn 0 n t b f A ∧ b ≤ t ∧ t ≤ T ∧ Comes (2 + n) N f A V
theorem Rs.more {n N T T' : Nat} {f : Int → List UInt8} {V : Nat → List UInt8} (h : Rs n N T f V) (hT : T ≤ T') : Rs n N T' f V := by
  obtain ⟨t, b, A, h1, h2, h3, h4⟩ := h
  exact ⟨t, b, A, h1, h2, by omega, h4⟩
theorem Rs.congr {n N T : Nat} {f : Int → List UInt8} {V W : Nat → List UInt8} (h : Rs n N T f V) (hv : ∀ i, i < N → V i = W i) : Rs n N T f W := by
  obtain ⟨t, b, A, h1, h2, h3, h4⟩ := h
  refine ⟨t, b, A, h1, h2, h3, ?_⟩
  rcases h4 with ⟨e, h⟩ | ⟨t0, ch, e, ho, h⟩
  · exact .inl ⟨e, fun i hi => (h i hi).trans (hv i hi)⟩
  · exact .inr ⟨t0, ch, e, ho, fun i hi => (h i hi).trans (hv i hi)⟩
/-- A pager's disk at rest while it lives: nothing is in its log, nor in the cache. -/
structure Calm (n N T t b : Nat) (d : PD) (V : Nat → List UInt8) : Prop where
  life : Life 0 n t b d [] []
  cs : d.cs = []
  bt : b ≤ t
  tT : t ≤ T
  pgs : ∀ i, i < N → pg (2 + n) d.f i = V i
theorem Calm.rs {n N T t b : Nat} {d : PD} {V : Nat → List UInt8} (h : Calm n N T t b d V) (ks : List Bool) : Rs n N T (d.crash ks).f V := by
  rw [crash_none h.cs]
  exact ⟨t, b, [], life_cn h.life h.cs, h.bt, h.tT, .inl ⟨rfl, h.pgs⟩⟩
def slotStep (t b : Nat) : Step := .wr (slot 0 t) (sealB (sbody t b))
/-- What is done when the log's record stands: the pages, a flush, the log's reset. -/
def tailS (n t : Nat) (ch : Ch) : List Step := wrts (pws (2 + n) ch) ++ [.fl, slotStep (t + 1) (t + 1), .fl]
theorem prefix_four {α : Type} {l p q : List α} {a b c : α} (h : l ++ [a, b, c] = p ++ q) : (∃ j, j ≤ l.length ∧ p = l.take j) ∨ p = l ++ [a] ∨ p = l ++ [a, b] ∨ p = l ++ [a, b, c] := by
  by_cases hp : p.length ≤ l.length
  · left
    refine ⟨p.length, hp, ?_⟩
    have := congrArg (List.take p.length) h
    rw [List.take_append_of_le_length hp, List.take_left] at this
    exact this.symm
  · right
    have hlen := congrArg List.length h
    simp only [List.length_append, List.length_cons, List.length_nil] at hlen
    obtain ⟨k, hk⟩ : ∃ k, p.length = l.length + k := ⟨p.length - l.length, by omega⟩
    have := congrArg (List.take p.length) h
    rw [List.take_left, hk, List.take_append, List.take_of_length_le (by omega), Nat.add_sub_cancel_left] at this
    rcases show k = 1 ∨ k = 2 ∨ k = 3 by omega with rfl | rfl | rfl
    · exact .inl this.symm
    · exact .inr (.inl this.symm)
    · exact .inr (.inr this.symm)
section
variable {n N T t b t0 : Nat} {d : PD} {V : Nat → List UInt8} {ch : Ch}
theorem tail_crash (hl : Life 0 n t b d [(t0, record ch)] []) (hc : d.cs = []) (hbt : b ≤ t) (ht : t + 1 ≤ T) (hT : T ≤ 1099511627776) (hok : Ok N ch) (hv : ∀ i, i < N → over ch (pg (2 + n) d.f) i = V i) :
    (∀ p q, tailS n t ch = p ++ q → ∀ ks, Rs n N T ((exec d p).crash ks).f V) ∧ Calm n N T (t + 1) (t + 1) (exec d (tailS n t ch)) V := by
  have hu0 : undoW d.f d.cs = d.f := by rw [hc]; rfl
  have hcn := life_cn hl hc
  -- the pages' writes
  have hW := wrts_are (pws (2 + n) ch) d
  obtain ⟨d1, hd1⟩ : ∃ d1, d1 = exec d (wrts (pws (2 + n) ch)) := ⟨_, rfl⟩
  rw [← hd1] at hW
  have hlow : ∀ q : Nat, q < 0 + 2 + n → d1.f q = d.f q := fun q hq => hW.off q (pws_low (by omega))
  have hpg : ∀ i, pg (2 + n) d1.f i = over ch (pg (2 + n) d.f) i := fun i => by rw [hd1]; exact pws_pages ch d (2 + n) N hok i
  have hpgV : ∀ i, i < N → pg (2 + n) d1.f i = V i := fun i hi => (hpg i).trans (hv i hi)
  have hoverV : ∀ i, i < N → over ch (pg (2 + n) d1.f) i = V i := fun i hi => by
    rw [← hv i hi]
    unfold over
    cases hk : look ch i with
    | some s => rfl
    | none =>
      show pg (2 + n) d1.f i = pg (2 + n) d.f i
      rw [hpg]; unfold over; rw [hk]; rfl
  -- behind the flush
  obtain ⟨d2, hd2⟩ : ∃ d2, d2 = d1.flush.burn := ⟨_, rfl⟩
  have hc2 : d2.cs = [] := by rw [hd2]; rfl
  have hf2 : d2.f = d1.f := by rw [hd2]; rfl
  have hl2 : Life 0 n t b d2 [(t0, record ch)] [] := life_like hl hc hc2 (fun q hq => by rw [hf2]; exact hlow q hq)
  -- the slot
  obtain ⟨d3, hd3⟩ : ∃ d3, d3 = (d2.write (slot 0 (t + 1)) (sealB (sbody (t + 1) (t + 1)))).burn := ⟨_, rfl⟩
  have hf3 : d3.f = upd d2.f (slot 0 (t + 1) : Nat) (pad (sealB (sbody (t + 1) (t + 1)))) := by rw [hd3]; rfl
  have hc3 : d3.cs = [⟨slot 0 (t + 1), pad (sealB (sbody (t + 1) (t + 1))), d2.f (slot 0 (t + 1) : Nat)⟩] := by
    rw [hd3]; show d2.cs ++ [_] = _; rw [hc2]; rfl
  have hslot : slot 0 (t + 1) < 2 := by unfold slot; omega
  have hp3 : ∀ i, pg (2 + n) d3.f i = pg (2 + n) d1.f i := fun i => by
    unfold pg; rw [hf3, upd_other _ _ _ _ (by omega), hf2]
  obtain ⟨d4, hd4⟩ : ∃ d4, d4 = d3.flush.burn := ⟨_, rfl⟩
  have hc4 : d4.cs = [] := by rw [hd4]; rfl
  have hf4 : d4.f = d3.f := by rw [hd4]; rfl
  have hl4 : Life 0 n (t + 1) (t + 1) d4 [] [] := hl2.reset (by omega) (by rw [hf4, hf3]) hc4
  have hcalm : Calm n N T (t + 1) (t + 1) d4 V := ⟨hl4, hc4, Nat.le_refl _, ht, fun i hi => by rw [hf4, hp3]; exact hpgV i hi⟩
  have e1 : exec d (wrts (pws (2 + n) ch) ++ [.fl]) = d2 := by rw [exec_app, ← hd1, hd2]; rfl
  have e2 : exec d (wrts (pws (2 + n) ch) ++ [.fl, slotStep (t + 1) (t + 1)]) = d3 := by rw [exec_app, ← hd1, hd3, hd2]; rfl
  have e3 : exec d (wrts (pws (2 + n) ch) ++ [.fl, slotStep (t + 1) (t + 1), .fl]) = d4 := by rw [exec_app, ← hd1, hd4, hd3, hd2]; rfl
  refine ⟨fun p q hpq ks => ?_, by unfold tailS; rw [e3]; exact hcalm⟩
  rcases prefix_four hpq with ⟨j, hj, rfl⟩ | rfl | rfl | rfl
  · -- some pages are written
    rw [pws_take]
    have hWj := wrts_are (pws (2 + n) (ch.take j)) d
    have hat := crash_at (exec d (wrts (pws (2 + n) (ch.take j)))) ks
    rw [hWj.un, hu0] at hat
    have hcs : ∀ x ∈ (exec d (wrts (pws (2 + n) (ch.take j)))).cs, ∃ p ∈ ch, x.pos = 2 + n + p.1 ∧ x.laid = p.2 := fun x hx => by
      rcases hWj.cs x hx with h | ⟨p, hp, h1, h2⟩
      · rw [hc] at h; cases h
      · obtain ⟨y, hy, rfl⟩ := List.mem_map.1 hp
        exact ⟨y, List.mem_of_mem_take hy, h1, h2.trans (pad_full (hok.len y (List.mem_of_mem_take hy)))⟩
    refine ⟨t, b, _, cn_like hcn (fun q hq => ?_), hbt, by omega, .inr ⟨t0, ch, rfl, hok, fun i hi => ?_⟩⟩
    · rcases hat q with e | ⟨x, hx, h1, _⟩
      · exact e
      · obtain ⟨p, _, h2, _⟩ := hcs x hx
        omega
    · rw [← hv i hi]
      refine over_congr (fun hk => ?_)
      unfold pg
      rcases hat ((2 + n + i : Nat) : Int) with e | ⟨x, hx, h1, h2⟩
      · exact e
      · obtain ⟨p, hp, h3, h4⟩ := hcs x hx
        have hpi : p.1 = i := by omega
        have := mem_look hok.rise (k := p.1) (s := p.2) hp
        rw [hpi, hk] at this
        cases this
  · rw [e1, crash_none hc2]
    exact ⟨t, b, _, life_cn hl2 hc2, hbt, by omega, .inr ⟨t0, ch, rfl, hok, fun i hi => by rw [hf2]; exact hoverV i hi⟩⟩
  · rw [e2]
    have hpc : ∀ i, pg (2 + n) (d3.crash ks).f i = pg (2 + n) d1.f i := fun i => by
      unfold pg
      rcases crash_at d3 ks ((2 + n + i : Nat) : Int) with e | ⟨x, hx, h1, _⟩
      · rw [e, undo_other (fun x hx h => by rw [hc3] at hx; rw [List.mem_singleton.1 hx] at h; have h : ((slot 0 (t + 1) : Nat) : Int) = _ := h; omega)]
        exact hp3 i
      · rw [hc3] at hx; rw [List.mem_singleton.1 hx] at h1; have h1 : ((slot 0 (t + 1) : Nat) : Int) = _ := h1; omega
    rcases hl2.pending hc2 (by omega) ks hf3 hc3 with h | h
    · exact ⟨t, b, _, h, hbt, by omega, .inr ⟨t0, ch, rfl, hok, fun i hi => by rw [over_congr (W := pg (2 + n) d1.f) (fun _ => hpc i)]; exact hoverV i hi⟩⟩
    · exact ⟨t + 1, t + 1, [], h, Nat.le_refl _, ht, .inl ⟨rfl, fun i hi => (hpc i).trans (hpgV i hi)⟩⟩
  · rw [e3]; exact hcalm.rs ks
/-! ### A commit -/
/-- The writes of a record's places. -/
def plws (F t u : Nat) (s : List UInt8) (j : Nat) : List (Nat × List UInt8) := (List.range j).map fun i => (F + 2 + (u + i), sealB ((prt t s i).body (u + i)))
theorem plws_exec (d : PD) (F t u : Nat) (s : List UInt8) : ∀ j, exec d (wrts (plws F t u s j)) = wrs d F t u s j
  | 0 => rfl
  | j + 1 => by
    have : wrts (plws F t u s (j + 1)) = wrts (plws F t u s j) ++ [.wr (F + 2 + (u + j)) (sealB ((prt t s j).body (u + j)))] := by
      unfold wrts plws
      rw [List.range_succ, List.map_append, List.map_append]; rfl
    rw [this, exec_app, plws_exec d F t u s j]
    rfl
theorem plws_len (F t u : Nat) (s : List UInt8) (j : Nat) : (wrts (plws F t u s j)).length = j := by unfold wrts plws; simp
theorem plws_take (F t u : Nat) (s : List UInt8) (m j : Nat) (h : j ≤ m) : (wrts (plws F t u s m)).take j = wrts (plws F t u s j) := by
  unfold wrts plws
  rw [← List.map_take, ← List.map_take, List.take_range, Nat.min_eq_left h]
/-- What a commit of the changes ch does. -/
def commitS (n t : Nat) (ch : Ch) : List Step := (wrts (plws 0 t 0 (record ch) (np (record ch))) ++ [.fl]) ++ tailS n t ch
theorem split_at {α : Type} {a b p q : List α} (h : a ++ b = p ++ q) : (∃ r, a = p ++ r ∧ r ≠ []) ∨ ∃ r, p = a ++ r ∧ b = r ++ q := by
  rcases List.append_eq_append_iff.1 h with ⟨r, h1, h2⟩ | ⟨r, h1, h2⟩
  · exact .inr ⟨r, h1, h2⟩
  · cases r with
    | nil => exact .inr ⟨[], by rw [h1]; simp, by rw [h2]; simp⟩
    | cons x r => exact .inl ⟨x :: r, h1, by simp⟩
theorem wrs_life {d : PD} {s : List UInt8} (h : Life 0 n t b d [] []) (hu : np s ≤ n) (ht : t ≤ 1099511627776) (hn : n ≤ 1000) : ∀ j, j ≤ np s → Bd 0 n t b (wrs d 0 t 0 s j) [] [(t, s)] ∧ ∀ i, i < j → plF 0 (wrs d 0 t 0 s j).f i = pat [(t, s)] i := by
  intro j
  induction j with
  | zero => exact fun _ => ⟨h.bd.record s (by simp [tot]; exact hu), fun i hi => by omega⟩
  | succ j ih =>
    intro hj
    obtain ⟨h1, h2⟩ := ih (by omega)
    refine ⟨h1.wrote (B := []) (by omega) (by simp [tot]) ht hn, fun i hi => ?_⟩
    have := cur_wrote (B := []) (A := []) (t := t) (s := s) (j := j) (u := 0) (F := 0) (d := wrs d 0 t 0 s j) (fun i hi => by simpa [tot] using h2 i (by simpa [tot] using hi)) (by omega) (by simp [tot]) ht (by omega) i (by simpa [tot] using hi)
    have e : pat ([] ++ [(t, s)]) i = pat [(t, s)] i := rfl
    rw [← e, show wrs d 0 t 0 s (j + 1) = wrote (wrs d 0 t 0 s j) 0 t 0 s j from rfl]
    simpa [tot] using this
theorem commit_crash (h : Calm n N T t b d V) (ht : t + 1 ≤ T) (hT : T ≤ 1099511627776) (hn : n ≤ 1000) (hok : Ok N ch) (hr : np (record ch) ≤ n) :
    (∀ p q, commitS n t ch = p ++ q → ∀ ks, Rs n N T ((exec d p).crash ks).f V ∨ Rs n N T ((exec d p).crash ks).f (over ch V)) ∧ Calm n N T (t + 1) (t + 1) (exec d (commitS n t ch)) (over ch V) := by
  have hu0 : undoW d.f d.cs = d.f := by rw [h.cs]; rfl
  have hW := wrts_are (plws 0 t 0 (record ch) (np (record ch))) d
  rw [plws_exec] at hW
  have hpl : ∀ j, j ≤ np (record ch) → ∀ p ∈ plws 0 t 0 (record ch) j, p.1 < 2 + n := fun j hj p hp => by
    obtain ⟨i, hi, rfl⟩ := List.mem_map.1 hp
    have := List.mem_range.1 hi
    show 0 + 2 + (0 + i) < _
    omega
  obtain ⟨d1, hd1⟩ : ∃ d1, d1 = wrs d 0 t 0 (record ch) (np (record ch)) := ⟨_, rfl⟩
  obtain ⟨g1, g2⟩ := wrs_life h.life hr (by have := h.tT; omega) hn (np (record ch)) (Nat.le_refl _)
  rw [← hd1] at hW g1 g2
  obtain ⟨d2, hd2⟩ : ∃ d2, d2 = d1.flush.burn := ⟨_, rfl⟩
  have hc2 : d2.cs = [] := by rw [hd2]; rfl
  have hf2 : d2.f = d1.f := by rw [hd2]; rfl
  have hl2 : Life 0 n t b d2 [(t, record ch)] [] := by
    have := Life.flush (d' := d2) (⟨g1, fun i hi => by simpa [tot] using g2 i (by simpa [tot] using hi)⟩ : Life 0 n t b d1 [] [(t, record ch)]) hf2 hc2
    simpa using this
  have hpg2 : ∀ i, i < N → pg (2 + n) d2.f i = V i := fun i hi => by
    rw [← h.pgs i hi]
    unfold pg
    rw [hf2]
    exact hW.off _ (fun p hp => by have := hpl _ (Nat.le_refl _) p hp; omega)
  have hov : ∀ i, i < N → over ch (pg (2 + n) d2.f) i = over ch V i := fun i hi => over_congr (fun _ => hpg2 i hi)
  obtain ⟨q1, q2⟩ := tail_crash (t0 := t) hl2 hc2 h.bt ht hT hok hov
  have e2 : exec d (wrts (plws 0 t 0 (record ch) (np (record ch))) ++ [.fl]) = d2 := by rw [exec_app, plws_exec, ← hd1, hd2]; rfl
  refine ⟨fun p q hpq ks => ?_, by unfold commitS; rw [exec_app, e2]; exact q2⟩
  unfold commitS at hpq
  rcases split_at hpq with ⟨r, h1, h2⟩ | ⟨r, rfl, h2⟩
  · -- the record is being written
    have hj : ∃ j, j ≤ np (record ch) ∧ p = wrts (plws 0 t 0 (record ch) j) := by
      have hlen := congrArg List.length h1
      simp only [List.length_append, List.length_cons, List.length_nil, plws_len] at hlen
      have hr1 : 0 < r.length := List.length_pos_iff.2 h2
      have hp : p.length ≤ np (record ch) := by omega
      refine ⟨p.length, hp, ?_⟩
      have := congrArg (List.take p.length) h1
      rw [List.take_left, List.take_append_of_le_length (by rw [plws_len]; exact hp), plws_take _ _ _ _ _ _ hp] at this
      exact this.symm
    obtain ⟨j, hj, rfl⟩ := hj
    rw [plws_exec]
    have hWj := wrts_are (plws 0 t 0 (record ch) j) d
    rw [plws_exec] at hWj
    obtain ⟨k1, k2⟩ := wrs_life h.life hr (by have := h.tT; omega) hn j hj
    obtain ⟨m, hm, hcn⟩ := k1.crash ks
    have hpgc : ∀ i, i < N → pg (2 + n) ((wrs d 0 t 0 (record ch) j).crash ks).f i = V i := fun i hi => by
      rw [← h.pgs i hi]
      unfold pg
      rcases crash_at (wrs d 0 t 0 (record ch) j) ks ((2 + n + i : Nat) : Int) with e | ⟨x, hx, h3, _⟩
      · rw [e, hWj.un, hu0]
      · rcases hWj.cs x hx with h4 | ⟨p, hp, h4, _⟩
        · rw [h.cs] at h4; cases h4
        · have := hpl j hj p hp; omega
    have hbt := h.bt
    have htT := h.tT
    have hm : m ≤ 1 := hm
    rcases show m = 0 ∨ m = 1 by omega with rfl | rfl
    · exact .inl ⟨t, b, [], hcn, hbt, htT, .inl ⟨rfl, hpgc⟩⟩
    · exact .inr ⟨t, b, [(t, record ch)], hcn, hbt, htT, .inr ⟨t, ch, rfl, hok, fun i hi => over_congr (fun _ => hpgc i hi)⟩⟩
  · rw [exec_app, e2]
    exact .inr (q1 r q h2 ks)
/-! ### An Open -/
/-- The log's turn behind an Open. -/
def openT (t : Nat) : Option Ch → Nat
  | none => t + 1
  | some _ => t + 2
/-- What an Open does, of a log that tells t, b and A. -/
def openS (n t b : Nat) (ch : Option Ch) : List Step := [slotStep (t + 1) b, .fl] ++ (match ch with | none => [] | some ch => tailS n (t + 1) ch)
theorem slot_crash {A : List R} (h : Cn 0 n t b d.f A) (hc : d.cs = []) (hbt : b ≤ t) (ht : t + 1 ≤ 1099511627776) {d1 : PD} (hd1 : d1 = (d.write (slot 0 (t + 1)) (sealB (sbody (t + 1) b))).burn) (ks : List Bool) :
    Cn 0 n t b (d1.crash ks).f A ∨ Cn 0 n (t + 1) b (d1.crash ks).f A := by
  have hf : d1.f = upd d.f (slot 0 (t + 1) : Nat) (pad (sealB (sbody (t + 1) b))) := by rw [hd1]; rfl
  have hcs : d1.cs = [⟨slot 0 (t + 1), pad (sealB (sbody (t + 1) b)), d.f (slot 0 (t + 1) : Nat)⟩] := by rw [hd1]; show d.cs ++ [_] = _; rw [hc]; rfl
  have hat := crash_at d1 ks
  have hu : undoW d1.f d1.cs = d.f := by rw [hf, hcs]; exact undoW_write d.f [] (slot 0 (t + 1)) _
  rw [hu] at hat
  have hoth : ∀ q : Int, q ≠ (slot 0 (t + 1) : Nat) → (d1.crash ks).f q = d.f q := fun q hq => by
    rcases hat q with e | ⟨x, hx, h1, _⟩
    · exact e
    · rw [hcs] at hx; rw [List.mem_singleton.1 hx] at h1; exact absurd h1.symm hq
  rcases hat (slot 0 (t + 1) : Nat) with e | ⟨x, hx, _, e⟩
  · left
    have hall : (d1.crash ks).f = d.f := funext fun q => by
      by_cases hq : q = (slot 0 (t + 1) : Nat)
      · rw [hq]; exact e
      · exact hoth q hq
    rw [hall]; exact h
  · right
    rw [hcs] at hx
    rw [List.mem_singleton.1 hx] at e
    have hall : (d1.crash ks).f = upd d.f (slot 0 (t + 1) : Nat) (pad (sealB (sbody (t + 1) b))) := funext fun q => by
      by_cases hq : q = (slot 0 (t + 1) : Nat)
      · rw [hq, upd_same]; exact e
      · rw [upd_other _ _ _ _ hq]; exact hoth q hq
    rw [hall]
    have hl := h.opened (d := { d with f := upd d.f (slot 0 (t + 1) : Nat) (pad (sealB (sbody (t + 1) b))), cs := [] }) hbt ht rfl rfl
    exact life_cn hl rfl
theorem open_crash {A : List R} {T : Nat} (h : Cn 0 n t b d.f A) (hc : d.cs = []) (hbt : b ≤ t) (ht : t + 2 ≤ T) (hT : T ≤ 1099511627776) (oc : Option Ch) (hA : (oc = none ∧ A = [] ∧ ∀ i, i < N → pg (2 + n) d.f i = V i) ∨ ∃ t0 ch, oc = some ch ∧ A = [(t0, record ch)] ∧ Ok N ch ∧ ∀ i, i < N → over ch (pg (2 + n) d.f) i = V i) :
    (∀ p q, openS n t b oc = p ++ q → ∀ ks, Rs n N T ((exec d p).crash ks).f V) ∧ ∃ b', b' ≤ t + 2 ∧ Calm n N T (openT t oc) b' (exec d (openS n t b oc)) V := by
  have hcomes : Comes (2 + n) N d.f A V := by
    rcases hA with ⟨_, e, hv⟩ | ⟨t0, ch, _, e, ho, hv⟩
    · exact .inl ⟨e, hv⟩
    · exact .inr ⟨t0, ch, e, ho, hv⟩
  have hlike : ∀ g : Int → List UInt8, (∀ i, pg (2 + n) g i = pg (2 + n) d.f i) → Comes (2 + n) N g A V := fun g hg => by
    rcases hcomes with ⟨e, hv⟩ | ⟨t0, ch, e, ho, hv⟩
    · exact .inl ⟨e, fun i hi => (hg i).trans (hv i hi)⟩
    · exact .inr ⟨t0, ch, e, ho, fun i hi => (over_congr (fun _ => hg i)).trans (hv i hi)⟩
  have hslot : slot 0 (t + 1) < 2 := by unfold slot; omega
  obtain ⟨d1, hd1⟩ : ∃ d1, d1 = (d.write (slot 0 (t + 1)) (sealB (sbody (t + 1) b))).burn := ⟨_, rfl⟩
  have hf1 : d1.f = upd d.f (slot 0 (t + 1) : Nat) (pad (sealB (sbody (t + 1) b))) := by rw [hd1]; rfl
  have hcs1 : d1.cs = [⟨slot 0 (t + 1), pad (sealB (sbody (t + 1) b)), d.f (slot 0 (t + 1) : Nat)⟩] := by rw [hd1]; show d.cs ++ [_] = _; rw [hc]; rfl
  have hp1 : ∀ i, pg (2 + n) d1.f i = pg (2 + n) d.f i := fun i => by unfold pg; rw [hf1, upd_other _ _ _ _ (by omega)]
  obtain ⟨d2, hd2⟩ : ∃ d2, d2 = d1.flush.burn := ⟨_, rfl⟩
  have hc2 : d2.cs = [] := by rw [hd2]; rfl
  have hf2 : d2.f = d1.f := by rw [hd2]; rfl
  have hl2 : Life 0 n (t + 1) b d2 A [] := h.opened hbt (by omega) (by rw [hf2, hf1]) hc2
  have hp2 : ∀ i, pg (2 + n) d2.f i = pg (2 + n) d.f i := fun i => by rw [hf2]; exact hp1 i
  have e1 : exec d [slotStep (t + 1) b] = d1 := by rw [hd1]; rfl
  have e2 : exec d [slotStep (t + 1) b, .fl] = d2 := by rw [hd2, hd1]; rfl
  have R0 : ∀ ks, Rs n N T (d.crash ks).f V := fun ks => by rw [crash_none hc]; exact ⟨t, b, A, h, hbt, by omega, hcomes⟩
  have R1 : ∀ ks, Rs n N T (d1.crash ks).f V := fun ks => by
    have hpc : ∀ i, pg (2 + n) (d1.crash ks).f i = pg (2 + n) d.f i := fun i => by
      unfold pg
      rcases crash_at d1 ks ((2 + n + i : Nat) : Int) with e | ⟨x, hx, h1, _⟩
      · rw [e, undo_other (fun x hx h => by rw [hcs1] at hx; rw [List.mem_singleton.1 hx] at h; have h : ((slot 0 (t + 1) : Nat) : Int) = _ := h; omega)]
        exact hp1 i
      · rw [hcs1] at hx; rw [List.mem_singleton.1 hx] at h1; have h1 : ((slot 0 (t + 1) : Nat) : Int) = _ := h1; omega
    rcases slot_crash h hc hbt (by omega) hd1 ks with h1 | h1
    · exact ⟨t, b, A, h1, hbt, by omega, hlike _ hpc⟩
    · exact ⟨t + 1, b, A, h1, by omega, by omega, hlike _ hpc⟩
  have R2 : ∀ ks, Rs n N T (d2.crash ks).f V := fun ks => by
    rw [crash_none hc2]
    exact ⟨t + 1, b, A, life_cn hl2 hc2, by omega, by omega, hlike _ hp2⟩
  have hcut : ∀ p q : List Step, [slotStep (t + 1) b, .fl] = p ++ q → ∀ ks, Rs n N T ((exec d p).crash ks).f V := fun p q hpq ks => by
    match p, hpq with
    | [], _ => exact R0 ks
    | [x], h => simp at h; rw [← h.1, e1]; exact R1 ks
    | [x, y], h => simp at h; rw [← h.1, ← h.2.1, e2]; exact R2 ks
    | x :: y :: z :: p, h => simp at h
  rcases hA with ⟨rfl, rfl, hv⟩ | ⟨t0, ch, rfl, rfl, ho, hv⟩
  · refine ⟨fun p q hpq => hcut p q (by simpa [openS] using hpq), b, by omega, ?_⟩
    show Calm n N T (t + 1) b (exec d [slotStep (t + 1) b, .fl]) V
    rw [e2]
    exact ⟨hl2, hc2, by omega, by omega, fun i hi => (hp2 i).trans (hv i hi)⟩
  · obtain ⟨q1, q2⟩ := tail_crash (t0 := t0) (V := V) (T := T) hl2 hc2 (by omega) (by omega) hT ho (fun i hi => (over_congr (fun _ => hp2 i)).trans (hv i hi))
    refine ⟨fun p q hpq ks => ?_, t + 2, Nat.le_refl _, ?_⟩
    · rcases split_at (show [slotStep (t + 1) b, .fl] ++ tailS n (t + 1) ch = p ++ q from hpq) with ⟨r, h1, _⟩ | ⟨r, rfl, h2⟩
      · exact hcut p r h1 ks
      · rw [exec_app, e2]; exact q1 r q h2 ks
    · show Calm n N T (t + 1 + 1) (t + 1 + 1) (exec d ([slotStep (t + 1) b, .fl] ++ tailS n (t + 1) ch)) V
      rw [exec_app, e2]; exact q2
end
end Pgr
end Go.Proofs.YtmccnlffikegfaaGreatDoor
