/- The program's Seal, Unseal, marked, parts. Condition: texts are at most 2^40 bytes long. -/
import Derived.Test.YtmccnlffikegfaaGreatDoorZWa
import Derived.Test.YtmccnlffikegfaaGreatDoorZKrto
import Derived.Test.YtmccnlffikegfaaGreatDoorZCrto
import Derived.Test.YtmccnlffikegfaaGreatDoorZMan
namespace Go.Proofs.YtmccnlffikegfaaGreatDoor
open Go.RowKit
namespace Wal
open Cod (uB num uint_any)
open Crc (S S_of S_size S_append S_add hidm put took good cut_take below_keeps' put_any take_any)
theorem len_eq (s : ByteArray) : s.data.toList.length = s.size := Array.length_toList
theorem str_one (x : Nat) (hx : x < 256) (w0 w' : World) (h : Below (w0.alloc (.cells #[.int .u8 x] 5)).heap.size (w0.alloc (.cells #[.int .u8 x] 5)) w') :
    (convert 62 9 (.slice (some ⟨w0.heap.size, 0, none⟩) 1 1)).run Tryz.prog w' = .ok (.string (S [UInt8.ofNat x])) w' := by
  refine run_convert_bytes_back (P := Tryz.prog) w' 62 9 5 ⟨w0.heap.size, 0, none⟩ 1 [UInt8.ofNat x] Tryz.underlying62 Tryz.underlying5 Tryz.underlying9 ?_
  intro j hj
  obtain rfl : j = 0 := by simpa using hj
  show World.cell? _ ⟨w0.heap.size, 0, none⟩ = _
  rw [cell_of_row _ _ 0 _ _ (0, 0) (below_keeps' h (heap_alloc_last w0 _))]
  simp; omega
set_option maxHeartbeats 2000000 in
set_option maxRecDepth 100000 in
theorem seal_any (s : ByteArray) (hs : s.size ≤ 1099511627776) (w : World) :
    Calls Tryz.prog 116 #[.string s] w fun e w' => e = .returned (.string (S (sealB s.data.toList))) ∧ Below w.heap.size w w' := by
  rcases Nat.lt_or_ge 123 s.size with h | h
  · have hi : (123 : Int) < (s.size : Int) := by omega
    have hr : S (sealB s.data.toList) = ⟨#[]⟩ := by unfold sealB; rw [if_pos (by rw [len_eq]; exact h)]
    rw [hr]
    clear hr
    go_enter Tryz.func116, Tryz.ntmps116
    go_wp2_with fail
    go_ret
    exact ⟨rfl, Below.refl _ _⟩
  · have hi : ¬ (123 : Int) < (s.size : Int) := by omega
    have hp := fun w => put_any s hs w
    obtain ⟨a, ha⟩ : ∃ a, a = S (put s.data.toList) := ⟨_, rfl⟩
    rw [← ha] at hp
    have hl : a.size ≤ 127 := by rw [ha, S_size, Crc.put_len, len_eq]; omega
    obtain ⟨c, hc⟩ : ∃ c, c = s.size := ⟨_, rfl⟩
    have hcl : c < 256 := by omega
    obtain ⟨b, hb0⟩ : ∃ b, b = S [UInt8.ofNat c] := ⟨_, rfl⟩
    have hl2 : b.size = 1 := by rw [hb0, S_size]; rfl
    have HE : Hid (b ++ a = S (sealB s.data.toList)) := by
      refine hidm ?_
      unfold sealB
      rw [hb0, ha, S_append, if_neg (by rw [len_eq]; omega), len_eq, hc]; rfl
    have hmod : IntKind.u8.wrap (s.size : Int) = (c : Int) := by simp only [IntKind.wrap_u8]; omega
    have E2 : ∀ w0 w' : World, Below (w0.alloc (.cells #[.int .u8 c] 5)).heap.size (w0.alloc (.cells #[.int .u8 c] 5)) w' → (convert 62 9 (.slice (some ⟨w0.heap.size, 0, none⟩) 1 1)).run Tryz.prog w' = .ok (.string b) w' := fun w0 w' hb => by
      rw [hb0]; exact str_one c hcl w0 w' hb
    have E1 : ∀ w0 : World, (convert 62 9 (.slice (some ⟨w0.heap.size, 0, none⟩) 1 1)).run Tryz.prog (w0.alloc (.cells #[.int .u8 c] 5)) = .ok (.string b) (w0.alloc (.cells #[.int .u8 c] 5)) := fun w0 => E2 w0 _ (Below.refl _ _)
    have E3 : ∀ w0 : World, (convert 62 9 (.slice (some ⟨w0.heap.size, 0, none⟩) 1 1)).run Tryz.prog (w0.alloc (.cells #[.int .u8 c] 5)).drew = .ok (.string b) (w0.alloc (.cells #[.int .u8 c] 5)).drew := fun w0 => E2 w0 _ (Below.refl _ _).drew
    have E4 := fun n => E2 w ((w.alloc (.cells #[.int .u8 c] 5)).drewN n) (below_drewN (Below.refl _ _) n)
    have HCC := hidm hc
    clear hc ha hb0
    go_enter Tryz.func116, Tryz.ntmps116
    go_wp2_with fail
    go_region_with (go_at_call 109; (with_reducible refine (hp _).mono ?_); rintro e w' ⟨rfl, hb⟩; (try (have hcv := E2 w _ hb)); (try (have hcv := E2 w _ ((Below.refl _ _).drew.trans hb))))
    all_goals go_wp2_with fail
    all_goals go_ret
    all_goals refine ⟨congrArg (fun q => Ending.returned (.string q)) HE.out, ?_⟩
    all_goals first
      | exact ((Below.refl w.heap.size w).alloc (Nat.le_refl _) _).drew.trans (hb.mono (by simp))
      | exact ((Below.refl w.heap.size w).alloc (Nat.le_refl _) _).drew.drew.trans (hb.mono (by simp))
      | exact (((Below.refl w.heap.size w).drew.trans hb).alloc hb.size _)
      | exact (((Below.refl w.heap.size w).drew.trans hb).alloc hb.size _).drew
set_option maxHeartbeats 2000000 in
set_option maxRecDepth 100000 in
theorem unseal_any (s : ByteArray) (hs : s.size ≤ 1099511627776) (w : World) :
    Calls Tryz.prog 131 #[.string s] w fun e w' => e = .returned (.tuple #[.string (S ((un s.data.toList).getD [])), .bool (un s.data.toList).isSome]) ∧ Below w.heap.size w w' := by
  obtain ⟨U, hU⟩ : ∃ U, U = un s.data.toList := ⟨_, rfl⟩
  rw [← hU]
  rcases Nat.lt_or_ge 0 s.size with h | h
  · have hne : s ≠ ⟨#[]⟩ := fun e => by rw [e] at h; exact absurd h (by decide)
    have hq : s.toList.isEmpty = false := by
      rw [ByteArray.toList_eq]
      have hz := len_eq s
      cases hl : s.data.toList with
      | nil => rw [hl] at hz; simp only [List.length_nil] at hz; omega
      | cons a l => rfl
    have hdrop : s.data.toList = s[0] :: s.data.toList.drop 1 := by
      have := Cod.drop_at s 0 h
      simpa using this
    obtain ⟨c, hc⟩ : ∃ c, c = s[0] := ⟨_, rfl⟩
    have hc256 : c.toNat < 256 := c.toNat_lt
    have hun : U = if 123 < c.toNat ∨ s.size < c.toNat + 5 then none else if good ((s.data.toList.drop 1).take (c.toNat + 4)) then some ((s.data.toList.drop 1).take c.toNat) else none := by
      rw [hU]
      conv => lhs; rw [hdrop, ← hc]
      show (if 123 < c.toNat ∨ (s.data.toList.drop 1).length < c.toNat + 4 then none else if good ((s.data.toList.drop 1).take (c.toNat + 4)) then some ((s.data.toList.drop 1).take c.toNat) else none) = _
      rw [List.length_drop, len_eq]
      have e : (123 < c.toNat ∨ s.size - 1 < c.toNat + 4) = (123 < c.toNat ∨ s.size < c.toNat + 5) := by
        apply propext
        omega
      simp only [e]
    obtain ⟨n, hn⟩ : ∃ n : Nat, n = c.toNat := ⟨_, rfl⟩
    rw [← hn] at hun hc256
    have hidx : s[0].toNat = n := by rw [← hc, hn]
    clear hdrop hU hc hn
    rcases Nat.lt_or_ge 123 n with h1 | h1
    · have f1 : (123 : Int) < (n : Int) := by omega
      rw [if_pos (.inl h1)] at hun
      subst hun
      go_enter Tryz.func131, Tryz.ntmps131
      go_wp2_with fail
      go_ret2
      exact ⟨rfl, by first | exact Below.refl _ _ | exact below_drewN (Below.refl _ _) _⟩
    · have f1 : ¬ (123 : Int) < (n : Int) := by omega
      rcases Nat.lt_or_ge s.size (n + 5) with h2 | h2
      · have f2 : (s.size : Int) < (n : Int) + 5 := by omega
        rw [if_pos (.inr h2)] at hun
        subst hun
        go_enter Tryz.func131, Tryz.ntmps131
        go_wp2_with fail
        go_ret2
        exact ⟨rfl, by first | exact Below.refl _ _ | exact below_drewN (Below.refl _ _) _⟩
      · have f2 : ¬ (s.size : Int) < (n : Int) + 5 := by omega
        rw [if_neg (by omega)] at hun
        obtain ⟨x, hx⟩ : ∃ x, x = s.extract 1 (n + 5) := ⟨_, rfl⟩
        have hxl : x.size ≤ 1099511627776 := by rw [hx, ByteArray.size_extract]; omega
        have hxt : x.data.toList = (s.data.toList.drop 1).take (n + 4) := by
          rw [hx]
          simp only [ByteArray.data_extract, Array.toList_extract, List.extract_eq_take_drop]
          rw [show n + 5 - 1 = n + 4 by omega]
        have HT := fun w => take_any x hxl w
        rw [hxt] at HT
        have hlen : ((s.data.toList.drop 1).take (n + 4)).length = n + 4 := by rw [List.length_take, List.length_drop, len_eq]; omega
        have htk : took ((s.data.toList.drop 1).take (n + 4)) = if good ((s.data.toList.drop 1).take (n + 4)) then (s.data.toList.drop 1).take n else [] := by
          unfold took
          rw [hlen, show n + 4 - 4 = n by omega, List.take_take, show min n (n + 4) = n by omega]
        have hU2 : (.tuple #[.string (S (U.getD [])), .bool U.isSome] : Value) = .tuple #[.string (S (took ((s.data.toList.drop 1).take (n + 4)))), .bool (good ((s.data.toList.drop 1).take (n + 4)))] := by
          rw [hun, htk]
          cases good ((s.data.toList.drop 1).take (n + 4)) <;> rfl
        rw [hU2]
        obtain ⟨a, ha⟩ : ∃ a, a = S (took ((s.data.toList.drop 1).take (n + 4))) := ⟨_, rfl⟩
        obtain ⟨g, hg⟩ : ∃ g, g = good ((s.data.toList.drop 1).take (n + 4)) := ⟨_, rfl⟩
        rw [← ha, ← hg] at HT ⊢
        clear hU2 htk hlen hxt hun ha hg
        have HX := hidm (show s.extract 1 (1 + n + 4) = x from by rw [hx, show 1 + n + 4 = n + 5 by omega])
        clear hx
        go_enter Tryz.func131, Tryz.ntmps131
        go_wp2_with fail
        rw [HX.out]
        refine (HT _).mono ?_
        rintro e w1 ⟨rfl, hb⟩
        have HB := hidm hb
        clear hb HT
        go_wp2_with fail
        go_ret2
        exact ⟨rfl, HB.out⟩
  · have he : s = ⟨#[]⟩ := by
      have h0 : s.data.size = 0 := by have := h; show s.size = 0; omega
      cases s with
      | mk d => congr 1; exact Array.eq_empty_of_size_eq_zero h0
    subst he
    have hun : U = none := hU
    subst hun
    clear hU
    go_enter Tryz.func131, Tryz.ntmps131
    go_wp2_with fail
    go_ret2
    exact ⟨rfl, by first | exact Below.refl _ _ | exact below_drewN (Below.refl _ _) _⟩
/-- What stands behind a mark. -/
theorem hasPrefix_one (m : UInt8) (l : List UInt8) : Lib.hasPrefix l [m] = (match l with | c :: _ => c == m | [] => false) := by
  cases l with
  | nil => rfl
  | cons c l => simp [Lib.hasPrefix, List.isPrefixOf]; exact Bool.beq_comm
theorem un_le (l : List UInt8) : ((un l).getD []).length ≤ l.length := by
  cases l with
  | nil => exact Nat.le_refl _
  | cons c t =>
    show ((if 123 < c.toNat ∨ t.length < c.toNat + 4 then none else if Crc.good (t.take (c.toNat + 4)) then some (t.take c.toNat) else none : Option (List UInt8)).getD []).length ≤ _
    split
    · exact Nat.zero_le _
    · split
      · simp only [Option.getD_some, List.length_take, List.length_cons]; omega
      · exact Nat.zero_le _
theorem trim_one (m : UInt8) (l : List UInt8) : Lib.trimPrefix (m :: l) [m] = l := by
  unfold Lib.trimPrefix
  rw [hasPrefix_one, if_pos (by simp)]
  rfl
structure MarkP (M : Option (List UInt8)) (n : Nat) (w : World) (e : Ending) (w' : World) : Prop where
  ex : ∃ v : ByteArray, e = .returned (.tuple #[.string v, .bool M.isSome]) ∧ (∀ l, M = some l → v = S l) ∧ v.size ≤ n ∧ Below w.heap.size w w'
set_option maxHeartbeats 1000000 in
set_option maxRecDepth 100000 in
theorem marked_any (m : UInt8) (s : ByteArray) (hs : s.size ≤ 1099511627776) (w : World) :
    Calls Tryz.prog 111 #[.string s, .string ⟨#[m]⟩] w fun e w' => MarkP (mk m s.data.toList) s.size w e w' := by
  have hu := unseal_any s hs w
  have hsz : ((un s.data.toList).getD []).length ≤ s.size := by
    rw [← len_eq s]
    exact un_le _
  unfold mk
  obtain ⟨U, hU⟩ : ∃ U, U = un s.data.toList := ⟨_, rfl⟩
  rw [← hU] at hu hsz ⊢
  clear hU
  go_enter Tryz.func111, Tryz.ntmps111
  go_wp2_with fail
  refine hu.mono ?_
  rintro e w1 ⟨rfl, hb⟩
  have HB := hidm hb
  clear hb hu
  cases U with
  | none =>
    simp only [Option.isSome_none]
    go_wp2_with fail
    go_ret2
    exact ⟨⟨_, rfl, fun l h => (by cases h), Nat.zero_le _, HB.out⟩⟩
  | some b =>
    simp only [Option.isSome_some, Option.getD_some] at hsz ⊢
    go_wp2_with fail
    cases b with
    | nil =>
      have HP := Tryz.strings_CutPrefix (S []) ⟨#[m]⟩ w1
      rw [show Lib.hasPrefix (S []).data.toList (⟨#[m]⟩ : ByteArray).data.toList = false from rfl, show Lib.trimPrefix (S []).data.toList (⟨#[m]⟩ : ByteArray).data.toList = [] from rfl] at HP
      refine HP.mono ?_
      rintro e w2 ⟨rfl, rfl⟩
      clear HP
      go_wp2_with fail
      go_ret2
      exact ⟨⟨_, rfl, fun l h => (by cases h), by rw [S_size]; exact Nat.zero_le _, HB.out⟩⟩
    | cons c l =>
      by_cases hcm : c = m
      · subst hcm
        have HP := Tryz.strings_CutPrefix (S (c :: l)) ⟨#[c]⟩ w1
        have h1 : Lib.hasPrefix (c :: l) [c] = true := by rw [hasPrefix_one]; simp
        rw [show Lib.hasPrefix (S (c :: l)).data.toList (⟨#[c]⟩ : ByteArray).data.toList = true from h1, show Lib.trimPrefix (S (c :: l)).data.toList (⟨#[c]⟩ : ByteArray).data.toList = l from trim_one c l] at HP
        obtain ⟨b, hb⟩ : ∃ b, b = S (c :: l) := ⟨_, rfl⟩
        rw [← hb] at HP ⊢
        clear hb h1
        refine HP.mono ?_
        rintro e w2 ⟨rfl, rfl⟩
        clear HP
        have h2 : (S l).size ≤ s.size := by
          rw [S_size]
          simp only [List.length_cons] at hsz
          omega
        clear hsz
        obtain ⟨v, hv⟩ : ∃ v, v = S l := ⟨_, rfl⟩
        rw [show (⟨l.toArray⟩ : ByteArray) = v from hv.symm]
        have HV := hidm hv
        have h3 : v.size ≤ s.size := by rw [hv]; exact h2
        clear hv h2
        go_wp2_with fail
        go_ret2
        exact ⟨⟨_, rfl, fun l' h => (by cases h; exact HV.out), h3, HB.out⟩⟩
      · have HP := Tryz.strings_CutPrefix (S (c :: l)) ⟨#[m]⟩ w1
        have h1 : Lib.hasPrefix (c :: l) [m] = false := by rw [hasPrefix_one]; simpa using hcm
        have h2 : Lib.trimPrefix (c :: l) [m] = c :: l := by unfold Lib.trimPrefix; rw [h1]; rfl
        rw [show Lib.hasPrefix (S (c :: l)).data.toList (⟨#[m]⟩ : ByteArray).data.toList = false from h1, show Lib.trimPrefix (S (c :: l)).data.toList (⟨#[m]⟩ : ByteArray).data.toList = c :: l from h2] at HP
        have h3 : (S (c :: l)).size ≤ s.size := by rw [S_size]; exact hsz
        rw [show (⟨(c :: l).toArray⟩ : ByteArray) = S (c :: l) from rfl] at HP
        obtain ⟨b, hb⟩ : ∃ b, b = S (c :: l) := ⟨_, rfl⟩
        rw [← hb] at HP h3 ⊢
        clear hb h1 h2 hsz
        refine HP.mono ?_
        rintro e w2 ⟨rfl, rfl⟩
        clear HP
        go_wp2_with fail
        go_ret2
        exact ⟨⟨_, rfl, fun l' h => (by cases h), h3, HB.out⟩⟩
set_option maxHeartbeats 1000000 in
theorem parts_any (n : Nat) (hn : n ≤ 9223372036854775807) (w : World) : Calls Tryz.prog 78 #[.int .i64 (n : Int)] w fun e w' => e = .returned (.int .i64 (((n - 1) / 100 + 1 : Nat) : Int)) ∧ w = w' := by
  have h1 : wrap64 ((n : Int) - 1) = (n : Int) - 1 := by unfold wrap64; omega
  obtain ⟨k, hk⟩ : ∃ k : Nat, k = n - 1 := ⟨_, rfl⟩
  rw [← hk]
  have h2 : max ((n : Int) - 1) 0 = (k : Int) := by omega
  have h3 : (k : Int).tdiv 100 = ((k / 100 : Nat) : Int) := by rw [Int.tdiv_eq_ediv_of_nonneg (by omega)]; omega
  go_enter Tryz.func78, Tryz.ntmps78
  go_wp2_with fail
  go_ret
  exact ⟨by go_num, rfl⟩
end Wal
end Go.Proofs.YtmccnlffikegfaaGreatDoor
/- The bodies of a slot and of a place. Conditions: numbers are below 2^64, texts are short. -/
namespace Go.Proofs.YtmccnlffikegfaaGreatDoor
open Go.RowKit
namespace Wal
open Cod (uB uB_ten)
open Crc (S S_of S_size S_append S_add hidm)
theorem uint_any (n : Nat) (hn : n < 18446744073709551616) (w : World) :
    Calls Tryz.prog 73 #[.int .u64 n] w fun e w' => e = .returned (.string (S (uB n))) ∧ Below w.heap.size w w' := Cod.uint_any n hn w
theorem cell_later {w w' : World} {a : Addr} {v : Value} (h : Below w.heap.size w w') (hc : w.cell? a = some v) : w'.cell? a = some v := by
  rw [h.cell (block_lt_of_cell hc)]; exact hc
theorem new_cell (w : World) (C : Array Value) (t : TypeId) (j : Nat) : (w.alloc (.cells C t)).cell? ⟨w.heap.size, j, none⟩ = C[j]? := cell_of_row _ _ j _ _ (0, 0) (heap_alloc_last w _)
theorem slot_step {w : World} {t b : Nat} {w1 w' : World} (h : w1.cell? ⟨w.heap.size, 0, none⟩ = some (.int .u64 (t : Int)) ∧ w1.cell? ⟨w.heap.size, 1, none⟩ = some (.int .u64 (b : Int)) ∧ Below w.heap.size w w1 ∧ w.heap.size ≤ w1.heap.size) (hb : Below w1.heap.size w1 w') : w'.cell? ⟨w.heap.size, 0, none⟩ = some (.int .u64 (t : Int)) ∧ w'.cell? ⟨w.heap.size, 1, none⟩ = some (.int .u64 (b : Int)) ∧ Below w.heap.size w w' ∧ w.heap.size ≤ w'.heap.size := by
  obtain ⟨c0, c1, hB, hz⟩ := h
  exact ⟨cell_later hb c0, cell_later hb c1, hB.trans (hb.mono hz), Nat.le_trans hz hb.size⟩
set_option maxHeartbeats 2000000 in
set_option maxRecDepth 100000 in
theorem slotbody_any (t b : Nat) (ht : t < 18446744073709551616) (hb0 : b < 18446744073709551616) (w : World) :
    Calls Tryz.prog 90 #[.agg #[.int .u64 (t : Int), .int .u64 (b : Int)]] w fun e w' => e = .returned (.string (S (sbody t b))) ∧ Below w.heap.size w w' := by
  have U1 := fun w => uint_any t ht w
  have U2 := fun w => uint_any b hb0 w
  have l1 := uB_ten t ht
  have l2 := uB_ten b hb0
  obtain ⟨x, hx⟩ : ∃ x, x = S (uB t) := ⟨_, rfl⟩
  obtain ⟨y, hy⟩ : ∃ y, y = S (uB b) := ⟨_, rfl⟩
  rw [← hx] at U1
  rw [← hy] at U2
  have hxs : x.size ≤ 10 := by rw [hx, S_size]; exact l1
  have hys : y.size ≤ 10 := by rw [hy, S_size]; exact l2
  have HE : Hid ((⟨#[83]⟩ : ByteArray) ++ x ++ y = S (sbody t b)) := by
    refine hidm ?_
    rw [hx, hy, show (⟨#[83]⟩ : ByteArray) = S [83] from rfl, S_append, S_append]
    rfl
  have g1 : ¬ 9223372036854775807 < 1 + x.size := by omega
  have g2 : ¬ 9223372036854775807 < 1 + x.size + y.size := by omega
  clear hx hy l1 l2
  go_enter Tryz.func90, Tryz.ntmps90
  go_wp2_with fail
  have SS0 : Hid ((w.alloc (.cells #[.int .u64 (t : Int), .int .u64 (b : Int)] 118)).cell? ⟨w.heap.size, 0, none⟩ = some (.int .u64 (t : Int)) ∧ (w.alloc (.cells #[.int .u64 (t : Int), .int .u64 (b : Int)] 118)).cell? ⟨w.heap.size, 1, none⟩ = some (.int .u64 (b : Int)) ∧ Below w.heap.size w (w.alloc (.cells #[.int .u64 (t : Int), .int .u64 (b : Int)] 118)) ∧ w.heap.size ≤ (w.alloc (.cells #[.int .u64 (t : Int), .int .u64 (b : Int)] 118)).heap.size) := hidm ⟨new_cell w _ _ 0, new_cell w _ _ 1, (Below.refl _ _).alloc (Nat.le_refl _) _, by simp⟩
  refine wp_region_held_drew (S := fun u => u.cell? ⟨w.heap.size, 0, none⟩ = some (.int .u64 (t : Int)) ∧ u.cell? ⟨w.heap.size, 1, none⟩ = some (.int .u64 (b : Int)) ∧ Below w.heap.size w u ∧ w.heap.size ≤ u.heap.size) (by kernel_rfl) ?_ (fun hHeld => ?_)
  · exact slot_step SS0.out ((Below.refl _ _).drew)
  refine Man.take1 (i := 0) (v := ?_) rfl (by kernel_rfl) (by kernel_rfl) (by kernel_rfl) (fun _ _ _ h => h) (by rfl) ?_ (by assumption) ?_
  rotate_left
  · (intro u hSu; (try dsimp only at hSu); go_simp; (try with_reducible rfl))
  (try simp only [Act.put, List.setIfInBounds_toArray, List.set_cons_zero, List.set_cons_succ])
  refine Man.take1 (i := 1) (v := ?_) rfl (by kernel_rfl) (by kernel_rfl) (by kernel_rfl) (fun _ _ _ h => h) (by rfl) ?_ (by assumption) ?_
  rotate_left
  · (intro u hSu; (try dsimp only at hSu); go_simp; (try with_reducible rfl))
  (try simp only [Act.put, List.setIfInBounds_toArray, List.set_cons_zero, List.set_cons_succ])
  refine Man.take1 (i := 4) (v := ?_) rfl (by kernel_rfl) (by kernel_rfl) (by kernel_rfl) (fun _ _ _ h => h) (by rfl) ?_ (by assumption) ?_
  rotate_left
  · (intro u hSu; (try dsimp only at hSu); go_simp; (try with_reducible rfl))
  (try simp only [Act.put, List.setIfInBounds_toArray, List.set_cons_zero, List.set_cons_succ])
  refine Man.take1 (i := 5) (v := ?_) rfl (by kernel_rfl) (by kernel_rfl) (by kernel_rfl) (fun _ _ _ h => h) (by rfl) ?_ (by assumption) ?_
  rotate_left
  · (intro u hSu; (try dsimp only at hSu); go_simp; (try with_reducible rfl))
  (try simp only [Act.put, List.setIfInBounds_toArray, List.set_cons_zero, List.set_cons_succ])
  refine Man.one (i := 2) rfl (by kernel_rfl) (fun K hK => ?_)
  go_simp
  (go_at_call 73; (with_reducible refine (U1 _).mono ?_); rintro e w' ⟨rfl, hb⟩)
  refine hK.out _ _ ?_ (fun hNew => ?_)
  · exact slot_step hHeld hb
  clear hHeld hK K hb
  have hHeld := hNew
  clear hNew
  (try simp only [Act.put, List.setIfInBounds_toArray, List.set_cons_zero, List.set_cons_succ])
  refine Man.take1 (i := 3) (v := ?_) rfl (by kernel_rfl) (by kernel_rfl) (by kernel_rfl) (fun _ _ _ h => h) (by rfl) ?_ (by assumption) ?_
  rotate_left
  · (intro u hSu; (try dsimp only at hSu); go_simp; (try with_reducible rfl))
  (try simp only [Act.put, List.setIfInBounds_toArray, List.set_cons_zero, List.set_cons_succ])
  refine Man.one (i := 6) rfl (by kernel_rfl) (fun K hK => ?_)
  go_simp
  (go_at_call 73; (with_reducible refine (U2 _).mono ?_); rintro e w' ⟨rfl, hb⟩)
  refine hK.out _ _ ?_ (fun hNew => ?_)
  · exact slot_step hHeld hb
  clear hHeld hK K hb
  have hHeld := hNew
  clear hNew
  (try simp only [Act.put, List.setIfInBounds_toArray, List.set_cons_zero, List.set_cons_succ])
  refine Man.take1 (i := 7) (v := ?_) rfl (by kernel_rfl) (by kernel_rfl) (by kernel_rfl) (fun _ _ _ h => h) (by rfl) ?_ (by assumption) ?_
  rotate_left
  · (intro u hSu; (try dsimp only at hSu); go_simp; (try with_reducible rfl))
  (try simp only [Act.put, List.setIfInBounds_toArray, List.set_cons_zero, List.set_cons_succ])
  refine Man.take1 (i := 8) (v := ?_) rfl (by kernel_rfl) (by kernel_rfl) (by kernel_rfl) (fun _ _ _ h => h) (by rfl) ?_ (by assumption) ?_
  rotate_left
  · (intro u hSu; (try dsimp only at hSu); go_simp; (try with_reducible rfl))
  (try simp only [Act.put, List.setIfInBounds_toArray, List.set_cons_zero, List.set_cons_succ])
  refine wpAnyH_done (by kernel_rfl) ?_ _
  go_wp2_with fail
  go_ret
  exact ⟨congrArg (fun q => Ending.returned (.string q)) HE.out, hHeld.2.2.1⟩
theorem place_step {w : World} {t : Nat} {m : Bool} {s q : ByteArray} {w1 w' : World} (h : w1.cell? ⟨w.heap.size, 0, none⟩ = some (.int .u64 (t : Int)) ∧ w1.cell? ⟨w.heap.size, 1, none⟩ = some (.bool m) ∧ w1.cell? ⟨w.heap.size, 2, none⟩ = some (.string s) ∧ w1.cell? ⟨w.heap.size, 3, none⟩ = some (.string q) ∧ Below w.heap.size w w1 ∧ w.heap.size ≤ w1.heap.size) (hb : Below w1.heap.size w1 w') : w'.cell? ⟨w.heap.size, 0, none⟩ = some (.int .u64 (t : Int)) ∧ w'.cell? ⟨w.heap.size, 1, none⟩ = some (.bool m) ∧ w'.cell? ⟨w.heap.size, 2, none⟩ = some (.string s) ∧ w'.cell? ⟨w.heap.size, 3, none⟩ = some (.string q) ∧ Below w.heap.size w w' ∧ w.heap.size ≤ w'.heap.size := by
  obtain ⟨c0, c1, c2, c3, hB, hz⟩ := h
  exact ⟨cell_later hb c0, cell_later hb c1, cell_later hb c2, cell_later hb c3, hB.trans (hb.mono hz), Nat.le_trans hz hb.size⟩
set_option maxHeartbeats 4000000 in
set_option maxRecDepth 100000 in
theorem placebody_any (t : Nat) (m : Bool) (s q : ByteArray) (i : Nat) (ht : t < 18446744073709551616) (hi : i < 9223372036854775808) (hs : s.size ≤ 1000) (hq : q.size ≤ 1000) (w : World) :
    Calls Tryz.prog 110 #[.agg #[.int .u64 (t : Int), .bool m, .string s, .string q], .int .i64 (i : Int)] w fun e w' => e = .returned (.string (S (Pl.body ⟨t, m, s.data.toList, q.data.toList⟩ i))) ∧ Below w.heap.size w w' := by
  obtain ⟨k, hk⟩ : ∃ k : Nat, k = if m then 1 else 0 := ⟨_, rfl⟩
  have hk1 : k ≤ 1 := by rw [hk]; split <;> omega
  have U1 := fun w => uint_any t ht w
  have U2 := fun w => uint_any i (by omega) w
  have U3 := fun w => uint_any k (by omega) w
  have l1 := uB_ten t ht
  have l2 := uB_ten i (by omega)
  have l3 := uB_ten k (by omega)
  obtain ⟨x, hx⟩ : ∃ x, x = S (uB t) := ⟨_, rfl⟩
  obtain ⟨y, hy⟩ : ∃ y, y = S (uB i) := ⟨_, rfl⟩
  obtain ⟨z, hz⟩ : ∃ z, z = S (uB k) := ⟨_, rfl⟩
  rw [← hx] at U1
  rw [← hy] at U2
  rw [← hz] at U3
  have hxs : x.size ≤ 10 := by rw [hx, S_size]; exact l1
  have hys : y.size ≤ 10 := by rw [hy, S_size]; exact l2
  have hzs : z.size ≤ 10 := by rw [hz, S_size]; exact l3
  have HE : Hid ((⟨#[76]⟩ : ByteArray) ++ x ++ y ++ z ++ s ++ q = S (Pl.body ⟨t, m, s.data.toList, q.data.toList⟩ i)) := by
    refine hidm ?_
    rw [hx, hy, hz, hk, show (⟨#[76]⟩ : ByteArray) = S [76] from rfl, S_append, S_append, S_append]
    conv => lhs; rw [← S_of s, ← S_of q]
    rw [S_append, S_append]
    rfl
  have g1 : ¬ 9223372036854775807 < 1 + x.size := by omega
  have g2 : ¬ 9223372036854775807 < 1 + x.size + y.size := by omega
  have g3 : ¬ 9223372036854775807 < 1 + x.size + y.size + z.size := by omega
  have g4 : ¬ 9223372036854775807 < 1 + x.size + y.size + z.size + s.size := by omega
  have g5 : ¬ 9223372036854775807 < 1 + x.size + y.size + z.size + s.size + q.size := by omega
  have hw : IntKind.u64.wrap (i : Int) = (i : Int) := by simp only [IntKind.wrap_u64]; omega
  have HK := hidm hk
  clear hx hy hz l1 l2 l3 hk
  have SS0 : Hid ((w.alloc (.cells #[.int .u64 (t : Int), .bool m, .string s, .string q] 139)).cell? ⟨w.heap.size, 0, none⟩ = some (.int .u64 (t : Int)) ∧ (w.alloc (.cells #[.int .u64 (t : Int), .bool m, .string s, .string q] 139)).cell? ⟨w.heap.size, 1, none⟩ = some (.bool m) ∧ (w.alloc (.cells #[.int .u64 (t : Int), .bool m, .string s, .string q] 139)).cell? ⟨w.heap.size, 2, none⟩ = some (.string s) ∧ (w.alloc (.cells #[.int .u64 (t : Int), .bool m, .string s, .string q] 139)).cell? ⟨w.heap.size, 3, none⟩ = some (.string q) ∧ Below w.heap.size w (w.alloc (.cells #[.int .u64 (t : Int), .bool m, .string s, .string q] 139)) ∧ w.heap.size ≤ (w.alloc (.cells #[.int .u64 (t : Int), .bool m, .string s, .string q] 139)).heap.size) := hidm ⟨new_cell w _ _ 0, new_cell w _ _ 1, new_cell w _ _ 2, new_cell w _ _ 3, (Below.refl _ _).alloc (Nat.le_refl _) _, by simp⟩
  cases m with
  | false =>
    obtain rfl : k = 0 := HK.out
    have U3 : ∀ w : World, Calls Tryz.prog 73 #[.int .u64 0] w fun e w' => e = .returned (.string z) ∧ Below w.heap.size w w' := U3
    go_enter Tryz.func110, Tryz.ntmps110
    go_wp2_with fail
    refine wp_region_held_drew (S := fun u => u.cell? ⟨w.heap.size, 0, none⟩ = some (.int .u64 (t : Int)) ∧ u.cell? ⟨w.heap.size, 1, none⟩ = some (.bool false) ∧ u.cell? ⟨w.heap.size, 2, none⟩ = some (.string s) ∧ u.cell? ⟨w.heap.size, 3, none⟩ = some (.string q) ∧ Below w.heap.size w u ∧ w.heap.size ≤ u.heap.size) (by kernel_rfl) ?_ (fun hHeld => ?_)
    · exact place_step SS0.out ((Below.refl _ _).drew)
    refine Man.take1 (i := 0) (v := ?_) rfl (by kernel_rfl) (by kernel_rfl) (by kernel_rfl) (fun _ _ _ h => h) (by rfl) ?_ (by assumption) ?_
    rotate_left
    · (intro u hSu; (try dsimp only at hSu); go_simp; (try with_reducible rfl))
    (try simp only [Act.put, List.setIfInBounds_toArray, List.set_cons_zero, List.set_cons_succ])
    refine Man.take1 (i := 1) (v := ?_) rfl (by kernel_rfl) (by kernel_rfl) (by kernel_rfl) (fun _ _ _ h => h) (by rfl) ?_ (by assumption) ?_
    rotate_left
    · (intro u hSu; (try dsimp only at hSu); go_simp; (try with_reducible rfl))
    (try simp only [Act.put, List.setIfInBounds_toArray, List.set_cons_zero, List.set_cons_succ])
    refine Man.take1 (i := 4) (v := ?_) rfl (by kernel_rfl) (by kernel_rfl) (by kernel_rfl) (fun _ _ _ h => h) (by rfl) ?_ (by assumption) ?_
    rotate_left
    · (intro u hSu; (try dsimp only at hSu); go_simp; (try with_reducible rfl))
    (try simp only [Act.put, List.setIfInBounds_toArray, List.set_cons_zero, List.set_cons_succ])
    refine Man.take1 (i := 5) (v := ?_) rfl (by kernel_rfl) (by kernel_rfl) (by kernel_rfl) (fun _ _ _ h => h) (by rfl) ?_ (by assumption) ?_
    rotate_left
    · (intro u hSu; (try dsimp only at hSu); go_simp; (try with_reducible rfl))
    (try simp only [Act.put, List.setIfInBounds_toArray, List.set_cons_zero, List.set_cons_succ])
    refine Man.take1 (i := 8) (v := ?_) rfl (by kernel_rfl) (by kernel_rfl) (by kernel_rfl) (fun _ _ _ h => h) (by rfl) ?_ (by assumption) ?_
    rotate_left
    · (intro u hSu; (try dsimp only at hSu); go_simp; (try with_reducible rfl))
    (try simp only [Act.put, List.setIfInBounds_toArray, List.set_cons_zero, List.set_cons_succ])
    refine Man.take1 (i := 11) (v := ?_) rfl (by kernel_rfl) (by kernel_rfl) (by kernel_rfl) (fun _ _ _ h => h) (by rfl) ?_ (by assumption) ?_
    rotate_left
    · (intro u hSu; (try dsimp only at hSu); go_simp; (try with_reducible rfl))
    (try simp only [Act.put, List.setIfInBounds_toArray, List.set_cons_zero, List.set_cons_succ])
    refine Man.take1 (i := 12) (v := ?_) rfl (by kernel_rfl) (by kernel_rfl) (by kernel_rfl) (fun _ _ _ h => h) (by rfl) ?_ (by assumption) ?_
    rotate_left
    · (intro u hSu; (try dsimp only at hSu); go_simp; (try with_reducible rfl))
    (try simp only [Act.put, List.setIfInBounds_toArray, List.set_cons_zero, List.set_cons_succ])
    refine Man.take1 (i := 14) (v := ?_) rfl (by kernel_rfl) (by kernel_rfl) (by kernel_rfl) (fun _ _ _ h => h) (by rfl) ?_ (by assumption) ?_
    rotate_left
    · (intro u hSu; (try dsimp only at hSu); go_simp; (try with_reducible rfl))
    (try simp only [Act.put, List.setIfInBounds_toArray, List.set_cons_zero, List.set_cons_succ])
    refine Man.take1 (i := 15) (v := ?_) rfl (by kernel_rfl) (by kernel_rfl) (by kernel_rfl) (fun _ _ _ h => h) (by rfl) ?_ (by assumption) ?_
    rotate_left
    · (intro u hSu; (try dsimp only at hSu); go_simp; (try with_reducible rfl))
    (try simp only [Act.put, List.setIfInBounds_toArray, List.set_cons_zero, List.set_cons_succ])
    refine Man.one (i := 2) rfl (by kernel_rfl) (fun K hK => ?_)
    go_simp
    (go_at_call 73; (with_reducible refine (U1 _).mono ?_); rintro e w' ⟨rfl, hb⟩)
    refine hK.out _ _ ?_ (fun hNew => ?_)
    · exact place_step hHeld hb
    clear hHeld hK K hb
    have hHeld := hNew
    clear hNew
    (try simp only [Act.put, List.setIfInBounds_toArray, List.set_cons_zero, List.set_cons_succ])
    refine Man.take1 (i := 3) (v := ?_) rfl (by kernel_rfl) (by kernel_rfl) (by kernel_rfl) (fun _ _ _ h => h) (by rfl) ?_ (by assumption) ?_
    rotate_left
    · (intro u hSu; (try dsimp only at hSu); go_simp; (try with_reducible rfl))
    (try simp only [Act.put, List.setIfInBounds_toArray, List.set_cons_zero, List.set_cons_succ])
    refine Man.one (i := 6) rfl (by kernel_rfl) (fun K hK => ?_)
    go_simp
    (go_at_call 73; (with_reducible refine (U2 _).mono ?_); rintro e w' ⟨rfl, hb⟩)
    refine hK.out _ _ ?_ (fun hNew => ?_)
    · exact place_step hHeld hb
    clear hHeld hK K hb
    have hHeld := hNew
    clear hNew
    (try simp only [Act.put, List.setIfInBounds_toArray, List.set_cons_zero, List.set_cons_succ])
    refine Man.take1 (i := 7) (v := ?_) rfl (by kernel_rfl) (by kernel_rfl) (by kernel_rfl) (fun _ _ _ h => h) (by rfl) ?_ (by assumption) ?_
    rotate_left
    · (intro u hSu; (try dsimp only at hSu); go_simp; (try with_reducible rfl))
    (try simp only [Act.put, List.setIfInBounds_toArray, List.set_cons_zero, List.set_cons_succ])
    refine Man.one (i := 9) rfl (by kernel_rfl) (fun K hK => ?_)
    go_simp
    (go_at_call 73; (with_reducible refine (U3 _).mono ?_); rintro e w' ⟨rfl, hb⟩)
    refine hK.out _ _ ?_ (fun hNew => ?_)
    · exact place_step hHeld hb
    clear hHeld hK K hb
    have hHeld := hNew
    clear hNew
    (try simp only [Act.put, List.setIfInBounds_toArray, List.set_cons_zero, List.set_cons_succ])
    refine Man.take1 (i := 10) (v := ?_) rfl (by kernel_rfl) (by kernel_rfl) (by kernel_rfl) (fun _ _ _ h => h) (by rfl) ?_ (by assumption) ?_
    rotate_left
    · (intro u hSu; (try dsimp only at hSu); go_simp; (try with_reducible rfl))
    (try simp only [Act.put, List.setIfInBounds_toArray, List.set_cons_zero, List.set_cons_succ])
    refine Man.take1 (i := 13) (v := ?_) rfl (by kernel_rfl) (by kernel_rfl) (by kernel_rfl) (fun _ _ _ h => h) (by rfl) ?_ (by assumption) ?_
    rotate_left
    · (intro u hSu; (try dsimp only at hSu); go_simp; (try with_reducible rfl))
    (try simp only [Act.put, List.setIfInBounds_toArray, List.set_cons_zero, List.set_cons_succ])
    refine Man.take1 (i := 16) (v := ?_) rfl (by kernel_rfl) (by kernel_rfl) (by kernel_rfl) (fun _ _ _ h => h) (by rfl) ?_ (by assumption) ?_
    rotate_left
    · (intro u hSu; (try dsimp only at hSu); go_simp; (try with_reducible rfl))
    (try simp only [Act.put, List.setIfInBounds_toArray, List.set_cons_zero, List.set_cons_succ])
    refine Man.take1 (i := 17) (v := ?_) rfl (by kernel_rfl) (by kernel_rfl) (by kernel_rfl) (fun _ _ _ h => h) (by rfl) ?_ (by assumption) ?_
    rotate_left
    · (intro u hSu; (try dsimp only at hSu); go_simp; (try with_reducible rfl))
    (try simp only [Act.put, List.setIfInBounds_toArray, List.set_cons_zero, List.set_cons_succ])
    refine wpAnyH_done (by kernel_rfl) ?_ _
    go_wp2_with fail
    go_ret
    exact ⟨congrArg (fun q => Ending.returned (.string q)) (HE.out.trans rfl), hHeld.2.2.2.2.1⟩
  | true =>
    obtain rfl : k = 1 := HK.out
    have U3 : ∀ w : World, Calls Tryz.prog 73 #[.int .u64 1] w fun e w' => e = .returned (.string z) ∧ Below w.heap.size w w' := U3
    go_enter Tryz.func110, Tryz.ntmps110
    go_wp2_with fail
    refine wp_region_held_drew (S := fun u => u.cell? ⟨w.heap.size, 0, none⟩ = some (.int .u64 (t : Int)) ∧ u.cell? ⟨w.heap.size, 1, none⟩ = some (.bool true) ∧ u.cell? ⟨w.heap.size, 2, none⟩ = some (.string s) ∧ u.cell? ⟨w.heap.size, 3, none⟩ = some (.string q) ∧ Below w.heap.size w u ∧ w.heap.size ≤ u.heap.size) (by kernel_rfl) ?_ (fun hHeld => ?_)
    · exact place_step SS0.out ((Below.refl _ _).drew)
    refine Man.take1 (i := 0) (v := ?_) rfl (by kernel_rfl) (by kernel_rfl) (by kernel_rfl) (fun _ _ _ h => h) (by rfl) ?_ (by assumption) ?_
    rotate_left
    · (intro u hSu; (try dsimp only at hSu); go_simp; (try with_reducible rfl))
    (try simp only [Act.put, List.setIfInBounds_toArray, List.set_cons_zero, List.set_cons_succ])
    refine Man.take1 (i := 1) (v := ?_) rfl (by kernel_rfl) (by kernel_rfl) (by kernel_rfl) (fun _ _ _ h => h) (by rfl) ?_ (by assumption) ?_
    rotate_left
    · (intro u hSu; (try dsimp only at hSu); go_simp; (try with_reducible rfl))
    (try simp only [Act.put, List.setIfInBounds_toArray, List.set_cons_zero, List.set_cons_succ])
    refine Man.take1 (i := 4) (v := ?_) rfl (by kernel_rfl) (by kernel_rfl) (by kernel_rfl) (fun _ _ _ h => h) (by rfl) ?_ (by assumption) ?_
    rotate_left
    · (intro u hSu; (try dsimp only at hSu); go_simp; (try with_reducible rfl))
    (try simp only [Act.put, List.setIfInBounds_toArray, List.set_cons_zero, List.set_cons_succ])
    refine Man.take1 (i := 5) (v := ?_) rfl (by kernel_rfl) (by kernel_rfl) (by kernel_rfl) (fun _ _ _ h => h) (by rfl) ?_ (by assumption) ?_
    rotate_left
    · (intro u hSu; (try dsimp only at hSu); go_simp; (try with_reducible rfl))
    (try simp only [Act.put, List.setIfInBounds_toArray, List.set_cons_zero, List.set_cons_succ])
    refine Man.take1 (i := 8) (v := ?_) rfl (by kernel_rfl) (by kernel_rfl) (by kernel_rfl) (fun _ _ _ h => h) (by rfl) ?_ (by assumption) ?_
    rotate_left
    · (intro u hSu; (try dsimp only at hSu); go_simp; (try with_reducible rfl))
    (try simp only [Act.put, List.setIfInBounds_toArray, List.set_cons_zero, List.set_cons_succ])
    refine Man.take1 (i := 11) (v := ?_) rfl (by kernel_rfl) (by kernel_rfl) (by kernel_rfl) (fun _ _ _ h => h) (by rfl) ?_ (by assumption) ?_
    rotate_left
    · (intro u hSu; (try dsimp only at hSu); go_simp; (try with_reducible rfl))
    (try simp only [Act.put, List.setIfInBounds_toArray, List.set_cons_zero, List.set_cons_succ])
    refine Man.take1 (i := 12) (v := ?_) rfl (by kernel_rfl) (by kernel_rfl) (by kernel_rfl) (fun _ _ _ h => h) (by rfl) ?_ (by assumption) ?_
    rotate_left
    · (intro u hSu; (try dsimp only at hSu); go_simp; (try with_reducible rfl))
    (try simp only [Act.put, List.setIfInBounds_toArray, List.set_cons_zero, List.set_cons_succ])
    refine Man.take1 (i := 14) (v := ?_) rfl (by kernel_rfl) (by kernel_rfl) (by kernel_rfl) (fun _ _ _ h => h) (by rfl) ?_ (by assumption) ?_
    rotate_left
    · (intro u hSu; (try dsimp only at hSu); go_simp; (try with_reducible rfl))
    (try simp only [Act.put, List.setIfInBounds_toArray, List.set_cons_zero, List.set_cons_succ])
    refine Man.take1 (i := 15) (v := ?_) rfl (by kernel_rfl) (by kernel_rfl) (by kernel_rfl) (fun _ _ _ h => h) (by rfl) ?_ (by assumption) ?_
    rotate_left
    · (intro u hSu; (try dsimp only at hSu); go_simp; (try with_reducible rfl))
    (try simp only [Act.put, List.setIfInBounds_toArray, List.set_cons_zero, List.set_cons_succ])
    refine Man.one (i := 2) rfl (by kernel_rfl) (fun K hK => ?_)
    go_simp
    (go_at_call 73; (with_reducible refine (U1 _).mono ?_); rintro e w' ⟨rfl, hb⟩)
    refine hK.out _ _ ?_ (fun hNew => ?_)
    · exact place_step hHeld hb
    clear hHeld hK K hb
    have hHeld := hNew
    clear hNew
    (try simp only [Act.put, List.setIfInBounds_toArray, List.set_cons_zero, List.set_cons_succ])
    refine Man.take1 (i := 3) (v := ?_) rfl (by kernel_rfl) (by kernel_rfl) (by kernel_rfl) (fun _ _ _ h => h) (by rfl) ?_ (by assumption) ?_
    rotate_left
    · (intro u hSu; (try dsimp only at hSu); go_simp; (try with_reducible rfl))
    (try simp only [Act.put, List.setIfInBounds_toArray, List.set_cons_zero, List.set_cons_succ])
    refine Man.one (i := 6) rfl (by kernel_rfl) (fun K hK => ?_)
    go_simp
    (go_at_call 73; (with_reducible refine (U2 _).mono ?_); rintro e w' ⟨rfl, hb⟩)
    refine hK.out _ _ ?_ (fun hNew => ?_)
    · exact place_step hHeld hb
    clear hHeld hK K hb
    have hHeld := hNew
    clear hNew
    (try simp only [Act.put, List.setIfInBounds_toArray, List.set_cons_zero, List.set_cons_succ])
    refine Man.take1 (i := 7) (v := ?_) rfl (by kernel_rfl) (by kernel_rfl) (by kernel_rfl) (fun _ _ _ h => h) (by rfl) ?_ (by assumption) ?_
    rotate_left
    · (intro u hSu; (try dsimp only at hSu); go_simp; (try with_reducible rfl))
    (try simp only [Act.put, List.setIfInBounds_toArray, List.set_cons_zero, List.set_cons_succ])
    refine Man.one (i := 9) rfl (by kernel_rfl) (fun K hK => ?_)
    go_simp
    (go_at_call 73; (with_reducible refine (U3 _).mono ?_); rintro e w' ⟨rfl, hb⟩)
    refine hK.out _ _ ?_ (fun hNew => ?_)
    · exact place_step hHeld hb
    clear hHeld hK K hb
    have hHeld := hNew
    clear hNew
    (try simp only [Act.put, List.setIfInBounds_toArray, List.set_cons_zero, List.set_cons_succ])
    refine Man.take1 (i := 10) (v := ?_) rfl (by kernel_rfl) (by kernel_rfl) (by kernel_rfl) (fun _ _ _ h => h) (by rfl) ?_ (by assumption) ?_
    rotate_left
    · (intro u hSu; (try dsimp only at hSu); go_simp; (try with_reducible rfl))
    (try simp only [Act.put, List.setIfInBounds_toArray, List.set_cons_zero, List.set_cons_succ])
    refine Man.take1 (i := 13) (v := ?_) rfl (by kernel_rfl) (by kernel_rfl) (by kernel_rfl) (fun _ _ _ h => h) (by rfl) ?_ (by assumption) ?_
    rotate_left
    · (intro u hSu; (try dsimp only at hSu); go_simp; (try with_reducible rfl))
    (try simp only [Act.put, List.setIfInBounds_toArray, List.set_cons_zero, List.set_cons_succ])
    refine Man.take1 (i := 16) (v := ?_) rfl (by kernel_rfl) (by kernel_rfl) (by kernel_rfl) (fun _ _ _ h => h) (by rfl) ?_ (by assumption) ?_
    rotate_left
    · (intro u hSu; (try dsimp only at hSu); go_simp; (try with_reducible rfl))
    (try simp only [Act.put, List.setIfInBounds_toArray, List.set_cons_zero, List.set_cons_succ])
    refine Man.take1 (i := 17) (v := ?_) rfl (by kernel_rfl) (by kernel_rfl) (by kernel_rfl) (fun _ _ _ h => h) (by rfl) ?_ (by assumption) ?_
    rotate_left
    · (intro u hSu; (try dsimp only at hSu); go_simp; (try with_reducible rfl))
    (try simp only [Act.put, List.setIfInBounds_toArray, List.set_cons_zero, List.set_cons_succ])
    refine wpAnyH_done (by kernel_rfl) ?_ _
    go_wp2_with fail
    go_ret
    exact ⟨congrArg (fun q => Ending.returned (.string q)) (HE.out.trans rfl), hHeld.2.2.2.2.1⟩
end Wal
end Go.Proofs.YtmccnlffikegfaaGreatDoor
