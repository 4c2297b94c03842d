/- FrameSpoils is proved: for every transaction, place and byte the law returns true and its arguments read as they did. No other condition. -/
import Derived.Test.YtopmbhpjdmcabaaGm
import Derived.Test.YtopmbhpjdmcabaaGn
import Derived.Test.YtopmbhpjdmcabaaGc
import Derived.Test.YtopmbhpjdmcabaaFra
import Derived.WideKeyPair
import Derived.SizedLaws
namespace Go.Proofs.Ytopmbhpjdmcabaa
open Go.ChangeShapes Go.WideShapes Go.ChangeAt Go.RowKit
open Go.ChangeMaps (open_string shut_string)
namespace LaFrameSpoils
open Cod Sch Frm
theorem nums {a n q k : Nat} (hq : q = a % (n + 4)) (hk : k = 4 + q) (hn : n ≤ 100000) (ha : a < 65536) : 4 ≤ k ∧ k < n + 8 ∧ (a : Int).tmod ((n : Int) + 4) = (q : Int) ∧ wrap64 (a : Int) = (a : Int) ∧ ((n : Int) + 8 - 4) = (n : Int) + 4 ∧ (4 : Int) + (q : Int) = (k : Int) ∧ wrap64 (k : Int) = (k : Int) ∧ (k : Int) ≤ (n : Int) + 8 ∧ (k : Int) < (n : Int) + 8 ∧ (k : Int) + 1 ≤ (n : Int) + 8 ∧ wrap64 ((k : Int) + 1) = (k : Int) + 1 := by
  have hqn : q < n + 4 := by rw [hq]; exact Nat.mod_lt a (by omega)
  have hkn : k < n + 8 := by omega
  refine ⟨by omega, hkn, ?_, by unfold wrap64; omega, by omega, by omega, by unfold wrap64; omega, by omega, by omega, by omega, by unfold wrap64; omega⟩
  rw [Int.tmod_eq_emod_of_nonneg (by omega), hq]; push_cast; rfl
theorem wrapk {k n : Nat} (h : (k : Int) + 1 ≤ (n : Int) + 8) (hn : n ≤ 100000) : IntKind.i64.wrap ((k : Int) + 1) = (k : Int) + 1 := by rw [IntKind.wrap_i64]; omega
theorem wrapz (k : Nat) : (0 : Int) ≤ (k : Int) + 1 := by omega
theorem catk {k n : Nat} (hk : k < n + 8) (hn : n ≤ 100000) : min k (n + 8) = k ∧ (¬ 9223372036854775807 < k + 1) ∧ ¬ 9223372036854775807 < k + 1 + (n + 7 - k) := by omega
theorem str_one (x : Nat) (hx : x < 256) (w0 w' : World) (h : Below (w0.alloc (.cells #[.int .u8 x] 5)).heap.size (w0.alloc (.cells #[.int .u8 x] 5)) w') :
    (convert 48 9 (.slice (some ⟨w0.heap.size, 0, none⟩) 1 1)).run Try.prog w' = .ok (.string (S [UInt8.ofNat x])) w' := by
  refine run_convert_bytes_back (P := Try.prog) w' 48 9 5 ⟨w0.heap.size, 0, none⟩ 1 [UInt8.ofNat x] Try.underlying48 Try.underlying5 Try.underlying9 ?_
  intro j hj
  obtain rfl : j = 0 := by simpa using hj
  show World.cell? _ ⟨w0.heap.size, 0, none⟩ = _
  rw [cell_of_row _ _ 0 _ _ (0, 0) (below_keeps h (heap_alloc_last w0 _))]
  simp; omega
set_option maxHeartbeats 4000000 in
set_option maxRecDepth 100000 in
theorem skip_any (x : X) (a c : Nat) (hi : InnX x) (hl : litB x.l = false) (w : World) (hin : x.In w) :
    Calls Try.prog 5 #[.agg #[.int .i64 x.seq, .int .i64 x.tm, .slice x.co x.l.length x.cc], .int .u16 (a : Nat), .int .u8 (c : Nat)] w fun e w' => e = .returned (.bool true) ∧ Below w.heap.size w w' := by
  have HIN := hidm hin
  have HI := hidm hi
  have HS0 := hidm (BoxX.start x w)
  have CL := hidm (fun (w1 : World) (h1 : Below w.heap.size w w1) => light_any x w1 (hin.later h1) hi)
  rw [hl] at CL
  clear hin hi hl
  go_enter Try.func5, Try.ntmps5
  go_wp2_with fail
  refine (CL.out _ HS0.out.below).mono ?_
  rintro e w1 ⟨rfl, hb⟩
  have HS1 := hidm (HS0.out.then hb)
  clear hb
  go_wp2_with fail
  refine (known_any _).mono ?_
  rintro e w2 ⟨rfl, hb⟩
  have HS2 := hidm (HS1.out.then hb)
  clear hb
  go_wp2_with fail
  go_ret
  exact ⟨rfl, HS2.out.below⟩
set_option maxHeartbeats 4000000 in
set_option maxRecDepth 100000 in
theorem nil_any (x : X) (a c : Nat) (hi : InnX x) (hl : litB x.l = true) (he : encT x.tx = []) (w : World) (hin : x.In w) :
    Calls Try.prog 5 #[.agg #[.int .i64 x.seq, .int .i64 x.tm, .slice x.co x.l.length x.cc], .int .u16 (a : Nat), .int .u8 (c : Nat)] w fun e w' => e = .returned (.bool true) ∧ Below w.heap.size w w' := by
  have HIN := hidm hin
  have HI := hidm hi
  have HS0 := hidm (BoxX.start x w)
  have CL := hidm (fun (w1 : World) (h1 : Below w.heap.size w w1) => light_any x w1 (hin.later h1) hi)
  rw [hl] at CL
  have HLX := lit_x hl hi
  have CE := fun (w1 : World) (h1 : Below w.heap.size w w1) => fenc_any HLX.n HLX.lm HLX.wf w1 (hin.later h1)
  rw [he] at CE
  have CEE := hidm CE
  clear hin hi hl he HLX CE
  go_enter Try.func5, Try.ntmps5
  go_wp2_with fail
  refine (CL.out _ HS0.out.below).mono ?_
  rintro e w1 ⟨rfl, hb⟩
  have HS1 := hidm (HS0.out.then hb)
  clear hb
  have c0 := HS1.out.c0
  have c1 := HS1.out.c1
  have c2 := HS1.out.c2
  go_wp2_with fail
  refine (CEE.out _ HS1.out.below).mono ?_
  rintro e w2 ⟨rfl, hb⟩
  have HS2 := hidm (HS1.out.then hb)
  clear hb
  clear c0 c1 c2
  go_wp2_with fail
  refine (known_any _).mono ?_
  rintro e w3 ⟨rfl, hb⟩
  have HS3 := hidm (HS2.out.then hb)
  clear hb
  go_wp2_with fail
  go_ret
  exact ⟨rfl, HS3.out.below⟩
set_option maxHeartbeats 4000000 in
set_option maxRecDepth 100000 in
theorem zero_any (x : X) (a c : Nat) (hi : InnX x) (ha : a < 65536) (hl : litB x.l = true) (he : encT x.tx ≠ []) (hc : c = 0) (w : World) (hin : x.In w) :
    Calls Try.prog 5 #[.agg #[.int .i64 x.seq, .int .i64 x.tm, .slice x.co x.l.length x.cc], .int .u16 (a : Nat), .int .u8 (c : Nat)] w fun e w' => e = .returned (.bool true) ∧ Below w.heap.size w w' := by
  have HIN := hidm hin
  have HI := hidm hi
  have HS0 := hidm (BoxX.start x w)
  have CL := hidm (fun (w1 : World) (h1 : Below w.heap.size w w1) => light_any x w1 (hin.later h1) hi)
  rw [hl] at CL
  have HLX := lit_x hl hi
  have CE := fun (w1 : World) (h1 : Below w.heap.size w w1) => fenc_any HLX.n HLX.lm HLX.wf w1 (hin.later h1)
  obtain ⟨b, _, hbne, hb1, hbe, hbl, _⟩ := enc_form he
  obtain ⟨E, hE⟩ : ∃ E, E = encT x.tx := ⟨_, rfl⟩
  rw [← hE] at CE hbe hbl
  have hb0 : 1 ≤ b.length := List.length_pos_iff.2 hbne
  obtain ⟨SE, hSE⟩ : ∃ s, s = S E := ⟨_, rfl⟩
  rw [← hSE] at CE
  obtain ⟨n, hn⟩ : ∃ n, n = b.length := ⟨_, rfl⟩
  have hsz : SE.size = n + 8 := by rw [hSE, Crc.S_size, hbl, hn]
  have hlist : SE.data.toList = E := by rw [hSE]
  obtain ⟨q, hq⟩ : ∃ q, q = a % (n + 4) := ⟨_, rfl⟩
  obtain ⟨k, hk⟩ : ∃ k, k = 4 + q := ⟨_, rfl⟩
  have hn1 : n ≤ 100000 := by omega
  have hexs : (SE.extract 0 k).size ≤ 1000000000 := by rw [ByteArray.size_extract]; omega
  obtain ⟨hk4, hkn, hqt, hwa, hrem, hkk, hwk, hkle, hklt, hk1, hwk1⟩ := nums hq hk hn1 ha
  have HQT := hidm hqt
  clear hqt
  have hkn2 : k < b.length + 8 := by rw [← hn]; exact hkn
  have CN1 := hidm (show ∀ w : World, Calls Try.prog 19 #[.string (SE.extract 0 k)] w fun e w' => e = .returned (.tuple #[.string ⟨#[]⟩, .int .i64 0, .int .i64 8]) ∧ Below w.heap.size w w' from fun w => by
    have h := next_any (SE.extract 0 k) hexs w
    rw [Crc.cut_take, hlist, hbe, next_cut hb1 hk4 hkn2] at h
    exact h)
  have CEE := hidm CE
  have hszi : (SE.size : Int) = (n : Int) + 8 := by omega
  subst hc
  have hs : SE.toList.isEmpty = false := by
    rw [ByteArray.toList_eq, hlist]
    cases hEE : E with
    | nil => rw [hEE] at hbl; simp at hbl
    | cons _ _ => rfl
  clear hin hi hl he HLX CE hbe hbl hE hSE hn hlist hbne hk hq ha
  go_enter Try.func5, Try.ntmps5
  have hqt := HQT.out
  clear HQT
  go_wp2_with fail
  refine (CL.out _ HS0.out.below).mono ?_
  rintro e w1 ⟨rfl, hb⟩
  have HS1 := hidm (HS0.out.then hb)
  clear hb
  have c0 := HS1.out.c0
  have c1 := HS1.out.c1
  have c2 := HS1.out.c2
  go_wp2_with fail
  refine (CEE.out _ HS1.out.below).mono ?_
  rintro e w2 ⟨rfl, hb⟩
  have HS2 := hidm (HS1.out.then hb)
  clear hb
  clear c0 c1 c2
  go_wp2_with fail
  refine (CN1.out _).mono ?_
  rintro e w3 ⟨rfl, hb⟩
  have HS3 := hidm (HS2.out.then hb)
  clear hb
  go_wp2_with fail
  refine (known_any _).mono ?_
  rintro e w4 ⟨rfl, hb⟩
  have HS4 := hidm (HS3.out.then hb)
  clear hb
  go_wp2_with fail
  go_ret
  exact ⟨rfl, HS4.out.below⟩
set_option maxHeartbeats 4000000 in
set_option maxRecDepth 100000 in
theorem main_any (x : X) (a c : Nat) (hi : InnX x) (ha : a < 65536) (hc8 : c < 256) (hl : litB x.l = true) (he : encT x.tx ≠ []) (hc : c ≠ 0) (w : World) (hin : x.In w) :
    Calls Try.prog 5 #[.agg #[.int .i64 x.seq, .int .i64 x.tm, .slice x.co x.l.length x.cc], .int .u16 (a : Nat), .int .u8 (c : Nat)] w fun e w' => e = .returned (.bool true) ∧ Below w.heap.size w w' := by
  have HIN := hidm hin
  have HI := hidm hi
  have HS0 := hidm (BoxX.start x w)
  have CL := hidm (fun (w1 : World) (h1 : Below w.heap.size w w1) => light_any x w1 (hin.later h1) hi)
  rw [hl] at CL
  have HLX := lit_x hl hi
  have CE := fun (w1 : World) (h1 : Below w.heap.size w w1) => fenc_any HLX.n HLX.lm HLX.wf w1 (hin.later h1)
  obtain ⟨b, _, hbne, hb1, hbe, hbl, _⟩ := enc_form he
  obtain ⟨E, hE⟩ : ∃ E, E = encT x.tx := ⟨_, rfl⟩
  rw [← hE] at CE hbe hbl
  have hb0 : 1 ≤ b.length := List.length_pos_iff.2 hbne
  obtain ⟨SE, hSE⟩ : ∃ s, s = S E := ⟨_, rfl⟩
  rw [← hSE] at CE
  obtain ⟨n, hn⟩ : ∃ n, n = b.length := ⟨_, rfl⟩
  have hsz : SE.size = n + 8 := by rw [hSE, Crc.S_size, hbl, hn]
  have hlist : SE.data.toList = E := by rw [hSE]
  obtain ⟨q, hq⟩ : ∃ q, q = a % (n + 4) := ⟨_, rfl⟩
  obtain ⟨k, hk⟩ : ∃ k, k = 4 + q := ⟨_, rfl⟩
  have hn1 : n ≤ 100000 := by omega
  have hexs : (SE.extract 0 k).size ≤ 1000000000 := by rw [ByteArray.size_extract]; omega
  obtain ⟨hk4, hkn, hqt, hwa, hrem, hkk, hwk, hkle, hklt, hk1, hwk1⟩ := nums hq hk hn1 ha
  have HQT := hidm hqt
  clear hqt
  have hkn2 : k < b.length + 8 := by rw [← hn]; exact hkn
  have CN1 := hidm (show ∀ w : World, Calls Try.prog 19 #[.string (SE.extract 0 k)] w fun e w' => e = .returned (.tuple #[.string ⟨#[]⟩, .int .i64 0, .int .i64 8]) ∧ Below w.heap.size w w' from fun w => by
    have h := next_any (SE.extract 0 k) hexs w
    rw [Crc.cut_take, hlist, hbe, next_cut hb1 hk4 hkn2] at h
    exact h)
  have CEE := hidm CE
  have hszi : (SE.size : Int) = (n : Int) + 8 := by omega
  have hcl : k < E.length := by rw [hbl]; omega
  obtain ⟨d, hd⟩ : ∃ d : UInt8, SE[k]'(by rw [hsz]; exact hkn) = d := ⟨_, rfl⟩
  have hdE : E[k]'hcl = d := by rw [← hd]; simp only [← hlist]; rfl
  have hd8 := d.toNat_lt
  obtain ⟨y, hy⟩ : ∃ y, y = d.toNat ^^^ c := ⟨_, rfl⟩
  have hy8 : y < 256 := by rw [hy]; exact Nat.xor_lt_two_pow (n := 8) (by omega) (by omega)
  have hxx := u8_xor_nat d.toNat c (by omega) hc8
  rw [← hy] at hxx
  have hne : UInt8.ofNat y ≠ E[k]'hcl := by
    rw [hdE]
    intro e
    have e2 := congrArg UInt8.toNat e
    rw [UInt8.toNat_ofNat', Nat.mod_eq_of_lt (by omega), hy] at e2
    have := congrArg (d.toNat ^^^ ·) e2
    simp only [← Nat.xor_assoc, Nat.xor_self, Nat.zero_xor] at this
    omega
  obtain ⟨u, hu⟩ : ∃ u, u = SE.extract 0 k ++ S [UInt8.ofNat y] ++ SE.extract (k + 1) SE.size := ⟨_, rfl⟩
  have hul : u.data.toList = E.set k (UInt8.ofNat y) := by
    rw [hu, List.set_eq_take_append_cons_drop, if_pos hcl]
    simp only [ByteArray.data_append, Array.toList_append, Crc.cut_take, Crc.cut_drop, hlist]
    simp
  have hus : u.size = n + 8 := by
    have h := congrArg List.length hul
    rw [List.length_set, hbl, Cod.len_eq] at h
    omega
  have CN2 := hidm (show ∀ w : World, Calls Try.prog 19 #[.string u] w fun e w' => e = .returned (.tuple #[.string ⟨#[]⟩, .int .i64 0, .int .i64 9]) ∧ Below w.heap.size w w' from fun w => by
    have h := next_any u (by omega) w
    have h9 : nextB u.data.toList = ([], 0, 9) := by
      rw [hul]
      subst hbe
      exact next_bad hb1 hk4 hcl hne
    rw [h9] at h
    exact h)
  have hs : SE.toList.isEmpty = false := by
    rw [ByteArray.toList_eq, hlist]
    cases hEE : E with
    | nil => rw [hEE] at hbl; simp at hbl
    | cons _ _ => rfl
  have f2 : ((c : Int) == 0) = false := by simp; omega
  have HU := hidm (show SE.extract 0 k ++ S [UInt8.ofNat y] ++ SE.extract (k + 1) (n + 8) = u from by rw [hu, hsz])
  have hxy : bits .xor .u8 (((SE[k]'(by rw [hsz]; exact hkn)).toNat : Nat) : Int) (c : Int) = (y : Int) := by rw [hd]; exact hxx
  have HSZ := hidm hsz
  have HHD := hidm hd
  have HKN := hidm hkn
  have HSZI := hidm hszi
  have hwk2 := wrapk hk1 hn1
  have hwk4 := wrapz k
  obtain ⟨hmn, hc1, hc2⟩ := catk hkn hn1
  clear hin hi hl he HLX CE hbe hbl hE hSE hn hlist hbne hk hq ha hc8 hc hcl hdE hy hne hu hul hus hd
  go_enter Try.func5, Try.ntmps5
  have hqt := HQT.out
  clear HQT
  go_wp2_with fail
  refine (CL.out _ HS0.out.below).mono ?_
  rintro e w1 ⟨rfl, hb⟩
  have HS1 := hidm (HS0.out.then hb)
  clear hb
  have c0 := HS1.out.c0
  have c1 := HS1.out.c1
  have c2 := HS1.out.c2
  go_wp2_with fail
  refine (CEE.out _ HS1.out.below).mono ?_
  rintro e w2 ⟨rfl, hb⟩
  have HS2 := hidm (HS1.out.then hb)
  clear hb
  clear c0 c1 c2
  go_wp2_with fail
  refine (CN1.out _).mono ?_
  rintro e w3 ⟨rfl, hb⟩
  have HS3 := hidm (HS2.out.then hb)
  clear hb
  go_wp2_with fail
  refine wp_region_held_drew (S := fun _ => True) (by kernel_rfl) trivial (fun _ => ?_)
  refine Man.take1 (i := 0) (v := ?_) rfl (by kernel_rfl) (by kernel_rfl) (by kernel_rfl) (fun _ _ _ h => h) (by rfl) ?_ (trivial) ?_
  rotate_left
  · (intro u hSu; go_simp; (try with_reducible rfl))
  (try simp only [Act.put, List.setIfInBounds_toArray, List.set_cons_zero, List.set_cons_succ])
  refine Man.take1 (i := 1) (v := ?_) rfl (by kernel_rfl) (by kernel_rfl) (by kernel_rfl) (fun _ _ _ h => h) (by rfl) ?_ (trivial) ?_
  rotate_left
  · (intro u hSu; go_simp; (try with_reducible rfl))
  (try simp only [Act.put, List.setIfInBounds_toArray, List.set_cons_zero, List.set_cons_succ])
  refine Man.take1 (i := 2) (v := ?_) rfl (by kernel_rfl) (by kernel_rfl) (by kernel_rfl) (fun _ _ _ h => h) (by rfl) ?_ (trivial) ?_
  rotate_left
  · (intro u hSu; go_simp; (try with_reducible rfl))
  (try simp only [Act.put, List.setIfInBounds_toArray, List.set_cons_zero, List.set_cons_succ])
  refine Man.take1 (i := 3) (v := ?_) rfl (by kernel_rfl) (by kernel_rfl) (by kernel_rfl) (fun _ _ _ h => h) (by rfl) ?_ (trivial) ?_
  rotate_left
  · (intro u hSu; go_simp; (try with_reducible rfl))
  (try simp only [Act.put, List.setIfInBounds_toArray, List.set_cons_zero, List.set_cons_succ])
  refine Man.take1 (i := 4) (v := ?_) rfl (by kernel_rfl) (by kernel_rfl) (by kernel_rfl) (fun _ _ _ h => h) (by rfl) ?_ (trivial) ?_
  rotate_left
  · (intro u hSu; go_simp; (try with_reducible rfl))
  (try simp only [Act.put, List.setIfInBounds_toArray, List.set_cons_zero, List.set_cons_succ])
  refine Man.take1 (i := 5) (v := ?_) rfl (by kernel_rfl) (by kernel_rfl) (by kernel_rfl) (fun _ _ _ h => h) (by rfl) ?_ (trivial) ?_
  rotate_left
  · (intro u hSu; go_simp; (try with_reducible rfl))
  (try simp only [Act.put, List.setIfInBounds_toArray, List.set_cons_zero, List.set_cons_succ])
  refine Man.take1 (i := 6) (v := ?_) rfl (by kernel_rfl) (by kernel_rfl) (by kernel_rfl) (fun _ _ _ h => h) (by rfl) ?_ (trivial) ?_
  rotate_left
  · (intro u hSu; go_simp; (try with_reducible rfl))
  (try simp only [Act.put, List.setIfInBounds_toArray, List.set_cons_zero, List.set_cons_succ])
  refine Man.take1 (i := 7) (v := ?_) rfl (by kernel_rfl) (by kernel_rfl) (by kernel_rfl) (fun _ _ _ h => h) (by rfl) ?_ (trivial) ?_
  rotate_left
  · (intro u hSu; go_simp; (try with_reducible rfl))
  (try simp only [Act.put, List.setIfInBounds_toArray, List.set_cons_zero, List.set_cons_succ])
  refine Man.take1 (i := 11) (v := ?_) rfl (by kernel_rfl) (by kernel_rfl) (by kernel_rfl) (fun _ _ _ h => h) (by rfl) ?_ (trivial) ?_
  rotate_left
  · (intro u hSu; go_simp; (try with_reducible rfl))
  (try simp only [Act.put, List.setIfInBounds_toArray, List.set_cons_zero, List.set_cons_succ])
  refine Man.take1 (i := 12) (v := ?_) rfl (by kernel_rfl) (by kernel_rfl) (by kernel_rfl) (fun _ _ _ h => h) (by rfl) ?_ (trivial) ?_
  rotate_left
  · (intro u hSu; go_simp; (try with_reducible rfl))
  (try simp only [Act.put, List.setIfInBounds_toArray, List.set_cons_zero, List.set_cons_succ])
  refine Man.take1 (i := 13) (v := ?_) rfl (by kernel_rfl) (by kernel_rfl) (by kernel_rfl) (fun _ _ _ h => h) (by rfl) ?_ (trivial) ?_
  rotate_left
  · (intro u hSu; go_simp; (try with_reducible rfl))
  (try simp only [Act.put, List.setIfInBounds_toArray, List.set_cons_zero, List.set_cons_succ])
  refine Man.take1 (i := 14) (v := ?_) rfl (by kernel_rfl) (by kernel_rfl) (by kernel_rfl) (fun _ _ _ h => h) (by rfl) ?_ (trivial) ?_
  rotate_left
  · (intro u hSu; go_simp; (try with_reducible rfl))
  (try simp only [Act.put, List.setIfInBounds_toArray, List.set_cons_zero, List.set_cons_succ])
  refine Man.one (i := 8) rfl (by kernel_rfl) (fun K hK => ?_)
  go_simp
  refine hK.out _ _ trivial (fun _ => ?_)
  clear hK K
  (try simp only [Act.put, List.setIfInBounds_toArray, List.set_cons_zero, List.set_cons_succ])
  refine Man.one (i := 9) rfl (by kernel_rfl) (fun K hK => ?_)
  have E1 : (convert 48 9 (.slice (some ⟨w3.heap.size, 0, none⟩) 1 1)).run Try.prog (w3.alloc (.cells #[.int .u8 (y : Nat)] 5)).drew = .ok (.string (S [UInt8.ofNat y])) (w3.alloc (.cells #[.int .u8 (y : Nat)] 5)).drew := str_one y hy8 w3 _ (Below.refl _ _).drew
  go_simp
  refine hK.out _ _ trivial (fun _ => ?_)
  clear hK K
  clear E1
  (try simp only [Act.put, List.setIfInBounds_toArray, List.set_cons_zero, List.set_cons_succ])
  refine Man.take1 (i := 10) (v := ?_) rfl (by kernel_rfl) (by kernel_rfl) (by kernel_rfl) (fun _ _ _ h => h) (by rfl) ?_ (trivial) ?_
  rotate_left
  · (intro u hSu; go_simp; (try with_reducible rfl))
  (try simp only [Act.put, List.setIfInBounds_toArray, List.set_cons_zero, List.set_cons_succ])
  refine Man.take1 (i := 15) (v := ?_) rfl (by kernel_rfl) (by kernel_rfl) (by kernel_rfl) (fun _ _ _ h => h) (by rfl) ?_ (trivial) ?_
  rotate_left
  · (intro u hSu; go_simp; (try with_reducible rfl))
  (try simp only [Act.put, List.setIfInBounds_toArray, List.set_cons_zero, List.set_cons_succ])
  refine Man.one (i := 16) rfl (by kernel_rfl) (fun K hK => ?_)
  go_simp
  go_at_call 19
  skip
  rw [HU.out]
  refine (CN2.out _).mono ?_
  rintro e w4 ⟨rfl, hb⟩
  have HS4 := hidm (HS3.out.then (((Below.refl _ _).alloc (Nat.le_refl w3.heap.size) _).drew.trans (hb.mono (by simp))))
  clear hb
  refine hK.out _ _ trivial (fun _ => ?_)
  clear hK K
  (try simp only [Act.put, List.setIfInBounds_toArray, List.set_cons_zero, List.set_cons_succ])
  refine Man.take1 (i := 17) (v := ?_) rfl (by kernel_rfl) (by kernel_rfl) (by kernel_rfl) (fun _ _ _ h => h) (by rfl) ?_ (trivial) ?_
  rotate_left
  · (intro u hSu; go_simp; (try with_reducible rfl))
  (try simp only [Act.put, List.setIfInBounds_toArray, List.set_cons_zero, List.set_cons_succ])
  refine Man.take1 (i := 18) (v := ?_) rfl (by kernel_rfl) (by kernel_rfl) (by kernel_rfl) (fun _ _ _ h => h) (by rfl) ?_ (trivial) ?_
  rotate_left
  · (intro u hSu; go_simp; (try with_reducible rfl))
  (try simp only [Act.put, List.setIfInBounds_toArray, List.set_cons_zero, List.set_cons_succ])
  refine Man.take1 (i := 19) (v := ?_) rfl (by kernel_rfl) (by kernel_rfl) (by kernel_rfl) (fun _ _ _ h => h) (by rfl) ?_ (trivial) ?_
  rotate_left
  · (intro u hSu; go_simp; (try with_reducible rfl))
  (try simp only [Act.put, List.setIfInBounds_toArray, List.set_cons_zero, List.set_cons_succ])
  refine Man.take1 (i := 20) (v := ?_) rfl (by kernel_rfl) (by kernel_rfl) (by kernel_rfl) (fun _ _ _ h => h) (by rfl) ?_ (trivial) ?_
  rotate_left
  · (intro u hSu; go_simp; (try with_reducible rfl))
  (try simp only [Act.put, List.setIfInBounds_toArray, List.set_cons_zero, List.set_cons_succ])
  refine Man.take1 (i := 21) (v := ?_) rfl (by kernel_rfl) (by kernel_rfl) (by kernel_rfl) (fun _ _ _ h => h) (by rfl) ?_ (trivial) ?_
  rotate_left
  · (intro u hSu; go_simp; (try with_reducible rfl))
  (try simp only [Act.put, List.setIfInBounds_toArray, List.set_cons_zero, List.set_cons_succ])
  refine Man.take1 (i := 22) (v := ?_) rfl (by kernel_rfl) (by kernel_rfl) (by kernel_rfl) (fun _ _ _ h => h) (by rfl) ?_ (trivial) ?_
  rotate_left
  · (intro u hSu; go_simp; (try with_reducible rfl))
  (try simp only [Act.put, List.setIfInBounds_toArray, List.set_cons_zero, List.set_cons_succ])
  refine Man.take1 (i := 23) (v := ?_) rfl (by kernel_rfl) (by kernel_rfl) (by kernel_rfl) (fun _ _ _ h => h) (by rfl) ?_ (trivial) ?_
  rotate_left
  · (intro u hSu; go_simp; (try with_reducible rfl))
  (try simp only [Act.put, List.setIfInBounds_toArray, List.set_cons_zero, List.set_cons_succ])
  refine wpAnyH_done (by kernel_rfl) ?_ _
  skip
  go_wp2_with fail
  refine (known_any _).mono ?_
  rintro e w5 ⟨rfl, hb⟩
  have HS5 := hidm (HS4.out.then hb)
  clear hb
  go_wp2_with fail
  go_ret
  exact ⟨rfl, HS5.out.below⟩
theorem law_any (x : X) (a c : Nat) (hi : InnX x) (ha : a < 65536) (hc : c < 256) (w : World) (hin : x.In w) :
    Calls Try.prog 5 #[.agg #[.int .i64 x.seq, .int .i64 x.tm, .slice x.co x.l.length x.cc], .int .u16 (a : Nat), .int .u8 (c : Nat)] w fun e w' => e = .returned (.bool true) ∧ Below w.heap.size w w' := by
  rcases hl : litB x.l with _ | _
  · exact skip_any x a c hi hl w hin
  · rcases Decidable.em (encT x.tx = []) with he | he
    · exact nil_any x a c hi hl he w hin
    · by_cases h0 : c = 0
      · exact zero_any x a c hi ha hl he h0 w hin
      · exact main_any x a c hi ha hc hl he h0 w hin
theorem laidOut : laidOutB Try.prog = true := by kernel_rfl
set_option maxRecDepth 100000 in
theorem contract (H : Type) (enc : TypeId × Value → H) (W : World) (base : Nat) (args : Array Value) (ds gs : List (DataW H)) (before : List MemPlace)
    (hval : ∀ (j : Nat) t v, Try.f5.params[j]? = some t → args[j]? = some v → Value.okWide Try.prog W .any base t v)
    (hW : DataW.Whole enc Try.prog Try.f5.params.toList Rows.frameSpoilsSpec.vars false W args.toList ds gs before)
    (hsz0 : (DataW.weightsEach Try.prog (Try.f5.params.toList ++ Rows.frameSpoilsSpec.plain.varTypes Try.prog) (ds ++ gs)).all (· ≤ reachBytes) = true) :
    Calls Try.prog 5 args W fun e W' => ∃ v, e = .returned v ∧ Rows.frameSpoilsSpec.post enc Try.prog Try.f5 false true false false W args v W' := by
  have hW' := hW
  obtain ⟨p, q, hA0, hV, rfl, hfz, hnd⟩ := hW
  have hA : DataW.TrodAll enc Try.prog W 0 (fun _ => true) true Try.f5.params.toList args.toList ds p := hA0
  rw [Try.params5] at hA hval hsz0
  obtain ⟨v0, vs0, d0, ds0, p0, q0, hargs, rfl, rfl, h0, r0⟩ := trodAll_cons hA
  obtain ⟨v1, vs1, d1, ds1, p1, q1, rfl, rfl, rfl, h1, r1⟩ := trodAll_cons r0
  obtain ⟨v2, vs2, d2, ds2, p2, q2, rfl, rfl, rfl, h2, r2⟩ := trodAll_cons r1
  obtain ⟨rfl, rfl, rfl⟩ := trodAll_nil r2
  obtain rfl : args = #[v0, v1, v2] := by cases args; simp_all
  obtain ⟨rfl, rfl⟩ := trodVars_none hV
  have hsz := fun n hn => of_decide_eq_true (List.all_eq_true.1 hsz0 n hn)
  obtain ⟨x, rfl, hmx, hix⟩ := open_txn (hval 0 38 v0 rfl rfl) h0 (fun n hn => hsz n (DataW.weights_mem_each (j := 0) (t := 38) rfl rfl n hn))
  obtain ⟨a, rfl, hd1, hp1, wa⟩ := open_int Try.underlying47 (hval 1 47 v1 rfl rfl) h1
  have ba := bounds_u16 wa
  obtain ⟨a, rfl⟩ := Int.eq_ofNat_of_zero_le ba.1
  obtain ⟨c, rfl, hd2, hp2, wc⟩ := open_int Try.underlying5 (hval 2 5 v2 rfl rfl) h2
  have bc := bounds_u8 wc
  obtain ⟨c, rfl⟩ := Int.eq_ofNat_of_zero_le bc.1
  clear hA0 hsz0
  simp only [List.append_nil] at hW'
  have hlt : ∀ x ∈ p0 ++ p1 ++ p2, x.block < W.heap.size := fun x hx => hW'.lt x (by simpa using hx)
  have walk := law_any x a c hix (by omega) (by omega) W hmx
  refine walk.mono fun e W' ⟨he, hg⟩ => ?_
  subst he
  refine ⟨_, rfl, Fr.post_made (pa := p0 ++ (p1 ++ p2)) (pv := []) hW' (fun _ _ _ => trodAll_cons_mk (shut_bool Try.underlying4 _) trodAll_mk0) (fun sp hsp => ?_) (fun _ _ => rfl) (by simp) hg (ok_one (by kernel_rfl) rfl (okWide_bool_mk Try.underlying4 _))⟩
  have g0 : DataW.Trod enc Try.prog W' 0 sp true 38 _ d0 p0 := WideElems.Trod_stays laidOut (by kernel_rfl) (of_decide_eq_true (by kernel_rfl)) h0 (fun x hx => hg.same (hlt x (by simp [hx]))) (fun x hx => hsp x (by simp [hx]))
  have g1 : DataW.Trod enc Try.prog W' 0 sp true 47 _ d1 p1 := WideElems.Trod_stays laidOut (by kernel_rfl) (of_decide_eq_true (by kernel_rfl)) h1 (fun x hx => hg.same (hlt x (by simp [hx]))) (fun x hx => hsp x (by simp [hx]))
  have g2 : DataW.Trod enc Try.prog W' 0 sp true 5 _ d2 p2 := WideElems.Trod_stays laidOut (by kernel_rfl) (of_decide_eq_true (by kernel_rfl)) h2 (fun x hx => hg.same (hlt x (by simp [hx]))) (fun x hx => hsp x (by simp [hx]))
  have hT := (trodAll_cons_mk g0 (trodAll_cons_mk g1 (trodAll_cons_mk g2 trodAll_mk0)))
  simp only [List.append_nil] at hT
  exact hT
set_option maxRecDepth 100000 in
theorem lifted (os : Os) (started : os.Started) (H : Type) (enc : TypeId × Value → H) :
    ReturnsInHanded {} Try.checked os 5 .any (Rows.frameSpoilsSpec.pre6 enc Try.prog Try.f5 Rows.frameSpoilsRow.domain false) (Rows.frameSpoilsSpec.post enc Try.prog Try.f5 false true false false) := by
  refine returnsInHanded_of_change_sized (C := Try.checked) Fr.own started (by kernel_rfl) Try.func5
    (ChangeSpec.witness6 (enc := enc) (C := Try.checked) false ⟨#[], #[.agg #[.int .i64 0, .int .i64 0, .slice none 0 0], .int .u16 0, .int .u8 0], []⟩ 8 (by kernel_rfl) (by kernel_rfl) (by kernel_rfl) (by kernel_rfl)) ?_
  intro W base args ds gs before hval hW _ hsz _
  exact contract H enc W base args ds gs before hval hW hsz
theorem said : Rows.FrameSpoilsSaid :=
  OpenClaim.holds_of_wide 5 Try.f5 rfl rfl rfl rfl rfl rfl rfl ⟨rfl, rfl, rfl, rfl, rfl⟩ rfl rfl rfl rfl rfl (by kernel_rfl) Try.func5 (by kernel_rfl)
    (of_decide_eq_true (by kernel_rfl)) (by unfold Func.isWrapper; first | (rw [if_pos (by decide +kernel)]; kernel_rfl) | (rw [if_neg (by decide +kernel)]; exact ⟨rfl, rfl⟩))
    (fun os started H enc _ => lifted os started H enc)
end LaFrameSpoils
end Go.Proofs.Ytopmbhpjdmcabaa
