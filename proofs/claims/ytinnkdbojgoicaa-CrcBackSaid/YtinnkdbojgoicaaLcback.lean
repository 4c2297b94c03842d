/- CrcBack is proved: for every text, place and byte the law returns true and its arguments read as they did. No other condition. -/
import Derived.Test.YtinnkdbojgoicaaKv
import Derived.Test.YtinnkdbojgoicaaFra
namespace Go.Proofs.Ytinnkdbojgoicaa
open Go.ChangeShapes Go.WideShapes Go.ChangeAt Go.RowKit
open Go.ChangeMaps (open_string shut_string)
namespace LaCrcBack
open Crc
theorem long_any (s : ByteArray) (k b : Nat) (ht : 2000 < s.size) (w : World) : Calls Try.prog 6 #[.string s, .int .u16 k, .int .u8 b] w fun e w' => e = .returned (.bool true) ∧ Below w.heap.size w w' := by
  have f1 : (2000 : Int) < (s.size : Int) := by omega
  have f2 : 2000 < s.size := ht
  go_enter Try.func6, Try.ntmps6
  go_wp2_with fail
  refine (known_any w).mono ?_
  rintro e w1 ⟨rfl, hb⟩
  have HB1 := hidm hb
  clear hb
  go_wp2_with fail
  go_ret
  exact ⟨rfl, HB1.out⟩
set_option maxHeartbeats 4000000 in
set_option maxRecDepth 100000 in
theorem zero_any (s : ByteArray) (k : Nat) (hs : s.size ≤ 2000) (w : World) : Calls Try.prog 6 #[.string s, .int .u16 k, .int .u8 0] w fun e w' => e = .returned (.bool true) ∧ Below w.heap.size w w' := by
  have f1 : ¬ (2000 : Int) < (s.size : Int) := by omega
  obtain ⟨p, hp, cp, ct⟩ := put_named s.data.toList (by rw [len_eq]; omega)
  rw [len_eq] at hp
  simp only [S_of] at cp ct
  have g1 : (s.toList == s.toList) = true := by simp
  have hps : (p.size : Int) = (s.size : Int) + 4 := by omega
  clear hp
  go_enter Try.func6, Try.ntmps6
  go_wp2_with fail
  refine (cp w).mono ?_
  rintro e w1 ⟨rfl, hb⟩
  have HB1 := hidm hb
  clear hb
  go_wp2_with fail
  refine (ct w1).mono ?_
  rintro e w2 ⟨rfl, hb⟩
  have HB2 := keep_b HB1 hb
  clear hb
  go_wp2_with fail
  refine (known_any w2).mono ?_
  rintro e w3 ⟨rfl, hb⟩
  have HB3 := keep_b HB2 hb
  clear hb
  go_wp2_with fail
  go_ret
  exact ⟨rfl, HB3.out⟩
/-- A text of one byte, out of a new block. -/
theorem str_one (x : Nat) (hx : x < 256) (w0 w' : World) (h : Below (w0.alloc (.cells #[.int .u8 x] 5)).heap.size (w0.alloc (.cells #[.int .u8 x] 5)) w') :
    (convert 22 9 (.slice (some ⟨w0.heap.size, 0, none⟩) 1 1)).run Try.prog w' = .ok (.string (S [UInt8.ofNat x])) w' := by
  refine run_convert_bytes_back (P := Try.prog) w' 22 9 5 ⟨w0.heap.size, 0, none⟩ 1 [UInt8.ofNat x] Try.underlying22 Try.underlying5 Try.underlying9 ?_
  intro j hj
  obtain rfl : j = 0 := by simpa using hj
  show World.cell? _ ⟨w0.heap.size, 0, none⟩ = _
  rw [cell_of_row _ _ 0 _ _ (0, 0) (below_keeps' h (heap_alloc_last w0 _))]
  simp; omega
set_option maxHeartbeats 4000000 in
set_option maxRecDepth 100000 in
theorem short_any (s : ByteArray) (k b : Nat) (hk : k < 65536) (hb0 : b ≠ 0) (hb8 : b < 256) (hs : s.size ≤ 2000) (w : World) : Calls Try.prog 6 #[.string s, .int .u16 k, .int .u8 b] w fun e w' => e = .returned (.bool true) ∧ Below w.heap.size w w' := by
  have f1 : ¬ (2000 : Int) < (s.size : Int) := by omega
  have f2 : ((b : Int) == 0) = false := by simp; omega
  obtain ⟨p, hp⟩ : ∃ p, p = S (put s.data.toList) := ⟨_, rfl⟩
  have hpl : p.data.toList = put s.data.toList := by rw [hp]
  have hps : p.size = s.size + 4 := by rw [hp, S_size, put_len, len_eq]
  have cp := fun w => put_any s (by omega) w
  have ct := fun w => take_any p (by omega) w
  rw [← hp] at cp
  rw [hpl, took_put, good_put, S_of] at ct
  have g1 : (s.toList == s.toList) = true := by simp
  have hpsi : (p.size : Int) = (s.size : Int) + 4 := by omega
  obtain ⟨q, hq⟩ : ∃ q, q = k % p.size := ⟨_, rfl⟩
  have hql : q < p.size := by rw [hq]; exact Nat.mod_lt _ (by omega)
  have hqi : (k : Int) % ((s.size : Int) + 4) = (q : Int) := by rw [hq, ← hpsi]; push_cast; rfl
  obtain ⟨c, hc⟩ : ∃ c : UInt8, p[q] = c := ⟨_, rfl⟩
  have hcl := c.toNat_lt
  obtain ⟨x, hx⟩ : ∃ x, x = c.toNat ^^^ b := ⟨_, rfl⟩
  have hx8 : x < 256 := by rw [hx]; exact Nat.xor_lt_two_pow (n := 8) (by omega) (by omega)
  have hxx := u8_xor_nat c.toNat b (by omega) hb8
  rw [← hx] at hxx
  have hgetl : (put s.data.toList)[q]'(by rw [put_len, len_eq]; omega) = c := by
    rw [← hc]
    simp only [← hpl]
    rfl
  have hne : UInt8.ofNat x ≠ (put s.data.toList)[q]'(by rw [put_len, len_eq]; omega) := by
    rw [hgetl]
    intro e
    have e2 := congrArg UInt8.toNat e
    rw [UInt8.toNat_ofNat', Nat.mod_eq_of_lt (by omega), hx] at e2
    have := congrArg (c.toNat ^^^ ·) e2
    simp only [← Nat.xor_assoc, Nat.xor_self, Nat.zero_xor] at this
    omega
  have hbad := good_set s.data.toList q (UInt8.ofNat x) (by rw [put_len, len_eq]; omega) hne
  obtain ⟨l, hl⟩ : ∃ l, l = p.extract 0 q := ⟨_, rfl⟩
  obtain ⟨r, hr⟩ : ∃ r, r = p.extract (q + 1) p.size := ⟨_, rfl⟩
  obtain ⟨m, hm⟩ : ∃ m, m = S [UInt8.ofNat x] := ⟨_, rfl⟩
  obtain ⟨u, hu⟩ : ∃ u, u = l ++ m ++ r := ⟨_, rfl⟩
  have hll : l.size ≤ 2004 := by rw [hl, ByteArray.size_extract]; omega
  have hrl : r.size ≤ 2004 := by rw [hr, ByteArray.size_extract]; omega
  have hml : m.size = 1 := by rw [hm, S_size]; rfl
  have hul : u.data.toList = (put s.data.toList).set q (UInt8.ofNat x) := by
    rw [hu, List.set_eq_take_append_cons_drop, if_pos (by rw [put_len, len_eq]; omega), hm, hl, hr]
    simp only [ByteArray.data_append, Array.toList_append, cut_take, cut_drop, hpl]
    simp
  have cu := fun w => take_any u (by rw [hu, ByteArray.size_append, ByteArray.size_append]; omega) w
  have ht : S (took u.data.toList) = ⟨#[]⟩ := by unfold took; rw [hul, if_neg (by rw [hbad]; simp)]
  rw [ht, hul, hbad] at cu
  have E2 : ∀ w0 w' : World, Below (w0.alloc (.cells #[.int .u8 x] 5)).heap.size (w0.alloc (.cells #[.int .u8 x] 5)) w' → (convert 22 9 (.slice (some ⟨w0.heap.size, 0, none⟩) 1 1)).run Try.prog w' = .ok (.string m) w' := fun w0 w' hb => by
    rw [hm]; exact str_one x hx8 w0 w' hb
  have HL := hidm hl.symm
  have HR := hidm hr.symm
  have HU := hidm hu.symm
  have hq1 : (q : Int) < (p.size : Int) := by omega
  have hq4 : (q : Int) ≤ 3000 := by omega
  have hA1 : ¬ 9223372036854775807 < l.size + m.size := by omega
  have hA2 : ¬ 9223372036854775807 < (l ++ m).size + r.size := by rw [ByteArray.size_append]; omega
  have hA3 : ¬ 9223372036854775807 < l.size + m.size + r.size := by omega
  have hq2 : (q : Int) ≤ (p.size : Int) := by omega
  have hq3 : (q : Int) + 1 ≤ (p.size : Int) := by omega
  have HQI := hidm hqi
  have HP := hidm hpsi
  clear hp hpl hq hx hgetl hne hbad hl hr hm hu hul ht hps hqi hb0
  go_enter Try.func6, Try.ntmps6
  go_wp2_with fail
  refine (cp w).mono ?_
  rintro e w1 ⟨rfl, hb⟩
  have HB1 := hidm hb
  clear hb
  go_wp2_with fail
  refine (ct w1).mono ?_
  rintro e w2 ⟨rfl, hb⟩
  have HB2 := keep_b HB1 hb
  clear hb
  have hqi := HQI.out
  go_wp2_with fail
  simp only [hqi]
  clear hqi hpsi cp ct g1 f2 hml
  have e1 : p.extract 0 q = l := HL.out
  have e2 : p.extract (q + 1) p.size = r := HR.out
  have e3 : l ++ m ++ r = u := HU.out
  have E1 := fun w0 => E2 w0 _ (Below.refl _ _)
  have E3 := fun w0 => E2 w0 _ (Below.refl _ _).drew
  have E4 := fun n => E2 w2 _ (below_drewN (Below.refl _ _) n)
  have e4 : IntKind.i64.wrap ((q : Int) + 1) = (q : Int) + 1 := by simp only [IntKind.wrap_i64]; omega
  go_region_with (go_at_call 28; (with_reducible refine (cu _).mono ?_); rintro e w' ⟨rfl, hb⟩)
  all_goals (have HB3 := hidm (HB2.out.trans ((((Below.refl w2.heap.size w2).alloc (Nat.le_refl _) _).drew.trans (hb.mono (by simp))).mono HB2.out.size)); clear hb E1 E2 E3 E4 e1 e2 e3 e4 cu)
  all_goals go_wp2_with fail
  all_goals refine (known_any _).mono ?_
  all_goals rintro e w4 ⟨rfl, hb⟩
  all_goals (have HB4 := keep_b HB3 hb; clear hb)
  all_goals go_wp2_with fail
  all_goals go_ret
  all_goals exact ⟨rfl, HB4.out⟩
theorem law_any (s : ByteArray) (k b : Nat) (hk : k < 65536) (hb : b < 256) (w : World) : Calls Try.prog 6 #[.string s, .int .u16 k, .int .u8 b] w fun e w' => e = .returned (.bool true) ∧ Below w.heap.size w w' := by
  rcases Nat.lt_or_ge 2000 s.size with h | h
  · exact long_any s k b h w
  · by_cases h0 : b = 0
    · subst h0; exact zero_any s k h w
    · exact short_any s k b hk h0 hb h w
set_option maxRecDepth 100000 in
theorem contract (H : Type) (enc : TypeId × Value → H) (W : World) (base : Nat) (args : Array Value) (ds gs : List (DataW H)) (before : List MemPlace)
    (hval : ∀ (j : Nat) t v, Try.f6.params[j]? = some t → args[j]? = some v → Value.okWide Try.prog W .any base t v)
    (hW : DataW.Whole enc Try.prog Try.f6.params.toList Rows.crcBackSpec.vars false W args.toList ds gs before) :
    Calls Try.prog 6 args W fun e W' => ∃ v, e = .returned v ∧ Rows.crcBackSpec.post enc Try.prog Try.f6 false true false false W args v W' := by
  have hW' := hW
  obtain ⟨p, q, hA0, hV, rfl, hfz, hnd⟩ := hW
  have hA : DataW.TrodAll enc Try.prog W 0 (fun _ => true) true Try.f6.params.toList args.toList ds p := hA0
  rw [Try.params6] at hA hval
  obtain ⟨v0, vs0, d0, ds0, p0, q0, hargs, rfl, rfl, h0, r0⟩ := trodAll_cons hA
  obtain ⟨v1, vs1, d1, ds1, p1, q1, rfl, rfl, rfl, h1, r1⟩ := trodAll_cons r0
  obtain ⟨v2, vs2, d2, ds2, p2, q2, rfl, rfl, rfl, h2, r2⟩ := trodAll_cons r1
  obtain ⟨rfl, rfl, rfl⟩ := trodAll_nil r2
  obtain rfl : args = #[v0, v1, v2] := by cases args; simp_all
  obtain ⟨rfl, rfl⟩ := trodVars_none hV
  obtain ⟨t, rfl, rfl, rfl, wt⟩ := open_string Try.underlying9 (hval 0 9 v0 rfl rfl) h0
  obtain ⟨x, rfl, rfl, rfl, wx⟩ := open_int Try.underlying50 (hval 1 50 v1 rfl rfl) h1
  obtain ⟨z, rfl, rfl, rfl, wz⟩ := open_int Try.underlying5 (hval 2 5 v2 rfl rfl) h2
  clear hA0
  simp only [List.append_nil] at hW'
  have bx := bounds_u16 wx
  obtain ⟨x, rfl⟩ := Int.eq_ofNat_of_zero_le bx.1
  have bz := bounds_u8 wz
  obtain ⟨z, rfl⟩ := Int.eq_ofNat_of_zero_le bz.1
  have walk := law_any t x z (by omega) (by omega) W
  refine walk.mono fun e W' ⟨he, hg⟩ => ?_
  subst he
  exact ⟨_, rfl, Fr.post_made (pa := []) (pv := []) hW' (fun _ _ _ => trodAll_cons_mk (shut_bool Try.underlying4 _) trodAll_mk0) (fun _ _ => trodAll_cons_mk (shut_string Try.underlying9 wt) (trodAll_cons_mk (shut_int Try.underlying50 wx) (trodAll_cons_mk (shut_int Try.underlying5 wz) trodAll_mk0))) (fun _ _ => rfl) rfl hg (ok_one (by kernel_rfl) rfl (okWide_bool_mk Try.underlying4 _))⟩
set_option maxRecDepth 100000 in
theorem lifted (os : Os) (started : os.Started) (H : Type) (enc : TypeId × Value → H) :
    ReturnsInHanded {} Try.checked os 6 .any (Rows.crcBackSpec.pre6 enc Try.prog Try.f6 Rows.crcBackRow.domain false) (Rows.crcBackSpec.post enc Try.prog Try.f6 false true false false) := by
  refine returnsInHanded_of_change (C := Try.checked) Fr.own started (by kernel_rfl) Try.func6
    (ChangeSpec.witness6 (enc := enc) (C := Try.checked) false ⟨#[], #[.string ⟨#[]⟩, .int .u16 0, .int .u8 0], []⟩ 8 (by kernel_rfl) (by kernel_rfl) (by kernel_rfl) (by kernel_rfl)) ?_
  intro W base args ds gs before hval hW _ _
  exact contract H enc W base args ds gs before hval hW
theorem said : Rows.CrcBackSaid :=
  OpenClaim.holds_of_wide 6 Try.f6 rfl rfl rfl rfl rfl rfl rfl ⟨rfl, rfl, rfl, rfl, rfl⟩ rfl rfl rfl rfl rfl (by kernel_rfl) Try.func6 (by kernel_rfl)
    (of_decide_eq_true (by kernel_rfl)) (by unfold Func.isWrapper; first | (rw [if_pos (by decide +kernel)]; kernel_rfl) | (rw [if_neg (by decide +kernel)]; exact ⟨rfl, rfl⟩))
    (fun os started H enc _ => lifted os started H enc)
end LaCrcBack
end Go.Proofs.Ytinnkdbojgoicaa
