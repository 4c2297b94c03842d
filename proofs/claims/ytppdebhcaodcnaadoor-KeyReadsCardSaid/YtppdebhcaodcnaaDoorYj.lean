/- valueOf of package key. Conditions: the text has as many bytes as the kind wants, and at most a million; bytealg's MaxLen holds some number. -/
import Derived.Test.YtppdebhcaodcnaaDoorYi
import Derived.Test.YtppdebhcaodcnaaDoorTg
namespace Go.Proofs.YtppdebhcaodcnaaDoor
open Go.RowKit Cod
namespace Ky
def ValOut (k : Int) (s : ByteArray) (w : World) (e : Ending) (w' : World) : Prop := ∃ v : V, e = .returned v.agg ∧ (v.inn ∧ ∀ u : V, u.right = true → u.inn → u.k = k → s.data.toList = rest u → v = u) ∧ Below w.heap.size w w'
theorem form_k {u : V} (hr : u.right = true) : (u.k = 0 → u = ⟨0, 0, 0, []⟩) ∧ (u.k = 1 → ∃ n, u = ⟨1, n, 0, []⟩ ∧ (n = 0 ∨ n = 1)) ∧ (u.k = 2 → ∃ n, u = ⟨2, n, 0, []⟩) ∧ (u.k = 3 → ∃ x, u = ⟨3, 0, x, []⟩) ∧ (u.k = 4 → ∃ t, u = ⟨4, 0, 0, t⟩) ∧ (u.k = 5 → ∃ t, u = ⟨5, 0, 0, t⟩) := by
  rcases right_form hr with rfl | ⟨n, rfl, hn⟩ | ⟨n, rfl⟩ | ⟨x, rfl⟩ | ⟨s, rfl, hs⟩ | ⟨s, rfl, hs⟩
  · exact ⟨fun _ => rfl, fun h => absurd h (by decide), fun h => absurd h (by decide), fun h => absurd h (by decide), fun h => absurd h (by decide), fun h => absurd h (by decide)⟩
  · exact ⟨fun h => absurd h (show ¬ (1 : Int) = 0 by decide), fun _ => ⟨n, rfl, hn⟩, fun h => absurd h (show ¬ (1 : Int) = 2 by decide), fun h => absurd h (show ¬ (1 : Int) = 3 by decide), fun h => absurd h (show ¬ (1 : Int) = 4 by decide), fun h => absurd h (show ¬ (1 : Int) = 5 by decide)⟩
  · exact ⟨fun h => absurd h (show ¬ (2 : Int) = 0 by decide), fun h => absurd h (show ¬ (2 : Int) = 1 by decide), fun _ => ⟨n, rfl⟩, fun h => absurd h (show ¬ (2 : Int) = 3 by decide), fun h => absurd h (show ¬ (2 : Int) = 4 by decide), fun h => absurd h (show ¬ (2 : Int) = 5 by decide)⟩
  · exact ⟨fun h => absurd h (show ¬ (3 : Int) = 0 by decide), fun h => absurd h (show ¬ (3 : Int) = 1 by decide), fun h => absurd h (show ¬ (3 : Int) = 2 by decide), fun _ => ⟨x, rfl⟩, fun h => absurd h (show ¬ (3 : Int) = 4 by decide), fun h => absurd h (show ¬ (3 : Int) = 5 by decide)⟩
  · exact ⟨fun h => absurd h (show ¬ (4 : Int) = 0 by decide), fun h => absurd h (show ¬ (4 : Int) = 1 by decide), fun h => absurd h (show ¬ (4 : Int) = 2 by decide), fun h => absurd h (show ¬ (4 : Int) = 3 by decide), fun _ => ⟨s, rfl⟩, fun h => absurd h (show ¬ (4 : Int) = 5 by decide)⟩
  · exact ⟨fun h => absurd h (show ¬ (5 : Int) = 0 by decide), fun h => absurd h (show ¬ (5 : Int) = 1 by decide), fun h => absurd h (show ¬ (5 : Int) = 2 by decide), fun h => absurd h (show ¬ (5 : Int) = 3 by decide), fun h => absurd h (show ¬ (5 : Int) = 4 by decide), fun _ => ⟨s, rfl⟩⟩
theorem trim_esc (t : List UInt8) : Lib.trimSuffix (esc t ++ [0, 1]) [0, 1] = esc t := by
  unfold Lib.trimSuffix Lib.hasSuffix
  rw [if_pos (by rw [List.isSuffixOf_iff_suffix]; exact ⟨esc t, rfl⟩)]
  simp
theorem index_room (l : List UInt8) : Lib.index l [0, 255] = -1 ∨ Lib.index l [0, 255] + 2 ≤ l.length := by
  induction l with
  | nil => left; rfl
  | cons c l ih =>
    unfold Lib.index
    split
    · rename_i h
      right
      cases l with
      | nil => simp [List.isPrefixOf] at h
      | cons d l => simp only [List.length_cons]; omega
    · split
      · left; rfl
      · rename_i h2
        rcases ih with h | h
        · exact absurd (by rw [h]; rfl) h2
        · right; simp only [List.length_cons]; omega
theorem repl_len (l : List UInt8) : (Lib.replaceAll l [0, 255] [0]).length ≤ l.length := by
  have key : ∀ (k : Nat) (l : List UInt8), (Lib.replaceK [0, 255] [0] k l).length ≤ l.length := by
    intro k
    induction k with
    | zero => intro l; exact Nat.le_refl _
    | succ k ih =>
      intro l
      simp only [Lib.replaceK]
      split
      · exact Nat.le_refl _
      · rename_i h
        have hge := Lib.index_ge l [0, 255]
        obtain ⟨i, hi⟩ : ∃ i : Nat, Lib.index l [0, 255] = i := ⟨(Lib.index l [0, 255]).toNat, by have : Lib.index l [0, 255] ≠ -1 := fun e => h (by rw [e]; rfl); omega⟩
        have h2 := Lib.drop_shorter (s := l) (sub := [0, 255]) (by simp) h
        rw [hi] at h2 ⊢
        have h4 := index_room l
        rw [hi] at h4
        have h3 := ih (l.drop ((i : Int).toNat + ([0, 255] : List UInt8).length))
        simp only [List.length_append, List.length_take, List.length_drop, List.length_cons, List.length_nil] at h2 h3 ⊢
        omega
  unfold Lib.replaceAll Lib.replace
  split
  · exact Nat.le_refl _
  · exact key _ l
theorem trim_len (l p : List UInt8) : (Lib.trimSuffix l p).length ≤ l.length := by
  unfold Lib.trimSuffix; split
  · rw [List.length_take]; omega
  · exact Nat.le_refl _
open Ref in
set_option maxRecDepth 100000 in
set_option maxHeartbeats 4000000 in
/-- The kinds without bytes, and those that are none. -/
theorem valof_none (k : Int) (hk0 : -1 ≤ k) (hk1 : k ≤ 254) (s : ByteArray) (w : World) (g1 : (k == 1) = false) (g2 : (k == 2) = false) (g3 : (k == 3) = false) (g4 : (k == 4) = false) (g5 : (k == 5) = false) :
    Calls Tryd.prog 78 #[.int .i64 k, .string s] w (ValOut k s w) := by
  have HK := Lib.hid (And.intro hk0 hk1)
  have HZ : Hid (k ≠ 1 ∧ k ≠ 2 ∧ k ≠ 3 ∧ k ≠ 4 ∧ k ≠ 5) := Lib.hid (by refine ⟨?_, ?_, ?_, ?_, ?_⟩ <;> (intro q; subst q; simp at g1 g2 g3 g4 g5))
  clear hk0 hk1
  go_enter Tryd.func78, Tryd.ntmps78
  go_wp2_with fail
  refine bodyPost_ret (v := .agg #[.int .i64 k, .int .i64 0, .int .u64 0, .string ⟨#[]⟩]) (by simp [results, Tryd.results78, go_sem]) rfl ?_
  refine ⟨⟨k, 0, 0, []⟩, rfl, ⟨⟨by show _ ≤ k; have := HK.out; omega, by show k ≤ _; have := HK.out; omega, by show _ ≤ (0 : Int); omega, by show (0 : Int) ≤ _; omega, by show (0 : Nat) < _; omega⟩, fun u hr _ hk _ => ?_⟩, ((Below.refl _ _).alloc (Nat.le_refl _) _).alloc (by simp) _⟩
  have := (right_kind hr).1
  have hz := HZ.out
  rw [(form_k hr).1 (by omega)]
  have : k = 0 := by omega
  rw [this]
open Ref in
set_option maxRecDepth 100000 in
set_option maxHeartbeats 4000000 in
theorem valof_bool (s : ByteArray) (w : World) (h : 0 < s.size) :
    Calls Tryd.prog 78 #[.int .i64 1, .string s] w (ValOut 1 s w) := by
  have hpos : (0 : Int) < s.size := by omega
  have hlt := s[0].toNat_lt
  have hw : wrap64 (s[0].toNat : Int) = (s[0].toNat : Int) := by unfold wrap64; omega
  go_enter Tryd.func78, Tryd.ntmps78
  go_wp2_with fail
  refine bodyPost_ret (v := .agg #[.int .i64 1, .int .i64 (s[0].toNat : Int), .int .u64 0, .string ⟨#[]⟩]) (by simp [results, Tryd.results78, go_sem]) rfl ?_
  refine ⟨⟨1, (s[0].toNat : Int), 0, []⟩, rfl, ⟨⟨by show _ ≤ (1 : Int); omega, by show (1 : Int) ≤ _; omega, by show _ ≤ (s[0].toNat : Int); omega, by show (s[0].toNat : Int) ≤ _; omega, by show (0 : Nat) < _; omega⟩, fun u hr _ hk hs => ?_⟩, ((Below.refl _ _).alloc (Nat.le_refl _) _).alloc (by simp) _⟩
  obtain ⟨n, rfl, hn⟩ := (form_k hr).2.1 hk
  have e : rest ⟨1, n, 0, []⟩ = [n.toNat.toUInt8] := rfl
  rw [e] at hs
  have h0 : s[0] = n.toNat.toUInt8 := by
    have := byte_get s 0 h
    rw [← this]
    simp [hs]
  have : (s[0].toNat : Int) = n := by rw [h0]; rcases hn with rfl | rfl <;> rfl
  rw [this]
theorem xor_back (x : Nat) (hx : x < 18446744073709551616) : ∃ N : Int, IntKind.i64.wrap ((if x < 9223372036854775808 then x + 9223372036854775808 else x - 9223372036854775808 : Nat) : Int) = N ∧ (-9223372036854775808 ≤ N ∧ N ≤ 9223372036854775807) ∧ ∀ n : Int, -9223372036854775808 ≤ n → n ≤ 9223372036854775807 → x = top n → N = n := by
  refine ⟨_, rfl, ?_, ?_⟩
  · rw [IntKind.wrap_i64]; split <;> omega
  · intro n h0 h1 e
    rw [IntKind.wrap_i64]
    unfold top at e
    split <;> omega
open Ref in
set_option maxRecDepth 100000 in
set_option maxHeartbeats 4000000 in
theorem valof_int (s : ByteArray) (w : World) (h : s.size = 8) :
    Calls Tryd.prog 78 #[.int .i64 2, .string s] w (ValOut 2 s w) := by
  have hun : un s.data.toList < 18446744073709551616 := by
    have := un_lt s.data.toList
    have e : s.data.toList.length = 8 := by simpa using h
    rw [e] at this
    exact this
  have hx := xor_top _ hun
  obtain ⟨N, hN, hNb, hNu⟩ := xor_back _ hun
  obtain ⟨Y, hY⟩ : ∃ Y : Int, Y = ((if un s.data.toList < 9223372036854775808 then un s.data.toList + 9223372036854775808 else un s.data.toList - 9223372036854775808 : Nat) : Int) := ⟨_, rfl⟩
  rw [← hY] at hx hN
  have HG0 := Lib.hid (gst_new w 2)
  have HNU := Lib.hid hNu
  have HNB := Lib.hid hNb
  obtain ⟨U, hU⟩ : ∃ U : Nat, U = un s.data.toList := ⟨_, rfl⟩
  have HU := Lib.hid hU
  have hnum := number_any s (by omega)
  rw [← hU] at hx hnum
  clear hun hY hNu hU
  have H8 := Lib.hid h
  clear h
  go_enter Tryd.func78, Tryd.ntmps78
  go_wp2_with fail
  refine (hnum _).mono ?_
  rintro e w1 ⟨rfl, hb⟩
  have HG := Lib.hid (HG0.out.later hb)
  have HG2 := Lib.hid (HG.out.put1 N)
  clear hb HG0 hnum hNb
  have a0 := HG.out.2.2.1.c0
  have a1 := HG.out.2.2.1.c1
  have a2 := HG.out.2.2.1.c2
  have a3 := HG.out.2.2.1.c3
  have az := HG.out.2.2.1.z
  have k0 := HG.out.2.2.2.c0
  have k1 := HG.out.2.2.2.c1
  have k2 := HG.out.2.2.2.c2
  have k3 := HG.out.2.2.2.c3
  have kz := HG.out.2.2.2.z
  go_wp2_with fail
  have HP := Lib.hid (put4_vb (k := 2) (n := N) (x := 0) (t := ⟨#[]⟩) HG2.out.2.2.1)
  have p0 := HP.out.c0
  have p1 := HP.out.c1
  have p2 := HP.out.c2
  have p3 := HP.out.c3
  show bodyPost _ _ _ _ _ (put4 (w1.setCell ⟨w.heap.size + 1, 1, none⟩ (.int .i64 N)) w.heap.size (.int .i64 2) (.int .i64 N) (.int .u64 0) (.string ⟨#[]⟩))
  refine bodyPost_ret (v := .agg #[.int .i64 2, .int .i64 N, .int .u64 0, .string ⟨#[]⟩]) (by simp [results, Tryd.results78, go_sem, p0, p1, p2, p3]) rfl ?_
  refine ⟨⟨2, N, 0, []⟩, rfl, ⟨⟨by show _ ≤ (2 : Int); omega, by show (2 : Int) ≤ _; omega, HNB.out.1, HNB.out.2, by show (0 : Nat) < _; omega⟩, fun u hr hi hk hs => ?_⟩, put4_below _ _ _ _ _ (Nat.le_refl _) HG2.out.1⟩
  obtain ⟨n, rfl⟩ := (form_k hr).2.2.1 hk
  have e : rest ⟨2, n, 0, []⟩ = be 8 (top n) := rfl
  have h0 := hi.n0
  have h1 := hi.n1
  dsimp only at h0 h1
  have ht : top n < 18446744073709551616 := by unfold top; omega
  have := HNU.out n h0 h1 (by rw [hs, e, un_be8 _ ht])
  rw [this]
open Ref in
set_option maxRecDepth 100000 in
set_option maxHeartbeats 4000000 in
theorem valof_float (s : ByteArray) (w : World) (h : s.size = 8) :
    Calls Tryd.prog 78 #[.int .i64 3, .string s] w (ValOut 3 s w) := by
  have hun : un s.data.toList < 18446744073709551616 := by
    have := un_lt s.data.toList
    have e : s.data.toList.length = 8 := by simpa using h
    rw [e] at this
    exact this
  have HG0 := Lib.hid (gst_new w 3)
  obtain ⟨U, hU⟩ : ∃ U : Nat, U = un s.data.toList := ⟨_, rfl⟩
  have HU := Lib.hid hU
  have hnum := number_any s (by omega)
  rw [← hU] at hnum hun
  have htb := turnedBack_any U hun
  obtain ⟨Y, hY⟩ : ∃ Y : Nat, Y = unturn U := ⟨_, rfl⟩
  have HY := Lib.hid hY
  rw [← hY] at htb
  obtain ⟨Z, hZ⟩ : ∃ Z : Nat, Z = Flo.canon Y := ⟨_, rfl⟩
  have HZ := Lib.hid hZ
  have HUB := Lib.hid hun
  clear hun hY hZ hU
  have H8 := Lib.hid h
  clear h
  go_enter Tryd.func78, Tryd.ntmps78
  go_wp2_with fail
  refine (hnum _).mono ?_
  rintro e w1 ⟨rfl, hb⟩
  have HG := Lib.hid (HG0.out.later hb)
  clear hb HG0 hnum
  go_wp2_with fail
  refine (htb _).mono ?_
  rintro e w2 ⟨rfl, rfl⟩
  go_wp2_with fail
  refine (Val.offloat_any Y _).mono ?_
  rintro e w3 ⟨rfl, hb3⟩
  have HG2 := Lib.hid (HG.out.later hb3)
  rw [← HZ.out]
  clear hb3 HG htb
  have a0 := HG2.out.2.2.1.c0
  have a1 := HG2.out.2.2.1.c1
  have a2 := HG2.out.2.2.1.c2
  have a3 := HG2.out.2.2.1.c3
  have az := HG2.out.2.2.1.z
  go_wp2_with fail
  have HP := Lib.hid (put4_vb (k := 3) (n := 0) (x := (Z : Nat)) (t := ⟨#[]⟩) HG2.out.2.2.1)
  have p0 := HP.out.c0
  have p1 := HP.out.c1
  have p2 := HP.out.c2
  have p3 := HP.out.c3
  show bodyPost _ _ _ _ _ (put4 w3 w.heap.size (.int .i64 3) (.int .i64 0) (.int .u64 (Z : Nat)) (.string ⟨#[]⟩))
  refine bodyPost_ret (v := .agg #[.int .i64 3, .int .i64 0, .int .u64 (Z : Nat), .string ⟨#[]⟩]) (by simp [results, Tryd.results78, go_sem, p0, p1, p2, p3]) rfl ?_
  have hyb : Y < 18446744073709551616 := by rw [HY.out]; exact unturn_lt HUB.out
  refine ⟨⟨3, 0, Z, []⟩, rfl, ⟨⟨by show _ ≤ (3 : Int); omega, by show (3 : Int) ≤ _; omega, by show _ ≤ (0 : Int); omega, by show (0 : Int) ≤ _; omega, by show Z < _; rw [HZ.out]; exact Flo.canon_lt _ hyb⟩, fun u hr hi hk hs => ?_⟩, put4_below _ _ _ _ _ (Nat.le_refl _) HG2.out.1⟩
  obtain ⟨x, rfl⟩ := (form_k hr).2.2.2.1 hk
  have e : rest ⟨3, 0, x, []⟩ = be 8 (turn x) := rfl
  have hb := hi.b
  dsimp only at hb
  have h1 : U = turn x := by rw [HU.out, hs, e, un_be8 _ (turn_lt hb)]
  have h2 : Y = x := by rw [HY.out, h1, unturn_turn hb]
  have h3 : Z = x := by rw [HZ.out, h2]; exact canon_right hr
  rw [h3]
open Ref in
set_option maxRecDepth 100000 in
set_option maxHeartbeats 4000000 in
theorem valof_text4 (s : ByteArray) (w : World) (hs : s.size ≤ 1000000) (hm : ML w) :
    Calls Tryd.prog 78 #[.int .i64 4, .string s] w (ValOut 4 s w) := by
  have HG0 := Lib.hid (gst_new w 4)
  have HM0 := Lib.hid (hm.later (((Below.refl w.heap.size w).alloc (Nat.le_refl _) (.cells #[.int .i64 0, .int .i64 0, .int .u64 0, .string ⟨#[]⟩] 25)).trans (((Below.refl _ (w.alloc (.cells #[.int .i64 0, .int .i64 0, .int .u64 0, .string ⟨#[]⟩] 25))).alloc (Nat.le_refl _) (.cells #[.int .i64 4, .int .i64 0, .int .u64 0, .string ⟨#[]⟩] 25)).mono (by simp))))
  obtain ⟨T, hT⟩ : ∃ T : ByteArray, T = ⟨(Lib.trimSuffix s.data.toList [0, 1]).toArray⟩ := ⟨_, rfl⟩
  have HT := Lib.hid hT
  have htr := fun u => Tryd.strings_TrimSuffix s ⟨#[0, 1]⟩ u (by omega)
  dsimp only at htr
  rw [← hT] at htr
  have hTs : T.size ≤ 1000000 := by
    have h1 := trim_len s.data.toList [0, 1]
    have h2 : T.size = (Lib.trimSuffix s.data.toList [0, 1]).length := by rw [hT]; exact S_size _
    have h3 : s.data.toList.length = s.size := by simp
    omega
  obtain ⟨m, hmm⟩ := HM0.out
  obtain ⟨Q, hQ⟩ : ∃ Q : ByteArray, Q = ⟨(Lib.replaceAll T.data.toList [0, 255] [0]).toArray⟩ := ⟨_, rfl⟩
  have HQ := Lib.hid hQ
  have hrp := Tryd.strings_ReplaceAll T ⟨#[0, 255]⟩ ⟨#[0]⟩ m _ (by omega) hmm (by decide) (by have h1 := Lib.countB_le ⟨#[0, 255]⟩ (by decide) _ T (Nat.le_refl _); have e : (⟨#[0]⟩ : ByteArray).size = 1 := rfl; rw [e]; omega)
  dsimp only at hrp
  rw [← hQ] at hrp
  have hQs : Q.size ≤ 281474976710656 := by
    have h1 : Q.size = (Lib.replaceAll T.data.toList [0, 255] [0]).length := by rw [hQ]; exact S_size _
    have h2 := repl_len T.data.toList
    have h3 : T.data.toList.length = T.size := by simp
    omega
  have hcl := fun u => Tryd.stringslite_Clone Q u hQs
  clear hT hQ hmm hm
  go_enter Tryd.func78, Tryd.ntmps78
  go_wp2_with fail
  refine (htr _).mono ?_
  rintro e w1 ⟨rfl, rfl⟩
  go_wp2_with fail
  refine hrp.mono ?_
  rintro e w2 ⟨rfl, hb2⟩
  have HG := Lib.hid (HG0.out.later hb2)
  clear hb2 hrp HG0
  go_wp2_with (first | (go_at_call 115; refine (hcl _).mono ?_) | go_in)
  rintro e w3 ⟨rfl, hb3⟩
  have HG2 := Lib.hid (HG.out.later hb3)
  have HB2 := Lib.hid (HG2.out.2.2.1.other (a := ⟨w.heap.size + 1, 3, none⟩) (by simp) (.string Q))
  have HB1 := Lib.hid (HG2.out.1.setCell (p := ⟨w.heap.size + 1, 3, none⟩) (by simp) (.string Q))
  clear hb3 HG htr hcl
  have a0 := HG2.out.2.2.1.c0
  have a1 := HG2.out.2.2.1.c1
  have a2 := HG2.out.2.2.1.c2
  have a3 := HG2.out.2.2.1.c3
  have az := HG2.out.2.2.1.z
  have k0 := HG2.out.2.2.2.c0
  have k1 := HG2.out.2.2.2.c1
  have k2 := HG2.out.2.2.2.c2
  have k3 := HG2.out.2.2.2.c3
  have kz := HG2.out.2.2.2.z
  go_wp2_with fail
  have HP := Lib.hid (put4_vb (k := 4) (n := 0) (x := 0) (t := Q) HB2.out)
  have p0 := HP.out.c0
  have p1 := HP.out.c1
  have p2 := HP.out.c2
  have p3 := HP.out.c3
  show bodyPost _ _ _ _ _ (put4 (w3.setCell ⟨w.heap.size + 1, 3, none⟩ (.string Q)) w.heap.size (.int .i64 4) (.int .i64 0) (.int .u64 0) (.string Q))
  refine bodyPost_ret (v := .agg #[.int .i64 4, .int .i64 0, .int .u64 0, .string Q]) (by simp [results, Tryd.results78, go_sem, p0, p1, p2, p3]) rfl ?_
  refine ⟨⟨4, 0, 0, Q.data.toList⟩, by simp only [V.agg, S_of]; rfl, ⟨⟨by show _ ≤ (4 : Int); omega, by show (4 : Int) ≤ _; omega, by show _ ≤ (0 : Int); omega, by show (0 : Int) ≤ _; omega, by show (0 : Nat) < _; omega⟩, fun u hr hi hk hs => ?_⟩, put4_below _ _ _ _ _ (Nat.le_refl _) HB1.out⟩
  obtain ⟨t, rfl⟩ := (form_k hr).2.2.2.2.1 hk
  have e : rest ⟨4, 0, 0, t⟩ = esc t ++ [0, 1] := rfl
  have h1 : T.data.toList = esc t := by rw [HT.out, hs, e]; exact trim_esc t
  have h2 : Q.data.toList = t := by rw [HQ.out, h1]; exact un_of_repl t
  rw [h2]
open Ref in
set_option maxRecDepth 100000 in
set_option maxHeartbeats 4000000 in
theorem valof_text5 (s : ByteArray) (w : World) (hs : s.size ≤ 1000000) (hm : ML w) :
    Calls Tryd.prog 78 #[.int .i64 5, .string s] w (ValOut 5 s w) := by
  have HG0 := Lib.hid (gst_new w 5)
  have HM0 := Lib.hid (hm.later (((Below.refl w.heap.size w).alloc (Nat.le_refl _) (.cells #[.int .i64 0, .int .i64 0, .int .u64 0, .string ⟨#[]⟩] 25)).trans (((Below.refl _ (w.alloc (.cells #[.int .i64 0, .int .i64 0, .int .u64 0, .string ⟨#[]⟩] 25))).alloc (Nat.le_refl _) (.cells #[.int .i64 5, .int .i64 0, .int .u64 0, .string ⟨#[]⟩] 25)).mono (by simp))))
  obtain ⟨T, hT⟩ : ∃ T : ByteArray, T = ⟨(Lib.trimSuffix s.data.toList [0, 1]).toArray⟩ := ⟨_, rfl⟩
  have HT := Lib.hid hT
  have htr := fun u => Tryd.strings_TrimSuffix s ⟨#[0, 1]⟩ u (by omega)
  dsimp only at htr
  rw [← hT] at htr
  have hTs : T.size ≤ 1000000 := by
    have h1 := trim_len s.data.toList [0, 1]
    have h2 : T.size = (Lib.trimSuffix s.data.toList [0, 1]).length := by rw [hT]; exact S_size _
    have h3 : s.data.toList.length = s.size := by simp
    omega
  obtain ⟨m, hmm⟩ := HM0.out
  obtain ⟨Q, hQ⟩ : ∃ Q : ByteArray, Q = ⟨(Lib.replaceAll T.data.toList [0, 255] [0]).toArray⟩ := ⟨_, rfl⟩
  have HQ := Lib.hid hQ
  have hrp := Tryd.strings_ReplaceAll T ⟨#[0, 255]⟩ ⟨#[0]⟩ m _ (by omega) hmm (by decide) (by have h1 := Lib.countB_le ⟨#[0, 255]⟩ (by decide) _ T (Nat.le_refl _); have e : (⟨#[0]⟩ : ByteArray).size = 1 := rfl; rw [e]; omega)
  dsimp only at hrp
  rw [← hQ] at hrp
  have hQs : Q.size ≤ 281474976710656 := by
    have h1 : Q.size = (Lib.replaceAll T.data.toList [0, 255] [0]).length := by rw [hQ]; exact S_size _
    have h2 := repl_len T.data.toList
    have h3 : T.data.toList.length = T.size := by simp
    omega
  have hcl := fun u => Tryd.stringslite_Clone Q u hQs
  clear hT hQ hmm hm
  go_enter Tryd.func78, Tryd.ntmps78
  go_wp2_with fail
  refine (htr _).mono ?_
  rintro e w1 ⟨rfl, rfl⟩
  go_wp2_with fail
  refine hrp.mono ?_
  rintro e w2 ⟨rfl, hb2⟩
  have HG := Lib.hid (HG0.out.later hb2)
  clear hb2 hrp HG0
  go_wp2_with (first | (go_at_call 115; refine (hcl _).mono ?_) | go_in)
  rintro e w3 ⟨rfl, hb3⟩
  have HG2 := Lib.hid (HG.out.later hb3)
  have HB2 := Lib.hid (HG2.out.2.2.1.other (a := ⟨w.heap.size + 1, 3, none⟩) (by simp) (.string Q))
  have HB1 := Lib.hid (HG2.out.1.setCell (p := ⟨w.heap.size + 1, 3, none⟩) (by simp) (.string Q))
  clear hb3 HG htr hcl
  have a0 := HG2.out.2.2.1.c0
  have a1 := HG2.out.2.2.1.c1
  have a2 := HG2.out.2.2.1.c2
  have a3 := HG2.out.2.2.1.c3
  have az := HG2.out.2.2.1.z
  have k0 := HG2.out.2.2.2.c0
  have k1 := HG2.out.2.2.2.c1
  have k2 := HG2.out.2.2.2.c2
  have k3 := HG2.out.2.2.2.c3
  have kz := HG2.out.2.2.2.z
  go_wp2_with fail
  have HP := Lib.hid (put4_vb (k := 5) (n := 0) (x := 0) (t := Q) HB2.out)
  have p0 := HP.out.c0
  have p1 := HP.out.c1
  have p2 := HP.out.c2
  have p3 := HP.out.c3
  show bodyPost _ _ _ _ _ (put4 (w3.setCell ⟨w.heap.size + 1, 3, none⟩ (.string Q)) w.heap.size (.int .i64 5) (.int .i64 0) (.int .u64 0) (.string Q))
  refine bodyPost_ret (v := .agg #[.int .i64 5, .int .i64 0, .int .u64 0, .string Q]) (by simp [results, Tryd.results78, go_sem, p0, p1, p2, p3]) rfl ?_
  refine ⟨⟨5, 0, 0, Q.data.toList⟩, by simp only [V.agg, S_of]; rfl, ⟨⟨by show _ ≤ (5 : Int); omega, by show (5 : Int) ≤ _; omega, by show _ ≤ (0 : Int); omega, by show (0 : Int) ≤ _; omega, by show (0 : Nat) < _; omega⟩, fun u hr hi hk hs => ?_⟩, put4_below _ _ _ _ _ (Nat.le_refl _) HB1.out⟩
  obtain ⟨t, rfl⟩ := (form_k hr).2.2.2.2.2 hk
  have e : rest ⟨5, 0, 0, t⟩ = esc t ++ [0, 1] := rfl
  have h1 : T.data.toList = esc t := by rw [HT.out, hs, e]; exact trim_esc t
  have h2 : Q.data.toList = t := by rw [HQ.out, h1]; exact un_of_repl t
  rw [h2]
end Ky
end Go.Proofs.YtppdebhcaodcnaaDoor
