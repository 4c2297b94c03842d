/- strconv.ParseUint at base 16 as package value calls it, readHex and readLetter. Conditions: the text takes at most 2^48 bytes; the listed error variables read as the rows list them. -/
import Derived.Test.YtppdebhcaodcnaaDoorPuB
import Derived.Lib.AtoiErrMem
import Derived.Deep.QuietTactic
import Derived.BigQuiet
namespace Go.Proofs.YtppdebhcaodcnaaDoor
open Go.RowKit
namespace Rd
def puAll (mx : Nat) (l : List UInt8) : Option (Option Nat) := if l = [] then none else Pu.pu mx 0 l
theorem var_cell {w : World} {n : String} {g : Nat} {v : Value} (hg : Tryd.prog.globalNamed n = some g) (hv : w.var? Tryd.prog n = some #[v]) : w.cell? ⟨g, 0, none⟩ = some v := by
  unfold World.var? at hv
  rw [hg] at hv
  simp only [Option.bind_some] at hv
  split at hv
  · rename_i cs _ _ h
    simp only [Option.some.injEq] at hv
    subst hv
    rw [Lib.cell_of_heap h]; rfl
  · cases hv
/-- A failure: whatever number, and an error that is not nil. -/
def PuErr (w : World) (e : Ending) (w' : World) : Prop := ∃ (x : Nat) (N : Nat), e = .returned (.tuple #[.int .u64 x, .iface 107 (.pointer (some ⟨N, 0, none⟩))]) ∧ Below w.heap.size w w'
theorem syn_any (fn s : ByteArray) (base bits : Int) (w : World) (he : Val.Env w) (hlim : s.size ≤ 281474976710656) :
    Calls Tryd.prog 90 #[.string fn, .string s, .int .i64 base, .int .i64 bits, .iface 105 (.int .i64 2)] w fun e w' => ∃ N, e = .returned (.iface 107 (.pointer (some ⟨N, 0, none⟩))) ∧ Below w.heap.size w w' := by
  obtain ⟨tp, p, hv⟩ := he.syn
  refine (Tryd.strconv_toError_syntax fn s base bits (.iface tp p) w hlim (var_cell (by kernel_rfl) hv) (Or.inr ⟨tp, p, rfl⟩)).mono ?_
  rintro e w' ⟨N, h1, _, _, h4⟩
  exact ⟨N, h1, h4⟩
theorem rng_any (fn s : ByteArray) (base bits : Int) (w : World) (he : Val.Env w) (hlim : s.size ≤ 281474976710656) :
    Calls Tryd.prog 90 #[.string fn, .string s, .int .i64 base, .int .i64 bits, .iface 105 (.int .i64 1)] w fun e w' => ∃ N, e = .returned (.iface 107 (.pointer (some ⟨N, 0, none⟩))) ∧ Below w.heap.size w w' := by
  obtain ⟨tp, p, hv⟩ := he.rng
  refine (Tryd.strconv_toError_range fn s base bits (.iface tp p) w hlim (var_cell (by kernel_rfl) hv) (Or.inr ⟨tp, p, rfl⟩)).mono ?_
  rintro e w' ⟨N, h1, _, _, h4⟩
  exact ⟨N, h1, h4⟩
set_option maxHeartbeats 1000000 in
set_option maxRecDepth 100000 in
theorem inner_empty (bits : Int) (w : World) :
    Calls Tryd.prog 89 #[.string ⟨#[]⟩, .int .i64 16, .int .i64 bits] w fun e w' => e = .returned (.tuple #[.int .u64 0, .iface 105 (.int .i64 2)]) ∧ w = w' := by
  go_enter Tryd.func89, Tryd.ntmps89
  go_wp2
  go_ret2
  exact ⟨rfl, rfl⟩
/-- what ParseUint comes to, by its inner part -/
theorem inner_any (t : ByteArray) (bits : Int) (mx : Nat) (hbm : (bits = 64 ∧ mx = 18446744073709551615) ∨ (bits = 8 ∧ mx = 255)) (hmax : t.size ≤ 281474976710656) (w : World) :
    Calls Tryd.prog 89 #[.string t, .int .i64 16, .int .i64 bits] w fun e w' => e = .returned (Pu.tup mx (puAll mx t.data.toList)) ∧ Below w.heap.size w w' := by
  by_cases h0 : t.size = 0
  · have ht : t = ⟨#[]⟩ := by
      obtain ⟨⟨l⟩⟩ := t
      cases l with
      | nil => rfl
      | cons _ _ => simp [ByteArray.size] at h0
    subst ht
    refine (inner_empty bits w).mono ?_
    rintro e w' ⟨rfl, rfl⟩
    exact ⟨rfl, Below.refl _ _⟩
  · have hne : t.data.toList ≠ [] := fun h => h0 (by rw [Lib.size_eq, h]; rfl)
    have hp : puAll mx t.data.toList = Pu.pu mx 0 t.data.toList := by unfold puAll; rw [if_neg hne]
    rw [hp]
    rcases hbm with ⟨rfl, rfl⟩ | ⟨rfl, rfl⟩
    · refine (Pu.inner_64 t h0 hmax w).mono ?_
      rintro e w' ⟨rfl, rfl⟩
      exact ⟨rfl, Lib.bytesWorld_below _ _ _⟩
    · refine (Pu.inner_8 t h0 hmax w).mono ?_
      rintro e w' ⟨rfl, rfl⟩
      exact ⟨rfl, Lib.bytesWorld_below _ _ _⟩
set_option maxHeartbeats 1000000 in
set_option maxRecDepth 100000 in
theorem parseUint_ok (t : ByteArray) (bits : Int) (mx : Nat) (hbm : (bits = 64 ∧ mx = 18446744073709551615) ∨ (bits = 8 ∧ mx = 255)) (hmax : t.size ≤ 281474976710656) (v : Nat) (hp : puAll mx t.data.toList = some (some v)) (w : World) :
    Calls Tryd.prog 63 #[.string t, .int .i64 16, .int .i64 bits] w fun e w' => e = .returned (.tuple #[.int .u64 v, .nilIface]) ∧ Below w.heap.size w w' := by
  have HP := Lib.hid hp
  have HB := Lib.hid hbm
  clear hp hbm
  go_enter Tryd.func63, Tryd.ntmps63
  go_wp2_with fail
  refine (inner_any t bits mx HB.out hmax _).mono ?_
  rw [HP.out]
  rintro e w1 ⟨rfl, hb⟩
  simp only [Pu.tup]
  go_wp2_with fail
  go_ret2
  exact ⟨rfl, hb⟩
set_option maxHeartbeats 1000000 in
set_option maxRecDepth 100000 in
theorem parseUint_err (t : ByteArray) (bits : Int) (mx : Nat) (hbm : (bits = 64 ∧ mx = 18446744073709551615) ∨ (bits = 8 ∧ mx = 255)) (hmax : t.size ≤ 281474976710656) (hp : ∀ v, puAll mx t.data.toList ≠ some (some v)) (w : World) (he : Val.Env w) :
    Calls Tryd.prog 63 #[.string t, .int .i64 16, .int .i64 bits] w (PuErr w) := by
  have HB := Lib.hid hbm
  have HE := Lib.hid he
  have key : puAll mx t.data.toList = none ∨ puAll mx t.data.toList = some none := by
    rcases h : puAll mx t.data.toList with _ | _ | v
    · exact Or.inl rfl
    · exact Or.inr rfl
    · exact absurd h (hp v)
  clear hp hbm he
  rcases key with key | key
  · have HK := Lib.hid key
    clear key
    go_enter Tryd.func63, Tryd.ntmps63
    go_wp2_with fail
    refine (inner_any t bits mx HB.out hmax _).mono ?_
    rw [HK.out]
    rintro e w1 ⟨rfl, hb⟩
    simp only [Pu.tup]
    have he1 := HE.out.below hb
    have HE1 := Lib.hid he1
    clear he1
    go_wp2_with fail
    refine (syn_any _ t 16 bits _ HE1.out hmax).mono ?_
    rintro e w2 ⟨N, rfl, hb2⟩
    go_wp2_with fail
    go_ret2
    exact ⟨0, N, rfl, hb.trans (hb2.mono hb.size)⟩
  · have HK := Lib.hid key
    clear key
    go_enter Tryd.func63, Tryd.ntmps63
    go_wp2_with fail
    refine (inner_any t bits mx HB.out hmax _).mono ?_
    rw [HK.out]
    rintro e w1 ⟨rfl, hb⟩
    simp only [Pu.tup]
    have he1 := HE.out.below hb
    have HE1 := Lib.hid he1
    clear he1
    go_wp2_with fail
    refine (rng_any _ t 16 bits _ HE1.out hmax).mono ?_
    rintro e w2 ⟨N, rfl, hb2⟩
    go_wp2_with fail
    go_ret2
    exact ⟨mx, N, rfl, hb.trans (hb2.mono hb.size)⟩
/-- The byte of the two digits that a text begins with. -/
def rdHex (l : List UInt8) : Option UInt8 := if l.length < 2 then none else match puAll 255 (l.take 2) with | some (some v) => some v.toUInt8 | _ => none
def HexErr (w : World) (e : Ending) (w' : World) : Prop := ∃ x : Int, e = .returned (.tuple #[.int .u8 x, .bool false]) ∧ Below w.heap.size w w'
theorem ext_list (s : ByteArray) (a b : Nat) : (s.extract a b).data.toList = (s.data.toList.drop a).take (b - a) := by
  rw [ByteArray.data_extract, Array.toList_extract]
theorem pu_le {mx : Nat} : ∀ {l : List UInt8} {acc v : Nat}, acc ≤ mx → Pu.pu mx acc l = some (some v) → v ≤ mx
  | [], acc, v, h, e => by simp only [Pu.pu, Option.some.injEq] at e; omega
  | c :: l, acc, v, h, e => by
    simp only [Pu.pu] at e
    split at e
    · cases e
    · split at e
      · cases e
      · split at e
        · cases e
        · exact pu_le (by omega) e
set_option maxHeartbeats 1000000 in
set_option maxRecDepth 100000 in
theorem readHex_ok (s : ByteArray) (c : UInt8) (hc : rdHex s.data.toList = some c) (hmax : s.size ≤ 281474976710656) (w : World) :
    Calls Tryd.prog 91 #[.string s] w fun e w' => e = .returned (.tuple #[.int .u8 c.toNat, .bool true]) ∧ Below w.heap.size w w' := by
  have hsz : s.data.toList.length = s.size := by simp
  obtain ⟨h2, v, hv, hcv, hv5⟩ : 2 ≤ s.size ∧ ∃ v, puAll 255 (s.extract 0 2).data.toList = some (some v) ∧ (c.toNat : Int) = v ∧ v ≤ 255 := by
    unfold rdHex at hc
    rw [ext_list]
    split at hc
    · cases hc
    · split at hc
      · rename_i v hv
        simp only [Option.some.injEq] at hc
        have hle : v ≤ 255 := by
          unfold puAll at hv
          split at hv
          · cases hv
          · exact pu_le (by omega) hv
        refine ⟨by omega, v, hv, ?_, hle⟩
        subst hc
        simp
        omega
      · cases hc
  have HV := Lib.hid hv
  have HC := Lib.hid hcv
  clear hv hcv hc hsz
  go_enter Tryd.func91, Tryd.ntmps91
  go_wp2_with fail
  refine (parseUint_ok _ 8 255 (Or.inr ⟨rfl, rfl⟩) (by simp; omega) v HV.out _).mono ?_
  rintro e w1 ⟨rfl, hb⟩
  go_wp2_with fail
  go_quiet (fail)
  go_wp2_with fail
  go_ret2
  refine ⟨?_, below_drewN hb _⟩
  rw [HC.out]; rfl
set_option maxHeartbeats 1000000 in
set_option maxRecDepth 100000 in
theorem readHex_err (s : ByteArray) (hc : rdHex s.data.toList = none) (hmax : s.size ≤ 281474976710656) (w : World) (he : Val.Env w) :
    Calls Tryd.prog 91 #[.string s] w (HexErr w) := by
  have hsz : s.data.toList.length = s.size := by simp
  have HE := Lib.hid he
  clear he
  by_cases h2 : s.size < 2
  · clear hc
    go_enter Tryd.func91, Tryd.ntmps91
    go_wp2_with fail
    go_ret2
    exact ⟨0, rfl, Below.refl _ _⟩
  · have hv : ∀ v, puAll 255 (s.extract 0 2).data.toList ≠ some (some v) := by
      intro v hv
      unfold rdHex at hc
      rw [ext_list] at hv
      rw [if_neg (by omega)] at hc
      have hv' : puAll 255 (List.take 2 s.data.toList) = some (some v) := hv
      rw [hv'] at hc
      cases hc
    have HV := Lib.hid hv
    have h2' : 2 ≤ s.size := by omega
    clear hv hc hsz h2
    go_enter Tryd.func91, Tryd.ntmps91
    go_wp2_with fail
    refine (parseUint_err _ 8 255 (Or.inr ⟨rfl, rfl⟩) (by simp; omega) HV.out _ HE.out).mono ?_
    rintro e w1 ⟨x, N, rfl, hb⟩
    go_wp2_with fail
    go_quiet (fail)
    go_wp2_with fail
    go_ret2
    exact ⟨_, rfl, below_drewN hb _⟩
/-- The byte that a Text's inside begins with, and how many bytes tell it. -/
def rdLet (l : List UInt8) : Option (UInt8 × Nat) :=
  match l with
  | [] => none
  | c :: r => if c ≠ 92 then some (c, 1) else match r with
    | [] => none
    | d :: q => if d = 120 then (match rdHex q with | some x => some (x, 4) | none => none) else some (d, 2)
def LetErr (w : World) (e : Ending) (w' : World) : Prop := ∃ x n : Int, e = .returned (.tuple #[.int .u8 x, .int .i64 n, .bool false]) ∧ Below w.heap.size w w'
theorem nth (s : ByteArray) (i : Nat) (h : i < s.size) : s.data.toList[i]'(by simpa using h) = s[i] := rfl
set_option maxHeartbeats 1000000 in
set_option maxRecDepth 100000 in
theorem let_one (s : ByteArray) (h0 : 0 < s.size) (hn : ((s[0].toNat : Int) != 92) = true) (w : World) :
    Calls Tryd.prog 92 #[.string s] w fun e w' => e = .returned (.tuple #[.int .u8 s[0].toNat, .int .i64 1, .bool true]) ∧ w = w' := by
  go_enter Tryd.func92, Tryd.ntmps92
  go_wp2_with fail
  go_ret3
  exact ⟨rfl, rfl⟩
set_option maxHeartbeats 1000000 in
set_option maxRecDepth 100000 in
theorem let_hex_ok (s : ByteArray) (h0 : 0 < s.size) (hn : ((s[0].toNat : Int) != 92) = false) (hp : Lib.hasPrefix s.data.toList [92, 120] = true) (h2 : 2 ≤ s.size) (hmax : s.size ≤ 281474976710656) (c : UInt8) (hc : rdHex (s.data.toList.drop 2) = some c) (w : World) :
    Calls Tryd.prog 92 #[.string s] w fun e w' => e = .returned (.tuple #[.int .u8 c.toNat, .int .i64 4, .bool true]) ∧ Below w.heap.size w w' := by
  have HC : Hid (rdHex (s.extract 2 s.size).data.toList = some c) := by
    show rdHex (s.extract 2 s.size).data.toList = some c
    rw [ext_list, List.take_of_length_le (by simp)]; exact hc
  clear hc
  go_enter Tryd.func92, Tryd.ntmps92
  go_wp2_with (go_at_call 62; refine (Tryd.strings_HasPrefix _ _ _).mono ?_; rintro e w' ⟨rfl, rfl⟩)
  refine (readHex_ok _ c HC.out (by simp; omega) _).mono ?_
  rintro e w1 ⟨rfl, hb⟩
  go_wp2_with fail
  go_ret3
  exact ⟨rfl, hb⟩
set_option maxHeartbeats 1000000 in
set_option maxRecDepth 100000 in
theorem let_hex_err (s : ByteArray) (h0 : 0 < s.size) (hn : ((s[0].toNat : Int) != 92) = false) (hp : Lib.hasPrefix s.data.toList [92, 120] = true) (h2 : 2 ≤ s.size) (hmax : s.size ≤ 281474976710656) (hc : rdHex (s.data.toList.drop 2) = none) (w : World) (he : Val.Env w) :
    Calls Tryd.prog 92 #[.string s] w (LetErr w) := by
  have HC : Hid (rdHex (s.extract 2 s.size).data.toList = none) := by
    show rdHex (s.extract 2 s.size).data.toList = none
    rw [ext_list, List.take_of_length_le (by simp)]; exact hc
  have HE := Lib.hid he
  clear hc he
  go_enter Tryd.func92, Tryd.ntmps92
  go_wp2_with (go_at_call 62; refine (Tryd.strings_HasPrefix _ _ _).mono ?_; rintro e w' ⟨rfl, rfl⟩)
  refine (readHex_err _ HC.out (by simp; omega) _ HE.out).mono ?_
  rintro e w1 ⟨x, rfl, hb⟩
  go_wp2_with fail
  go_ret3
  exact ⟨x, 4, rfl, hb⟩
set_option maxHeartbeats 1000000 in
set_option maxRecDepth 100000 in
theorem let_two (s : ByteArray) (h0 : 0 < s.size) (hn : ((s[0].toNat : Int) != 92) = false) (hp : Lib.hasPrefix s.data.toList [92, 120] = false) (h2 : 1 < s.size) (w : World) :
    Calls Tryd.prog 92 #[.string s] w fun e w' => e = .returned (.tuple #[.int .u8 s[1].toNat, .int .i64 2, .bool true]) ∧ w = w' := by
  go_enter Tryd.func92, Tryd.ntmps92
  go_wp2_with (go_at_call 62; refine (Tryd.strings_HasPrefix _ _ _).mono ?_; rintro e w' ⟨rfl, rfl⟩)
  go_ret3
  exact ⟨rfl, rfl⟩
set_option maxHeartbeats 1000000 in
set_option maxRecDepth 100000 in
theorem let_end (s : ByteArray) (h0 : 0 < s.size) (hn : ((s[0].toNat : Int) != 92) = false) (hp : Lib.hasPrefix s.data.toList [92, 120] = false) (h2 : ¬ 1 < s.size) (w : World) :
    Calls Tryd.prog 92 #[.string s] w (LetErr w) := by
  go_enter Tryd.func92, Tryd.ntmps92
  go_wp2_with (go_at_call 62; refine (Tryd.strings_HasPrefix _ _ _).mono ?_; rintro e w' ⟨rfl, rfl⟩)
  go_ret3
  exact ⟨0, 0, rfl, Below.refl _ _⟩
end Rd
end Go.Proofs.YtppdebhcaodcnaaDoor
