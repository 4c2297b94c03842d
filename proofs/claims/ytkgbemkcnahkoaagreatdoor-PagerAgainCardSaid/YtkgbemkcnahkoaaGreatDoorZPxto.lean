/- Pages as texts; texts compared; a law's call on a pager. Conditions: as each says. -/
import Derived.Test.YtkgbemkcnahkoaaGreatDoorZPv
import Derived.Test.YtkgbemkcnahkoaaGreatDoorZFrdto
import Derived.OwnWalk
namespace Go.Proofs.YtkgbemkcnahkoaaGreatDoor
open Go.RowKit
namespace Pgr
open Wal (Pair PL strs strs_snoc strs_one strs_len infoS)
open Dsk (PD Mine KeepQ Only below_keeps cell_later sec vals pad zeros upd IntsAt ints BoolsAt owns_later Opv)
open Crc (S S_of S_size)
/-- The pages of n as f has them. -/
def all (n : Nat) (f : Nat → List UInt8) : List (List UInt8) := (List.range n).map f
theorem all_len (n : Nat) (f : Nat → List UInt8) : (all n f).length = n := by simp [all]
theorem all_at (n : Nat) (f : Nat → List UInt8) (i : Nat) (h : i < (all n f).length) : (all n f)[i] = f i := by simp [all]
theorem all_succ (n : Nat) (f : Nat → List UInt8) : all (n + 1) f = all n f ++ [f n] := by simp [all, List.range_succ]
theorem all_congr {n : Nat} {f g : Nat → List UInt8} (h : ∀ i, i < n → f i = g i) : all n f = all n g := by
  unfold all
  exact List.map_congr_left (fun i hi => h i (List.mem_range.1 hi))
theorem S_inj {a b : List UInt8} (h : S a = S b) : a = b := by
  have := congrArg (fun x : ByteArray => x.data.toList) h
  simpa [S] using this
/-- The slice v holds these texts. -/
def TextsAt (l : List (List UInt8)) (v : Value) (w : World) : Prop := w.ownsRow 0 9 1 v l.length (strs l)
theorem TextsAt.later {l : List (List UInt8)} {v : Value} {w w' : World} (h : TextsAt l v w) (hb : Below w.heap.size w w') : TextsAt l v w' := owns_later h hb
theorem TextsAt.form {l : List (List UInt8)} {v : Value} {w : World} (h : TextsAt l v w) : ∃ ao cap, v = .slice ao l.length cap ∧ l.length ≤ cap ∧ cap ≤ 9223372036854775807 := by
  rcases h.2 with ⟨h2, h0⟩ | ⟨g, cap, cur, hv, _, _, hc, hm, _⟩
  · exact ⟨none, 0, by rw [h2, h0], by omega, by omega⟩
  · exact ⟨_, cap, hv, hc, by unfold maxLen at hm; omega⟩
theorem TextsAt.at {l : List (List UInt8)} {v : Value} {w : World} (h : TextsAt l v w) (i : Nat) (hi : i < l.length) : ∃ g cap, v = .slice (some ⟨g, 0, none⟩) l.length cap ∧ w.cell? ⟨g, i, none⟩ = some (.string (S l[i])) := by
  obtain ⟨ao, cap, rfl, _⟩ := h.form
  obtain ⟨b, h1, _, _, h2, _⟩ := Wal.strs_at h i hi
  exact ⟨b, cap, by rw [h1], h2⟩
/-- .. in a block of Q. -/
def TextsQ (Q : Nat → Prop) (l : List (List UInt8)) (v : Value) (w : World) : Prop := TextsAt l v w ∧ ∀ g, v.ownBlock = some g → Q g
theorem TextsQ.keep {Q : Nat → Prop} {l : List (List UInt8)} {v : Value} {w w' : World} (h : TextsQ Q l v w) (hk : KeepQ Q w w') : TextsQ Q l v w' := ⟨Dsk.ownsRow_of h.1 (fun g hg => hk g (h.2 g hg)), h.2⟩
theorem TextsQ.mono {Q Q' : Nat → Prop} {l : List (List UInt8)} {v : Value} {w : World} (h : TextsQ Q l v w) (hQ : ∀ k, Q k → Q' k) : TextsQ Q' l v w := ⟨h.1, fun g hg => hQ g (h.2 g hg)⟩
theorem TextsQ.nil (Q : Nat → Prop) (w : World) : TextsQ Q [] (.slice none 0 0) w := ⟨World.ownsRow_nil _ _ _ _, fun g hg => by cases hg⟩
set_option maxHeartbeats 4000000 in
set_option maxRecDepth 100000 in
theorem texts_any (xs bs : List (List UInt8)) (sa sb : Value) (w : World) (hl : xs.length = bs.length) (h1 : TextsAt xs sa w) (h2 : TextsAt bs sb w) :
    Calls Tryz.prog 36 #[sa, sb] w fun e w' => e = .returned (.bool (decide (xs = bs))) ∧ Below w.heap.size w w' := by
  obtain ⟨ao, ac, rfl, hac, ham⟩ := h1.form
  obtain ⟨bo, bc, rfl, hbc, hbm⟩ := h2.form
  have H1 := hidm h1
  have H2 := hidm h2
  obtain ⟨n, hn⟩ : ∃ n, n = bs.length := ⟨_, rfl⟩
  have HN := hidm hn
  have HNA := hidm (hl.trans hn.symm)
  rw [hl, ← hn]
  have hnb : n ≤ 9223372036854775807 := by omega
  clear h1 h2 hac hbc ham hbm hn hl
  go_enter Tryz.func36, Tryz.ntmps36
  go_wp2_with fail
  go_loopw [5] (fun ii wr => ∃ i : Nat, ii = .int .i64 i ∧ i ≤ n ∧ Hid (xs.take i = bs.take i) ∧ Hid (Below w.heap.size w wr)) (fun ii _ => (n - (intOf ii).toNat))
  case atStart => exact ⟨0, rfl, by omega, hidm rfl, hidm (Below.refl _ _)⟩
  case round =>
    obtain ⟨i, rfl, hi, HE, HB⟩ := hrel
    rcases Nat.lt_or_ge i n with hlt | hge
    · have f1 : (i : Int) < n := by omega
      have hia : i < xs.length := by have := HNA.out; omega
      have hib : i < bs.length := by have := HN.out; omega
      obtain ⟨b1, c1, he1, q0⟩ := (H1.out.later HB.out).at i hia
      obtain ⟨b2, c2, he2, r0⟩ := (H2.out.later HB.out).at i hib
      simp only [Value.slice.injEq] at he1 he2
      obtain ⟨rfl, _, rfl⟩ := he1
      obtain ⟨rfl, _, rfl⟩ := he2
      obtain ⟨x, hx⟩ : ∃ x, x = xs[i] := ⟨_, rfl⟩
      obtain ⟨y, hy⟩ : ∃ y, y = bs[i] := ⟨_, rfl⟩
      rw [← hx] at q0
      rw [← hy] at r0
      by_cases hxy : x = y
      · have HE2 := hidm (show xs.take (i + 1) = bs.take (i + 1) from by rw [List.take_succ_eq_append_getElem hia, List.take_succ_eq_append_getElem hib, HE.out, ← hx, ← hy, hxy])
        subst hxy
        clear hx hy hia hib
        go_wp2_with fail
        go_quiet (fail)
        go_wp2_with fail
        go_roundw
        case rel => exact ⟨i + 1, by go_num, by omega, HE2, hidm (Dsk.dN HB.out _)⟩
        case measure => simp [intOf]; omega
      · have HNE := hidm (show xs ≠ bs from fun e => hxy (by rw [hx, hy]; subst e; rfl))
        have k1 : (x == y) = false := by simpa using hxy
        clear hx hy hia hib
        go_wp2_with fail
        go_quiet (fail)
        go_wp2_with fail
        go_ret
        exact ⟨by rw [decide_eq_false HNE.out]; rfl, Dsk.dN HB.out _⟩
    · obtain rfl : i = n := by omega
      have f1 : ¬ (i : Int) < i := by omega
      go_wp2_with fail
      go_ret
      have hE := HE.out
      rw [List.take_of_length_le (by rw [HNA.out]; exact Nat.le_refl _), List.take_of_length_le (by rw [HN.out]; exact Nat.le_refl _)] at hE
      exact ⟨by rw [decide_eq_true hE]; rfl, HB.out⟩
section
variable {W : World} {Q : Nat → Prop} {P L D : Nat} {v : PV} {g : PL} {d : PD} {w w' : World}
theorem own0 {w : World} {base : Nat} {v : Value} {n : Nat} {xs : List Value} (h : w.ownsRow base 9 1 v n xs) : w.ownsRow 0 9 1 v n xs := by
  refine ⟨h.1, ?_⟩
  rcases h.2 with h2 | ⟨g, c, cur, hv, hg, rest⟩
  · exact .inl h2
  · exact .inr ⟨g, c, cur, hv, Nat.zero_le _, rest⟩
set_option maxHeartbeats 8000000 in
set_option maxRecDepth 100000 in
theorem pages_any (h : Pg W Q P L D v g d w) : Calls Tryz.prog 34 #[.pointer (some ⟨P, 0, none⟩)] w fun e w' => ∃ x, e = .returned x ∧ TextsQ (fun k => w.heap.size ≤ k ∧ k < w'.heap.size) (all v.pages (Pg.see v d)) x w' ∧ Below w.heap.size w w' := by
  obtain ⟨i0, hi0, hz0, hz1, hz2⟩ := info_parts infoS
  have HP := hidm h
  have HV := hidm h.ok
  obtain ⟨n, hn⟩ : ∃ n, n = v.pages := ⟨_, rfl⟩
  have HN := hidm hn
  have hn9 : n ≤ 1024 := by rw [hn]; exact HV.out.2.2.1
  rw [← hn]
  have HLN := hidm (show ∀ w', Below w.heap.size w w' → Calls Tryz.prog 27 #[.pointer (some ⟨P, 0, none⟩)] w' fun e w'' => e = .returned (.int .i64 (n : Int)) ∧ w' = w'' from fun w' hb => by rw [hn]; exact plen_any (h.later hb))
  clear h hn
  go_enter Tryz.func34, Tryz.ntmps34
  go_wp2_with fail
  go_loopw [3, 4] (fun vv kk wx => ∃ (k : Nat) (vo : Option Addr) (vc : Nat), kk = .int .i64 k ∧ k ≤ n ∧ vv = .slice vo k vc ∧ Hid (wx.ownsRow w.heap.size 9 1 (.slice vo k vc) k (strs (all k (Pg.see v d)))) ∧ Hid (Below w.heap.size w wx)) (fun _ kk _ => (n - (intOf kk).toNat))
  case atStart => exact ⟨0, none, 0, rfl, by omega, rfl, hidm (World.ownsRow_nil _ _ _ _), hidm (Below.refl _ _)⟩
  case round =>
    rename World => wx
    obtain ⟨k, vo, vc, rfl, hk8, rfl, HO, HBX⟩ := hrel
    rcases Nat.lt_or_ge k n with hklt | hkge
    · have g5 : (k : Int) < n := by omega
      go_wp2_with fail
      refine (HLN.out _ HBX.out).mono ?_
      rintro e wx2 ⟨rfl, rfl⟩
      go_wp2_with fail
      refine (read_in k (HP.out.later HBX.out) (by rw [← HN.out]; exact hklt)).mono ?_
      rintro e wy ⟨rfl, hby⟩
      have HBY := hidm (HBX.out.trans (hby.mono HBX.out.size))
      have HOY := hidm (owns_later HO.out hby)
      obtain ⟨tx, htx⟩ : ∃ t, t = Pg.see v d k := ⟨_, rfl⟩
      rw [← htx]
      have HST := hidm (show strs (all (k + 1) (Pg.see v d)) = strs (all k (Pg.see v d)) ++ [.string (S tx)] from by rw [all_succ, strs_snoc, htx])
      clear hby htx
      go_wp2_with (at_builtin; refine wpList_append_own _ rfl _ _ 57 rfl w.heap.size 9 i0 (.string ⟨#[]⟩) 1 16 Tryz.underlying57 hi0 hz0 hz1 hz2 rfl (by decide) _ _ _ rfl (owns_later HOY.out ((Below.refl _ _).alloc (Nat.le_refl _) _)) ⟨wy.heap.size, 0, none⟩ 1 1 [.string (S tx)] rfl rfl ?CA ?CB ?CC ?CD ?CE ?_)
      case CA =>
        intro j y hj
        match j, hj with
        | 0, hj => simp at hj; subst hj; simp [Addr.add, go_sem]
        | j + 1, hj => simp at hj
      case CB => intro y hy; simp at hy; subst hy; rfl
      case CC => unfold maxLen; omega
      case CD => omega
      case CE => simp; have := HBY.out.size; omega
      intro v' w2 hown hgrow _
      rw [← HST.out] at hown
      obtain ⟨wo, wc, hvv⟩ : ∃ so sc, v' = .slice so (k + 1) sc := by
        rcases hown.2 with ⟨hv, h0⟩ | ⟨g', c', cur, hv, _⟩
        · exact absurd h0 (by omega)
        · exact ⟨_, _, hv⟩
      subst hvv
      have HO2 := hidm hown
      have HBZ := hidm ((HBY.out.alloc HBY.out.size (.cells #[.string (S tx)] 9)).grown hgrow (by have := HBY.out.size; simp; omega) (fun q hq => (HOY.out.lt q hq).1))
      clear hown hgrow
      go_wp2_with fail
      go_roundw
      case rel => exact ⟨k + 1, wo, wc, by go_num, by omega, rfl, HO2, HBZ⟩
      case measure => simp [intOf]; omega
    · obtain rfl : k = n := by omega
      have g5 : ¬ (k : Int) < (k : Int) := by omega
      go_wp2_with fail
      refine (HLN.out _ HBX.out).mono ?_
      rintro e wx2 ⟨rfl, rfl⟩
      go_wp2_with fail
      go_ret
      refine ⟨_, rfl, ⟨?_, fun g hg => HO.out.lt g hg⟩, HBX.out⟩
      unfold TextsAt
      rw [all_len]
      exact own0 HO.out
/-! ### A call whose answer is not asked for -/
theorem read_w (k : Int) (hk0 : -9223372036854775808 ≤ k) (h : Pg W Q P L D v g d w) : Calls Tryz.prog 39 #[.pointer (some ⟨P, 0, none⟩), .int .i64 k] w fun e w' => ∃ s c, e = .returned (.tuple #[.string s, .int .i64 c]) ∧ Below w.heap.size w w' := by
  by_cases hk : off v.pages k
  · exact (read_off k h hk).mono fun _ _ ⟨he, hw⟩ => ⟨_, _, he, hw ▸ Below.refl _ _⟩
  · obtain ⟨j, rfl⟩ := Int.eq_ofNat_of_zero_le (show 0 ≤ k from by unfold off at hk; omega)
    exact (read_in j h (by unfold off at hk; omega)).mono fun _ _ ⟨he, hw⟩ => ⟨_, _, he, hw⟩
theorem write_w (k : Int) (s : ByteArray) (h : Pg W Q P L D v g d w) : Calls Tryz.prog 41 #[.pointer (some ⟨P, 0, none⟩), .int .i64 k, .string s] w fun e w' => ∃ (c : Int) (ch : Ch), e = .returned (.int .i64 c) ∧ Pg W Q P L D { v with ch := ch } g d w' ∧ KeepQ Q w w' := by
  by_cases hk : off v.pages k
  · exact (write_off k s h hk).mono fun _ _ ⟨he, hw⟩ => ⟨_, v.ch, he, hw ▸ h, hw ▸ fun _ _ => rfl⟩
  · obtain ⟨j, rfl⟩ := Int.eq_ofNat_of_zero_le (show 0 ≤ k from by unfold off at hk; omega)
    have hj : j < v.pages := by unfold off at hk; omega
    by_cases h0 : j = 0
    · subst h0
      exact (write_zero s h).mono fun _ _ ⟨he, hw⟩ => ⟨_, v.ch, he, hw ▸ h, hw ▸ fun _ _ => rfl⟩
    · rcases Nat.lt_or_ge 128 s.size with hs | hs
      · exact (write_big j s hs h hj h0).mono fun _ _ ⟨he, hw⟩ => ⟨_, v.ch, he, hw ▸ h, hw ▸ fun _ _ => rfl⟩
      · exact (write_in j s hs h hj h0).mono fun _ _ ⟨he, hp, hk⟩ => ⟨_, _, he, hp, hk⟩
theorem alloc_w (h : Pg W Q P L D v g d w) : Calls Tryz.prog 38 #[.pointer (some ⟨P, 0, none⟩)] w fun e w' => ∃ (k c : Int) (ch : Ch), e = .returned (.tuple #[.int .i64 k, .int .i64 c]) ∧ Pg W Q P L D { v with ch := ch } g d w' ∧ KeepQ Q w w' := by
  refine (alloc_in h).mono fun e w' h1 => ?_
  rcases h1 with ⟨k, _, _, _, _, he, hp, hk⟩ | ⟨_, he, hb⟩
  · exact ⟨_, _, _, he, hp, hk⟩
  · exact ⟨_, _, v.ch, he, h.later hb, h.kept hb⟩
theorem free_w (k : Int) (h : Pg W Q P L D v g d w) : Calls Tryz.prog 42 #[.pointer (some ⟨P, 0, none⟩), .int .i64 k] w fun e w' => ∃ (c : Int) (ch : Ch), e = .returned (.int .i64 c) ∧ Pg W Q P L D { v with ch := ch } g d w' ∧ KeepQ Q w w' := by
  by_cases hk : off v.pages k
  · exact (free_off k h hk).mono fun _ _ ⟨he, hw⟩ => ⟨_, v.ch, he, hw ▸ h, hw ▸ fun _ _ => rfl⟩
  · obtain ⟨j, rfl⟩ := Int.eq_ofNat_of_zero_le (show 0 ≤ k from by unfold off at hk; omega)
    have hj : j < v.pages := by unfold off at hk; omega
    by_cases h0 : j = 0
    · subst h0
      exact (free_zero h).mono fun _ _ ⟨he, hw⟩ => ⟨_, v.ch, he, hw ▸ h, hw ▸ fun _ _ => rfl⟩
    · cases hu : useB (Pg.see v d 0) j with
      | false => exact (free_idle j h hj h0 hu).mono fun _ _ ⟨he, hb⟩ => ⟨_, v.ch, he, h.later hb, h.kept hb⟩
      | true => exact (free_in j h hj h0 hu).mono fun _ _ ⟨he, hp, hk⟩ => ⟨_, _, he, hp, hk⟩
theorem abort_w (h : Pg W Q P L D v g d w) : Calls Tryz.prog 33 #[.pointer (some ⟨P, 0, none⟩)] w fun e w' => ∃ ch : Ch, e = .returned (.tuple #[]) ∧ Pg W Q P L D { v with ch := ch } g d w' ∧ KeepQ Q w w' :=
  (abort_in h).mono fun _ _ ⟨he, hp, hk⟩ => ⟨[], he, hp, hk⟩
/-- What a call but a Commit comes to. -/
def DoP (W : World) (Q : Nat → Prop) (P L D : Nat) (v : PV) (g : PL) (d : PD) (w : World) (e : Ending) (w' : World) : Prop :=
  ∃ (a c : Int) (s : ByteArray) (ch : Ch), e = .returned (.tuple #[.int .i64 a, .string s, .int .i64 c]) ∧ Pg W Q P L D { v with ch := ch } g d w' ∧ KeepQ Q w w'
def opV (x : Opv) : Value := .agg #[.int .i64 x.kind, .int .i64 x.pos, .string x.s, .slice x.ko x.ks.length x.kc]
set_option maxHeartbeats 4000000 in
set_option maxRecDepth 100000 in
theorem do_any (x : Opv) (hx : x.inn) (h : Pg W Q P L D v g d w) (h3 : x.kind ≠ 3) : Calls Tryz.prog 19 #[.pointer (some ⟨P, 0, none⟩), opV x] w fun e w' => DoP W Q P L D v g d w e w' := by
  have HP := hidm h
  have HX := hidm hx
  have hba := fun o : Obj => (Below.refl w.heap.size w).alloc (Nat.le_refl _) o
  have HBA := hidm hba
  clear h hx hba
  obtain ⟨k, p, s, ks, ko, kc⟩ := x
  unfold opV
  change k ≠ 3 at h3
  dsimp only
  by_cases hk0 : k = 0
  · subst hk0
    clear h3
    go_enter Tryz.func19, Tryz.ntmps19
    go_wp2_with fail
    refine (write_w p s (HP.out.later (HBA.out _))).mono ?_
    rintro e w2 ⟨c, ch, rfl, hp, hk⟩
    have HP2 := hidm hp
    have HK2 := hidm ((HP.out.kept (HBA.out _)).trans hk)
    clear hp hk
    go_wp2_with fail
    go_ret3
    exact ⟨_, _, _, _, rfl, HP2.out, HK2.out⟩
  · have g0 : (k == 0) = false := by simpa using hk0
    by_cases hk1 : k = 1
    · subst hk1
      clear h3 hk0 g0
      go_enter Tryz.func19, Tryz.ntmps19
      go_wp2_with fail
      refine (alloc_w (HP.out.later (HBA.out _))).mono ?_
      rintro e w2 ⟨j, c, ch, rfl, hp, hk⟩
      have HP2 := hidm hp
      have HK2 := hidm ((HP.out.kept (HBA.out _)).trans hk)
      clear hp hk
      go_wp2_with fail
      go_ret3
      exact ⟨_, _, _, _, rfl, HP2.out, HK2.out⟩
    · have g1 : (k == 1) = false := by simpa using hk1
      by_cases hk2 : k = 2
      · subst hk2
        clear h3 hk0 g0 hk1 g1
        go_enter Tryz.func19, Tryz.ntmps19
        go_wp2_with fail
        refine (free_w p (HP.out.later (HBA.out _))).mono ?_
        rintro e w2 ⟨c, ch, rfl, hp, hk⟩
        have HP2 := hidm hp
        have HK2 := hidm ((HP.out.kept (HBA.out _)).trans hk)
        clear hp hk
        go_wp2_with fail
        go_ret3
        exact ⟨_, _, _, _, rfl, HP2.out, HK2.out⟩
      · have g2 : (k == 2) = false := by simpa using hk2
        have g3 : (k == 3) = false := by simpa using h3
        by_cases hk4 : k = 4
        · subst hk4
          clear h3 hk0 g0 hk1 g1 hk2 g2 g3
          go_enter Tryz.func19, Tryz.ntmps19
          go_wp2_with fail
          refine (abort_w (HP.out.later (HBA.out _))).mono ?_
          rintro e w2 ⟨ch, rfl, hp, hk⟩
          have HP2 := hidm hp
          have HK2 := hidm ((HP.out.kept (HBA.out _)).trans hk)
          clear hp hk
          go_wp2_with fail
          go_ret3
          exact ⟨_, _, _, _, rfl, HP2.out, HK2.out⟩
        · have g4 : (k == 4) = false := by simpa using hk4
          go_enter Tryz.func19, Tryz.ntmps19
          go_wp2_with fail
          refine (read_w p HX.out.p0 (HP.out.later (HBA.out _))).mono ?_
          rintro e w2 ⟨t, c, rfl, hb⟩
          have HP2 := hidm ((HP.out.later (HBA.out _)).later hb)
          have HK2 := hidm ((HP.out.kept (HBA.out _)).trans ((HP.out.later (HBA.out _)).kept hb))
          clear hb
          go_wp2_with fail
          go_ret3
          exact ⟨_, _, _, v.ch, rfl, HP2.out, HK2.out⟩
end
end Pgr
end Go.Proofs.YtkgbemkcnahkoaaGreatDoor
/- What a law does with a pager that lives or is halted: calls, pages, a fuse. Conditions: as each says. -/
namespace Go.Proofs.YtkgbemkcnahkoaaGreatDoor
open Go.RowKit
namespace Pgr
open Wal (Pair PL R np)
open Dsk (PD Mine KeepQ Only below_keeps cell_later sec vals pad zeros upd IntsAt ints BoolsAt Opv)
open Crc (S S_of S_size)
theorem bools_take {ks : List Bool} {ao : Option Addr} {cap : Nat} {w : World} (h : BoolsAt ks ao cap w) (m : Nat) (hm : m ≤ ks.length) : BoolsAt (ks.take m) ao cap w := by
  obtain ⟨h1, h2, h3⟩ := h
  refine ⟨by rw [List.length_take]; omega, h2, fun hne => ?_⟩
  obtain ⟨b, o, e, hlt, hc⟩ := h3 (fun e => hne (by rw [e]; simp))
  refine ⟨b, o, e, hlt, fun j hj => ?_⟩
  rw [List.length_take] at hj
  rw [List.getElem_take]
  exact hc j (by omega)
def fused (d : PD) (k : Int) : PD := { d with fu := true, lf := k.toNat }
section
variable {W : World} {Q : Nat → Prop} {P L D n N K : Nat} {u : Bool} {ch : Ch} {V V' : Nat → List UInt8} {v : PV} {g : PL} {d : PD} {w w' : World}
theorem Pg.fuse (h : Pg W Q P L D v g d w) (k : Int) (hk : k ≤ 9223372036854775807) : Calls Tryz.prog 14 #[.pointer (some ⟨D, 0, none⟩), .int .i64 k] w fun e w' => e = .returned (.tuple #[]) ∧ Pg W Q P L D v g (fused d k) w' ∧ KeepQ Q w w' := by
  obtain ⟨M, hl, hp, h1, h2⟩ := h.ex
  obtain ⟨U, sl, ⟨⟨T, hT, hq⟩, hB, hql⟩, hlg, hu⟩ := hl.ex
  refine (Dsk.fuse_any k hk w hT).mono fun e w' h3 => ?_
  obtain ⟨he, hd, ho⟩ := h3
  obtain ⟨hm, hkq⟩ := Mine.same hq hB hql hd ho
  obtain ⟨hp2, hkq2⟩ := Wal.Pair.disk hlg hu hm hkq
  obtain ⟨h4, h5⟩ := Pg.log hp h1 h2 hp2 hkq2 h.fit
  exact ⟨he, h4, h5⟩
theorem Calm.fuse {t b : Nat} (h : Calm n N K t b d V) (k : Int) : Calm n N K t b (fused d k) V :=
  ⟨⟨⟨h.life.bd.one, h.life.bd.slots, h.life.bd.a1, h.life.bd.cs, h.life.bd.old, h.life.bd.stop, h.life.bd.mono, h.life.bd.all, h.life.bd.room⟩, h.life.cur⟩, h.cs, h.bt, h.tT, h.pgs⟩
theorem Lv.fuse (h : Lv W Q P L D n N K u ch V w) (k : Int) (hk : k ≤ 9223372036854775807) : Calls Tryz.prog 14 #[.pointer (some ⟨D, 0, none⟩), .int .i64 k] w fun e w' => e = .returned (.tuple #[]) ∧ Lv W Q P L D n N K false ch V w' ∧ KeepQ Q w w' := by
  obtain ⟨d, t, b, hp, hc, h1, h2, _⟩ := h.ex
  refine (hp.fuse k hk).mono fun e w' h3 => ?_
  obtain ⟨he, hp', hq⟩ := h3
  exact ⟨he, ⟨_, t, b, hp', hc.fuse k, h1, h2, fun e => by cases e⟩, hq⟩
theorem Hv.fuse (h : Hv W Q P L D n N K ch V V' w) (k : Int) (hk : k ≤ 9223372036854775807) : Calls Tryz.prog 14 #[.pointer (some ⟨D, 0, none⟩), .int .i64 k] w fun e w' => e = .returned (.tuple #[]) ∧ Hv W Q P L D n N K ch V V' w' ∧ KeepQ Q w w' := by
  obtain ⟨g, d, hp, hc, h1, h2, h3⟩ := h.ex
  refine (hp.fuse k hk).mono fun e w' h4 => ?_
  obtain ⟨he, hp', hq⟩ := h4
  exact ⟨he, ⟨g, _, hp', hc, h1, h2, h3⟩, hq⟩
theorem Re.fuse (h : Re W Q D n N K V w) (k : Int) (hk : k ≤ 9223372036854775807) : Calls Tryz.prog 14 #[.pointer (some ⟨D, 0, none⟩), .int .i64 k] w fun e w' => e = .returned (.tuple #[]) ∧ (∃ d, Mine W Q D d w' ∧ d.n = 2 + n + N ∧ Rs n N K d.f V ∧ d.cs = [] ∧ d.wr ≤ K ∧ d.fl ≤ K) ∧ KeepQ Q w w' := by
  obtain ⟨d, ⟨⟨T, hT, hq⟩, hB, hql⟩, hn, hrs, hcs, h1, h2, _⟩ := h.ex
  refine (Dsk.fuse_any k hk w hT).mono fun e w' h3 => ?_
  obtain ⟨he, hd, ho⟩ := h3
  obtain ⟨hm, hkq⟩ := Mine.same hq hB hql hd ho
  exact ⟨he, ⟨fused d k, hm, hn, hrs, hcs, h1, h2⟩, hkq⟩
/-! ### Halted -/
theorem Hv.later (h : Hv W Q P L D n N K ch V V' w) (hb : Below w.heap.size w w') : Hv W Q P L D n N K ch V V' w' := by
  obtain ⟨g, d, hp, r⟩ := h.ex
  exact ⟨g, d, hp.later hb, r⟩
theorem Hv.guard (h : Hv W Q P L D n N K ch V V' w) (hb : Below w.heap.size w w') : Hv W (fun k => Q k ∨ (w.heap.size ≤ k ∧ k < w'.heap.size)) P L D n N K ch V V' w' := by
  obtain ⟨g, d, hp, r⟩ := h.ex
  exact ⟨g, d, hp.guard hb, r⟩
theorem Hv.kept (h : Hv W Q P L D n N K ch V V' w) (hb : Below w.heap.size w w') : KeepQ Q w w' := by
  obtain ⟨g, d, hp, r⟩ := h.ex
  exact hp.kept hb
theorem Hv.bel (h : Hv W Q P L D n N K ch V V' w) : Below W.heap.size W w := by
  obtain ⟨g, d, hp, r⟩ := h.ex
  exact hp.bel
theorem Hv.shut (h : Hv W Q P L D n N K ch V V' w) : Calls Tryz.prog 35 #[.pointer (some ⟨P, 0, none⟩)] w fun e w' => e = .returned (.int .i64 6) ∧ w = w' := by
  obtain ⟨g, d, hp, r⟩ := h.ex
  exact pcommit_shut hp rfl
theorem Hv.pages (h : Hv W Q P L D n N K ch V V' w) : Calls Tryz.prog 34 #[.pointer (some ⟨P, 0, none⟩)] w fun e w' => ∃ x l, e = .returned x ∧ l.length = N ∧ TextsQ (fun k => w.heap.size ≤ k ∧ k < w'.heap.size) l x w' ∧ Below w.heap.size w w' := by
  obtain ⟨g, d, hp, r⟩ := h.ex
  refine (pages_any hp).mono fun e w' h1 => ?_
  obtain ⟨x, he, ht, hb⟩ := h1
  exact ⟨x, _, he, all_len _ _, ht, hb⟩
theorem Hv.do (h : Hv W Q P L D n N K ch V V' w) (x : Opv) (hx : x.inn) (h3 : x.kind ≠ 3) : Calls Tryz.prog 19 #[.pointer (some ⟨P, 0, none⟩), opV x] w fun e w' => ∃ (a c : Int) (s : ByteArray) (ch : Ch), e = .returned (.tuple #[.int .i64 a, .string s, .int .i64 c]) ∧ Hv W Q P L D n N K ch V V' w' ∧ KeepQ Q w w' := by
  obtain ⟨g, d, hp, r⟩ := h.ex
  refine (do_any x hx hp h3).mono fun e w' h1 => ?_
  obtain ⟨a, c, s, ch, he, hp', hk⟩ := h1
  exact ⟨a, c, s, ch, he, ⟨g, d, hp', r⟩, hk⟩
/-! ### It lives -/
theorem Lv.pages (h : Lv W Q P L D n N K u ch V w) : Calls Tryz.prog 34 #[.pointer (some ⟨P, 0, none⟩)] w fun e w' => ∃ x, e = .returned x ∧ TextsQ (fun k => w.heap.size ≤ k ∧ k < w'.heap.size) (all N (over ch V)) x w' ∧ Below w.heap.size w w' := by
  obtain ⟨d, t, b, hp, hc, r⟩ := h.ex
  refine (pages_any hp).mono fun e w' h1 => ?_
  obtain ⟨x, he, ht, hb⟩ := h1
  have e1 : all N (Pg.see ⟨2 + n, N, ch, false⟩ d) = all N (over ch V) := all_congr fun i hi => see_is hc hi
  exact ⟨x, he, by rw [← e1]; exact ht, hb⟩
theorem Lv.do (h : Lv W Q P L D n N K u ch V w) (x : Opv) (hx : x.inn) (h3 : x.kind ≠ 3) : Calls Tryz.prog 19 #[.pointer (some ⟨P, 0, none⟩), opV x] w fun e w' => ∃ (a c : Int) (s : ByteArray) (ch : Ch), e = .returned (.tuple #[.int .i64 a, .string s, .int .i64 c]) ∧ Lv W Q P L D n N K u ch V w' ∧ KeepQ Q w w' := by
  obtain ⟨d, t, b, hp, r⟩ := h.ex
  refine (do_any x hx hp h3).mono fun e w' h1 => ?_
  obtain ⟨a, c, s, ch, he, hp', hk⟩ := h1
  exact ⟨a, c, s, ch, he, ⟨d, t, b, hp', r⟩, hk⟩
set_option maxHeartbeats 4000000 in
set_option maxRecDepth 100000 in
theorem Lv.doc (h : Lv W Q P L D n N K true ch V w) (x : Opv) (hn : n ≤ 998) (hr : np (record ch) ≤ n) (hK : K ≤ 700000) (h3 : x.kind = 3) : Calls Tryz.prog 19 #[.pointer (some ⟨P, 0, none⟩), opV x] w fun e w' => ∃ (a c : Int) (s : ByteArray), e = .returned (.tuple #[.int .i64 a, .string s, .int .i64 c]) ∧ Lv W Q P L D n N (K + 3000) true [] (over ch V) w' ∧ KeepQ Q w w' := by
  have HBA := hidm (fun o : Obj => (Below.refl w.heap.size w).alloc (Nat.le_refl _) o)
  have HKP := hidm (fun o : Obj => h.kept (HBA.out o))
  have HC := hidm (fun o : Obj => (h.later (HBA.out o)).commit hn hr hK)
  clear h hn hr hK
  obtain ⟨k, p, s, ks, ko, kc⟩ := x
  change k = 3 at h3
  subst h3
  unfold opV
  dsimp only
  go_enter Tryz.func19, Tryz.ntmps19
  go_wp2_with fail
  refine (HC.out _).mono ?_
  rintro e w2 hcm
  rcases hcm with ⟨rfl, hp, hk⟩ | ⟨hu, _⟩
  rotate_left
  · cases hu
  have HP2 := hidm hp
  have HK2 := hidm ((HKP.out _).trans hk)
  clear hp hk
  go_wp2_with fail
  go_ret3
  exact ⟨_, _, _, rfl, HP2.out, HK2.out⟩
/-- A call of any kind, without a fuse. -/
theorem Lv.do_all (h : Lv W Q P L D n N K true ch V w) (x : Opv) (hx : x.inn) (hn : n ≤ 998) (hr : np (record ch) ≤ n) (hK : K ≤ 700000) : Calls Tryz.prog 19 #[.pointer (some ⟨P, 0, none⟩), opV x] w fun e w' => ∃ (a c : Int) (s : ByteArray) (ch : Ch) (V : Nat → List UInt8), e = .returned (.tuple #[.int .i64 a, .string s, .int .i64 c]) ∧ Lv W Q P L D n N (K + 3000) true ch V w' ∧ KeepQ Q w w' := by
  by_cases h3 : x.kind = 3
  · refine (h.doc x hn hr hK h3).mono fun e w' h1 => ?_
    obtain ⟨a, c, s, he, hp, hk⟩ := h1
    exact ⟨a, c, s, _, _, he, hp, hk⟩
  · refine (h.do x hx h3).mono fun e w' h1 => ?_
    obtain ⟨a, c, s, ch, he, hp, hk⟩ := h1
    exact ⟨a, c, s, _, _, he, hp.more (by omega), hk⟩
/-- Twenty pages' record is never too long for the log of a law. -/
theorem Lv.fits (h : Lv W Q P L D 38 20 K u ch V w) : np (record ch) ≤ 38 := np_few (c := 20) h.ok.2.2 (by omega) h.ok.2.2.count (by omega)
/-- What a write comes to. -/
theorem Lv.write_any (h : Lv W Q P L D n N K u ch V w) (k : Int) (s : ByteArray) : Calls Tryz.prog 41 #[.pointer (some ⟨P, 0, none⟩), .int .i64 k, .string s] w fun e w' => ∃ (c : Int) (ch' : Ch), e = .returned (.int .i64 c) ∧ Lv W Q P L D n N K u ch' V w' ∧ KeepQ Q w w' ∧
    ((c ≠ 0 ∧ ch' = ch ∧ (k < 1 ∨ (N : Int) ≤ k ∨ 128 < s.size)) ∨ (c = 0 ∧ 1 ≤ k ∧ k < N ∧ s.size ≤ 128 ∧ ch' = put ch k.toNat (pad s.data.toList))) := by
  by_cases hk : off N k
  · exact (h.write_off k s hk).mono fun _ _ ⟨he, hw⟩ => ⟨_, _, he, hw ▸ h, hw ▸ fun _ _ => rfl, .inl ⟨by decide, rfl, by unfold off at hk; omega⟩⟩
  · obtain ⟨j, rfl⟩ := Int.eq_ofNat_of_zero_le (show 0 ≤ k from by unfold off at hk; omega)
    have hj : j < N := by unfold off at hk; omega
    by_cases h0 : j = 0
    · subst h0
      exact (h.write_zero s).mono fun _ _ ⟨he, hw⟩ => ⟨_, _, he, hw ▸ h, hw ▸ fun _ _ => rfl, .inl ⟨by decide, rfl, .inl (by omega)⟩⟩
    · rcases Nat.lt_or_ge 128 s.size with hs | hs
      · exact (h.write_big j s hs hj h0).mono fun _ _ ⟨he, hw⟩ => ⟨_, _, he, hw ▸ h, hw ▸ fun _ _ => rfl, .inl ⟨by decide, rfl, .inr (.inr hs)⟩⟩
      · exact (h.write j s hs hj h0).mono fun _ _ ⟨he, hp, hk⟩ => ⟨_, _, he, hp, hk, .inr ⟨rfl, by omega, by omega, hs, rfl⟩⟩
/-- The pages as texts, kept from then on. -/
theorem Lv.pagesQ (h : Lv W Q P L D n N K u ch V w) : Calls Tryz.prog 34 #[.pointer (some ⟨P, 0, none⟩)] w fun e w' => ∃ (xo : Option Addr) (xc : Nat) (Q' : Nat → Prop), e = .returned (.slice xo N xc) ∧ (∀ k, Q k → Q' k) ∧ TextsQ Q' (all N (over ch V)) (.slice xo N xc) w' ∧ Lv W Q' P L D n N K u ch V w' ∧ KeepQ Q w w' := by
  refine h.pages.mono fun e w' h1 => ?_
  obtain ⟨x, he, ht, hb⟩ := h1
  obtain ⟨xo, xc, rfl, _⟩ := ht.1.form
  rw [all_len] at he ht
  exact ⟨xo, xc, _, he, fun k hk => .inl hk, ht.mono (fun k hk => .inr hk), h.guard hb, h.kept hb⟩
theorem Hv.pagesQ (h : Hv W Q P L D n N K ch V V' w) : Calls Tryz.prog 34 #[.pointer (some ⟨P, 0, none⟩)] w fun e w' => ∃ (xo : Option Addr) (xc : Nat) (Q' : Nat → Prop) (l : List (List UInt8)), l.length = N ∧ e = .returned (.slice xo N xc) ∧ (∀ k, Q k → Q' k) ∧ TextsQ Q' l (.slice xo N xc) w' ∧ Hv W Q' P L D n N K ch V V' w' ∧ KeepQ Q w w' := by
  refine h.pages.mono fun e w' h1 => ?_
  obtain ⟨x, l, he, hl, ht, hb⟩ := h1
  obtain ⟨xo, xc, rfl, _⟩ := ht.1.form
  rw [hl] at he ht
  exact ⟨xo, xc, _, l, hl, he, fun k hk => .inl hk, ht.mono (fun k hk => .inr hk), h.guard hb, h.kept hb⟩
end
end Pgr
end Go.Proofs.YtkgbemkcnahkoaaGreatDoor
/- Pages ahead of a commit and behind it, beside a pager that lives or is halted. Conditions: as each says. -/
namespace Go.Proofs.YtkgbemkcnahkoaaGreatDoor
open Go.RowKit
namespace Pgr
open Wal (Pair PL R np)
open Dsk (PD Mine KeepQ Only below_keeps cell_later sec vals pad zeros upd IntsAt ints BoolsAt Opv)
open Crc (S S_of S_size)
theorem Lv.weak {W : World} {Q : Nat → Prop} {P L D n N K : Nat} {u : Bool} {ch : Ch} {V : Nat → List UInt8} {w : World} (h : Lv W Q P L D n N K u ch V w) : Lv W Q P L D n N K false ch V w := by
  obtain ⟨d, t, b, hp, hc, h1, h2, _⟩ := h.ex
  exact ⟨d, t, b, hp, hc, h1, h2, fun e => by cases e⟩
theorem Hv.less {W : World} {Q Q' : Nat → Prop} {P L D n N K : Nat} {ch : Ch} {V V' : Nat → List UInt8} {w : World} (h : Hv W Q P L D n N K ch V V' w) (hQ : ∀ k, Q' k → Q k) : Hv W Q' P L D n N K ch V V' w := by
  obtain ⟨g, d, hp, r⟩ := h.ex
  exact ⟨g, d, hp.less hQ, r⟩
/-- The pager lives, its pages being a's, or is halted: then a crash leaves a's or b's. -/
def St (W : World) (Q : Nat → Prop) (P L D K : Nat) (a b : List (List UInt8)) (w : World) : Prop :=
  (∃ ch V, Lv W Q P L D 38 20 K false ch V w ∧ a = all 20 V ∧ b = all 20 V) ∨ (∃ ch V V', Hv W Q P L D 38 20 K ch V V' w ∧ a = all 20 V ∧ (b = all 20 V' ∨ all 20 V = all 20 V'))
structure Two (W : World) (Q : Nat → Prop) (P L D K : Nat) (a b : List (List UInt8)) (va vb : Value) (w : World) : Prop where
  st : St W Q P L D K a b w
  ra : TextsQ Q a va w
  rb : TextsQ Q b vb w
section
variable {W : World} {Q : Nat → Prop} {P L D K : Nat} {a b l : List (List UInt8)} {va vb vl : Value} {w w' : World}
theorem St.bel (h : St W Q P L D K a b w) : Below W.heap.size W w := by
  rcases h with ⟨ch, V, h, _⟩ | ⟨ch, V, V', h, _⟩
  · exact h.bel
  · exact h.bel
theorem St.kept (h : St W Q P L D K a b w) (hb : Below w.heap.size w w') : KeepQ Q w w' := by
  rcases h with ⟨ch, V, h, _⟩ | ⟨ch, V, V', h, _⟩
  · exact h.kept hb
  · exact h.kept hb
theorem St.later (h : St W Q P L D K a b w) (hb : Below w.heap.size w w') : St W Q P L D K a b w' := by
  rcases h with ⟨ch, V, h, r⟩ | ⟨ch, V, V', h, r⟩
  · exact .inl ⟨ch, V, h.later hb, r⟩
  · exact .inr ⟨ch, V, V', h.later hb, r⟩
theorem St.guard (h : St W Q P L D K a b w) (hb : Below w.heap.size w w') : St W (fun k => Q k ∨ (w.heap.size ≤ k ∧ k < w'.heap.size)) P L D K a b w' := by
  rcases h with ⟨ch, V, h, r⟩ | ⟨ch, V, V', h, r⟩
  · exact .inl ⟨ch, V, h.guard hb, r⟩
  · exact .inr ⟨ch, V, V', h.guard hb, r⟩
theorem St.more {K' : Nat} (h : St W Q P L D K a b w) (hK : K ≤ K') : St W Q P L D K' a b w := by
  rcases h with ⟨ch, V, h, r⟩ | ⟨ch, V, V', h, r⟩
  · exact .inl ⟨ch, V, h.more hK, r⟩
  · exact .inr ⟨ch, V, V', h.more hK, r⟩
theorem St.len (h : St W Q P L D K a b w) : a.length = 20 := by
  rcases h with ⟨ch, V, h, h1, h2⟩ | ⟨ch, V, V', h, h1, h2⟩
  · rw [h1]; exact all_len _ _
  · rw [h1]; exact all_len _ _
theorem Two.bel (h : Two W Q P L D K a b va vb w) : Below W.heap.size W w := h.st.bel
theorem Two.kept (h : Two W Q P L D K a b va vb w) (hb : Below w.heap.size w w') : KeepQ Q w w' := h.st.kept hb
theorem Two.later (h : Two W Q P L D K a b va vb w) (hb : Below w.heap.size w w') : Two W Q P L D K a b va vb w' := ⟨h.st.later hb, h.ra.keep (h.st.kept hb), h.rb.keep (h.st.kept hb)⟩
theorem Two.guard (h : Two W Q P L D K a b va vb w) (hb : Below w.heap.size w w') : Two W (fun k => Q k ∨ (w.heap.size ≤ k ∧ k < w'.heap.size)) P L D K a b va vb w' := ⟨h.st.guard hb, (h.ra.keep (h.st.kept hb)).mono (fun _ e => .inl e), (h.rb.keep (h.st.kept hb)).mono (fun _ e => .inl e)⟩
theorem Two.more {K' : Nat} (h : Two W Q P L D K a b va vb w) (hK : K ≤ K') : Two W Q P L D K' a b va vb w := ⟨h.st.more hK, h.ra, h.rb⟩
theorem Two.fuse (h : Two W Q P L D K a b va vb w) (k : Int) (hk : k ≤ 9223372036854775807) : Calls Tryz.prog 14 #[.pointer (some ⟨D, 0, none⟩), .int .i64 k] w fun e w' => e = .returned (.tuple #[]) ∧ Two W Q P L D K a b va vb w' ∧ KeepQ Q w w' := by
  rcases h.st with ⟨ch, V, h1, r⟩ | ⟨ch, V, V', h1, r⟩
  · refine (h1.fuse k hk).mono fun e w' h2 => ?_
    obtain ⟨he, h3, h4⟩ := h2
    exact ⟨he, ⟨.inl ⟨ch, V, h3, r⟩, h.ra.keep h4, h.rb.keep h4⟩, h4⟩
  · refine (h1.fuse k hk).mono fun e w' h2 => ?_
    obtain ⟨he, h3, h4⟩ := h2
    exact ⟨he, ⟨.inr ⟨ch, V, V', h3, r⟩, h.ra.keep h4, h.rb.keep h4⟩, h4⟩
theorem Two.do (h : Two W Q P L D K a b va vb w) (x : Opv) (hx : x.inn) (h3 : x.kind ≠ 3) : Calls Tryz.prog 19 #[.pointer (some ⟨P, 0, none⟩), opV x] w fun e w' => ∃ (y c : Int) (s : ByteArray), e = .returned (.tuple #[.int .i64 y, .string s, .int .i64 c]) ∧ Two W Q P L D K a b va vb w' ∧ KeepQ Q w w' := by
  rcases h.st with ⟨ch, V, h1, r⟩ | ⟨ch, V, V', h1, r⟩
  · refine (h1.do x hx h3).mono fun e w' h2 => ?_
    obtain ⟨y, c, s, ch2, he, h3, h4⟩ := h2
    exact ⟨y, c, s, he, ⟨.inl ⟨ch2, V, h3, r⟩, h.ra.keep h4, h.rb.keep h4⟩, h4⟩
  · refine (h1.do x hx h3).mono fun e w' h2 => ?_
    obtain ⟨y, c, s, ch2, he, h3, h4⟩ := h2
    exact ⟨y, c, s, he, ⟨.inr ⟨ch2, V, V', h3, r⟩, h.ra.keep h4, h.rb.keep h4⟩, h4⟩
/-- What a commit comes to, the pages being l as its changes have them. -/
def CommitT (W : World) (Q : Nat → Prop) (P L D K : Nat) (a b l : List (List UInt8)) (va vb vl : Value) (w : World) (e : Ending) (w' : World) : Prop :=
  (e = .returned (.int .i64 0) ∧ Two W Q P L D (K + 3000) l l vl vl w' ∧ KeepQ Q w w') ∨ (e = .returned (.int .i64 6) ∧ TextsQ Q a va w' ∧ TextsQ Q b vb w' ∧ (a = b → Two W Q P L D (K + 3000) a l va vl w') ∧ (a ≠ b → Two W Q P L D (K + 3000) a b va vb w') ∧ KeepQ Q w w')
theorem Two.commit (h : Two W Q P L D K a b va vb w) (hK : K ≤ 700000) : Calls Tryz.prog 34 #[.pointer (some ⟨P, 0, none⟩)] w fun e w1 => ∃ (xo : Option Addr) (xc : Nat) (Q' : Nat → Prop) (l : List (List UInt8)), e = .returned (.slice xo 20 xc) ∧ l.length = 20 ∧ (∀ k, Q k → Q' k) ∧ KeepQ Q w w1 ∧
    Calls Tryz.prog 35 #[.pointer (some ⟨P, 0, none⟩)] w1 fun e w2 => CommitT W Q' P L D K a b l va vb (.slice xo 20 xc) w1 e w2 := by
  rcases h.st with ⟨ch, V, h1, rfl, rfl⟩ | ⟨ch, V, V', h1, rfl, hb⟩
  · refine h1.pagesQ.mono fun e w1 h2 => ?_
    obtain ⟨xo, xc, Q', he, hq, ht, hl, hk⟩ := h2
    refine ⟨xo, xc, Q', all 20 (over ch V), he, all_len _ _, hq, hk, (hl.commit (by omega) hl.fits hK).mono fun e w2 h3 => ?_⟩
    have ra := (h.ra.keep hk).mono hq
    have rb := (h.rb.keep hk).mono hq
    rcases h3 with ⟨he, h4, h5⟩ | ⟨_, he, h4, h5⟩
    · exact .inl ⟨he, ⟨.inl ⟨_, _, h4, rfl, rfl⟩, ht.keep h5, ht.keep h5⟩, h5⟩
    · exact .inr ⟨he, ra.keep h5, rb.keep h5, fun _ => ⟨.inr ⟨_, _, _, h4, rfl, .inl rfl⟩, ra.keep h5, ht.keep h5⟩, fun hne => absurd rfl hne, h5⟩
  · refine h1.pagesQ.mono fun e w1 h2 => ?_
    obtain ⟨xo, xc, Q', l, hll, he, hq, ht, hl, hk⟩ := h2
    refine ⟨xo, xc, Q', l, he, hll, hq, hk, hl.shut.mono fun e w2 h3 => ?_⟩
    have ra := (h.ra.keep hk).mono hq
    have rb := (h.rb.keep hk).mono hq
    obtain ⟨he, rfl⟩ := h3
    refine .inr ⟨he, ra, rb, fun hab => ⟨.inr ⟨_, _, _, hl.more (by omega), rfl, .inr ?_⟩, ra, ht⟩, fun _ => ⟨.inr ⟨_, _, _, hl.more (by omega), rfl, hb⟩, ra, rb⟩, fun _ _ => rfl⟩
    rcases hb with hb | hb
    · rw [hab, hb]
    · exact hb
/-- A crash, and an Open. -/
def Back (W : World) (Q : Nat → Prop) (D K : Nat) (a b : List (List UInt8)) (va vb : Value) (w : World) : Prop :=
  ∃ V, Re W Q D 38 20 K V w ∧ (all 20 V = a ∨ all 20 V = b) ∧ TextsQ Q a va w ∧ TextsQ Q b vb w
theorem Two.crash (h : Two W Q P L D K a b va vb w) : ∃ nd : Nat, nd ≤ K ∧ (Calls Tryz.prog 26 #[.pointer (some ⟨D, 0, none⟩)] w fun e w' => ∃ vo vc, e = .returned (.slice vo nd vc) ∧ Below w.heap.size w w') ∧
    ∀ w1, Below w.heap.size w w1 → ∀ (ks : List Bool) (so : Option Addr) (sc : Nat), ks.length ≤ nd → BoolsAt ks so sc w1 → (ks ≠ [] → ∀ p, so = some p → p.block < W.heap.size ∨ Q p.block) →
      Calls Tryz.prog 17 #[.pointer (some ⟨D, 0, none⟩), .slice so ks.length sc] w1 fun e w' => e = .returned (.int .i64 0) ∧ Back W Q D K a b va vb w' ∧ KeepQ Q w1 w' := by
  have hrows : ∀ {w1 w2}, Below w.heap.size w w1 → KeepQ Q w1 w2 → TextsQ Q a va w2 ∧ TextsQ Q b vb w2 := fun hb hk => ⟨(h.ra.keep (h.kept hb)).keep hk, (h.rb.keep (h.kept hb)).keep hk⟩
  rcases h.st with ⟨ch, V, h1, ha, hb'⟩ | ⟨ch, V, V', h1, ha, hb'⟩
  · obtain ⟨nd, hnd, hd, hc⟩ := h1.h2.crash
    refine ⟨nd, hnd, hd, fun w1 hb ks so sc h2 h3 h4 => (hc w1 hb ks so sc h2 h3 h4).mono fun e w2 h5 => ?_⟩
    obtain ⟨he, hr, hk⟩ := h5
    exact ⟨he, ⟨V, hr.elim id id, .inl ha.symm, (hrows hb hk).1, (hrows hb hk).2⟩, hk⟩
  · obtain ⟨nd, hnd, hd, hc⟩ := h1.h2.crash
    refine ⟨nd, hnd, hd, fun w1 hb ks so sc h2 h3 h4 => (hc w1 hb ks so sc h2 h3 h4).mono fun e w2 h5 => ?_⟩
    obtain ⟨he, hr, hk⟩ := h5
    rcases hr with hr | hr
    · exact ⟨he, ⟨V, hr, .inl ha.symm, (hrows hb hk).1, (hrows hb hk).2⟩, hk⟩
    · refine ⟨he, ⟨V', hr, ?_, (hrows hb hk).1, (hrows hb hk).2⟩, hk⟩
      rcases hb' with e | e
      · exact .inr e.symm
      · exact .inl (e.symm.trans ha.symm)
theorem Back.open (h : Back W Q D K a b va vb w) (hK : K ≤ 600000) : Calls Tryz.prog 12 #[.pointer (some ⟨D, 0, none⟩), .int .i64 40] w fun e w1 => ∃ P L, e = .returned (.tuple #[.pointer (some ⟨P, 0, none⟩), .int .i64 0]) ∧ KeepQ Q w w1 ∧
    Calls Tryz.prog 34 #[.pointer (some ⟨P, 0, none⟩)] w1 fun e w2 => ∃ (xo : Option Addr) (xc : Nat) (Q' : Nat → Prop) (l : List (List UInt8)), e = .returned (.slice xo 20 xc) ∧ (∀ k, Q k → Q' k) ∧ KeepQ Q w1 w2 ∧ l.length = 20 ∧ (l = a ∨ l = b) ∧ TextsQ Q' a va w2 ∧ TextsQ Q' b vb w2 ∧ Two W Q' P L D (K + 2000) l l (.slice xo 20 xc) (.slice xo 20 xc) w2 := by
  obtain ⟨V, hr, hv, ra, rb⟩ := h
  refine (hr.open (by omega) (by omega) hK 40 rfl).mono fun e w1 h1 => ?_
  obtain ⟨P, L, he, hl, hk⟩ := h1
  refine ⟨P, L, he, hk, hl.weak.pagesQ.mono fun e w2 h2 => ?_⟩
  obtain ⟨xo, xc, Q', he, hq, ht, hl2, hk2⟩ := h2
  exact ⟨xo, xc, Q', all 20 V, he, hq, hk2, all_len _ _, hv, ((ra.keep hk).keep hk2).mono hq, ((rb.keep hk).keep hk2).mono hq, ⟨.inl ⟨[], V, hl2, rfl, rfl⟩, ht, ht⟩⟩
end
end Pgr
end Go.Proofs.YtkgbemkcnahkoaaGreatDoor
