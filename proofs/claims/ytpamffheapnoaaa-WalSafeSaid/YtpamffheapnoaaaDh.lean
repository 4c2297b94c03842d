/- Flush, Dirty. Conditions: as each says. -/
import Derived.Test.YtpamffheapnoaaaDg
namespace Go.Proofs.Ytpamffheapnoaaa
open Go.RowKit
namespace Dsk
theorem DiskAt.emptied {D : Nat} {d : PD} {M : Nat} {ao : Option Addr} {cap : Nat} {T : Nat → Prop} {w : World} (h : DiskAt D d M ao cap T w) : DiskAt D { d with cs := [] } M none 0 T (w.setCell ⟨D, 3, none⟩ (.slice none 0 0)) := by
  obtain ⟨o1, o2, o3, o4, o5, o6⟩ := h.ok
  refine ⟨?_, map_set h.row h.map 3 _, own_set h.row (World.ownsRow_nil _ _ _ _) 3 _, h.tD, h.tM, fun p hp => (nomatch hp), fun k hk => by simpa using h.lt k hk, ⟨o1, fun x hx => (nomatch hx), Nat.zero_le _, o4, o5, o6⟩⟩
  rw [row_set h.row]; rfl
set_option maxHeartbeats 1000000 in
theorem flush_none (p : Option Addr) (w : World) (h : NotGiven p w) : Calls Try.prog 57 #[.pointer p] w fun e w' => e = .returned (.int .i64 13) ∧ Below w.heap.size w w' := by
  have G := hidm (given_no p w h)
  go_enter Try.func57, Try.ntmps57
  go_wp2_with fail
  refine G.out.mono ?_
  rintro e w1 ⟨rfl, rfl⟩
  go_wp2_with fail
  go_ret
  exact ⟨rfl, Below.refl _ _⟩
set_option maxHeartbeats 1000000 in
theorem flush_burnt {D : Nat} {d : PD} {T : Nat → Prop} (w : World) (h : DiskIs D d T w) (hb : d.burnt = true) :
    Calls Try.prog 57 #[.pointer (some ⟨D, 0, none⟩)] w fun e w' => e = .returned (.int .i64 6) ∧ Below w.heap.size w w' := by
  obtain ⟨M, ao, cap, hA⟩ := h
  have G := hidm (given_yes D w hA.c0)
  have B := hidm (burnt_any D d.fu d.lf w hA.c6 hA.c7)
  go_enter Try.func57, Try.ntmps57
  go_wp2_with fail
  refine G.out.mono ?_
  rintro e w1 ⟨rfl, rfl⟩
  go_wp2_with fail
  refine B.out.mono ?_
  rintro e w1 ⟨rfl, rfl⟩
  rw [show (d.fu && d.lf == 0) = true from hb]
  go_wp2_with fail
  go_ret
  exact ⟨rfl, Below.refl _ _⟩
def PD.flush (d : PD) : PD := { d with cs := [], fl := d.fl + 1 }
theorem burnt_lf {d : PD} (hb : d.burnt = false) : d.fu = true → 1 ≤ d.lf := fun h => by
  unfold PD.burnt at hb
  rw [h] at hb
  have : d.lf ≠ 0 := by simpa using hb
  omega
set_option maxHeartbeats 1000000 in
theorem flush_on {D : Nat} {d : PD} {T : Nat → Prop} (w : World) (h : DiskIs D d T w) (hb : d.burnt = false) (hf : d.fl < 1000000) :
    Calls Try.prog 57 #[.pointer (some ⟨D, 0, none⟩)] w fun e w' => e = .returned (.int .i64 0) ∧ DiskIs D d.flush.burn T w' ∧ Only T w w' := by
  obtain ⟨M, ao, cap, hA⟩ := h
  have HA := hidm hA
  have G := hidm (given_yes D w hA.c0)
  have B := hidm (burnt_any D d.fu d.lf w hA.c6 hA.c7)
  have c3 := hA.c3
  have c5 := hA.c5
  have z3 := hA.z 3
  have z5 := hA.z 5
  have HBN := hidm (burnt_lf hb)
  have f4 : wrap64 ((d.fl : Int) + 1) = ((d.fl + 1 : Nat) : Int) := by unfold wrap64; omega
  obtain ⟨o1, o2, o3, o4, o5, o6⟩ := hA.ok
  clear hA
  go_enter Try.func57, Try.ntmps57
  go_wp2_with fail
  refine G.out.mono ?_
  rintro e w1 ⟨rfl, rfl⟩
  go_wp2_with fail
  refine B.out.mono ?_
  rintro e w1 ⟨rfl, rfl⟩
  rw [show (d.fu && d.lf == 0) = false from hb]
  go_wp2_with fail
  refine (burn_any (D := D) (d := d.flush) (T := T) _ ?b1 HBN.out).mono ?_
  case b1 => exact ⟨M, _, 0, HA.out.emptied.put 5 (.int .i64 ((d.fl + 1 : Nat) : Int)) d.flush rfl rfl rfl ⟨o1, fun x hx => (nomatch hx), Nat.zero_le _, o4, by show d.fl + 1 ≤ _; omega, o6⟩⟩
  rintro e w10 ⟨rfl, hd10, ho10⟩
  have HD10 := hidm hd10
  have HO10 := hidm ho10
  clear hd10 ho10
  go_wp2_with fail
  go_ret
  exact ⟨rfl, HD10.out, (((Only.refl _ _).set (.inl HA.out.tD) _).set (.inl HA.out.tD) _).trans HO10.out (fun q hq => .inl hq)⟩
/-! ### The cache, write by write -/
theorem flatW_at : ∀ (l : List Wt), (∀ x ∈ l, x.ok) → ∀ (i : Nat) (h : i < l.length) (j : Nat), j < 257 → (flatW l)[i * 257 + j]? = (l[i]).cells[j]?
  | [], _, i, h, _, _ => absurd h (by simp)
  | x :: l, ho, 0, _, j, hj => by
    have hx := Wt.cells_len (ho x (List.mem_cons_self ..))
    show (x.cells ++ flatW l)[0 * 257 + j]? = x.cells[j]?
    rw [Nat.zero_mul, Nat.zero_add, List.getElem?_append_left (by omega)]
  | x :: l, ho, i + 1, h, j, hj => by
    have hx := Wt.cells_len (ho x (List.mem_cons_self ..))
    show (x.cells ++ flatW l)[(i + 1) * 257 + j]? = _
    rw [List.getElem?_append_right (by omega), hx, show (i + 1) * 257 + j - 257 = i * 257 + j by omega, flatW_at l (fun y hy => ho y (List.mem_cons_of_mem _ hy)) i (by simpa using h) j hj]
    rfl
theorem DiskAt.at {D : Nat} {d : PD} {M : Nat} {ao : Option Addr} {cap : Nat} {T : Nat → Prop} {w : World} (h : DiskAt D d M ao cap T w) (hne : d.cs ≠ []) :
    ∃ g, ao = some ⟨g, 0, none⟩ ∧ T g ∧ g < w.heap.size ∧ d.cs.length ≤ cap ∧ cap ≤ 9223372036854775807 ∧ ∀ i (hi : i < d.cs.length), w.rangeAt g (i * 257) (d.cs[i]).val.toList := by
  rcases h.own.2 with ⟨_, h0⟩ | ⟨g, c, cur, hv, _, hh, hnc, hcm, hsz, htk⟩
  · exact absurd (List.eq_nil_of_length_eq_zero h0) hne
  · simp only [Value.slice.injEq, true_and] at hv
    obtain ⟨rfl, rfl⟩ := hv
    refine ⟨g, rfl, h.tC _ rfl, lt_of_block hh, hnc, by unfold maxLen at hcm; omega, fun i hi j v hj => ?_⟩
    have hok := h.ok.2.1
    have hxo : (d.cs[i]).cells.length = 257 := Wt.cells_len (hok _ (List.getElem_mem hi))
    have hv2 : (d.cs[i]).cells[j]? = some v := hj
    have hj2 : j < 257 := by
      have := (List.getElem?_eq_some_iff.1 hv2).1
      omega
    rw [cell_of_row _ _ _ _ _ (0, 0) hh]
    have h1 := flatW_at d.cs hok i hi j hj2
    rw [← htk, List.getElem?_take_of_lt (by have : i * 257 + 257 ≤ d.cs.length * 257 := by { have := Nat.mul_le_mul_right 257 (show i + 1 ≤ d.cs.length from hi); omega }; omega)] at h1
    rw [hv2] at h1
    simpa using h1
end Dsk
end Go.Proofs.Ytpamffheapnoaaa
