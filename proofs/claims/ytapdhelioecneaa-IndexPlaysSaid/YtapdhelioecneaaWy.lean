/- The contract of the program's index. Condition: less than a thousand items. -/
import Derived.Test.YtapdhelioecneaaWxa
import Derived.Test.YtapdhelioecneaaWxb
import Derived.Test.YtapdhelioecneaaWxc
import Derived.Test.YtapdhelioecneaaWxd
import Derived.Test.YtapdhelioecneaaWxe
namespace Go.Proofs.Ytapdhelioecneaa
open Go.RowKit
attribute [local go_sem] Oper.semAt_some
namespace Idx
theorem pclose_any {R : Nat} {n : Int} {F : Nat → Prop} {L : List It} {w : World} (h : PX R n F L w) (hf : Fit 998 L) (k : List UInt8) (s e9 : Int) :
    Calls Try.prog 14 #[.pointer (some ⟨R, 0, none⟩), .string (S k), .int .i64 s, .int .i64 e9] w fun e w' => ChgX PX R n F (cloC L k s e9) (cloL L k s e9) w e w' := by
  obtain ⟨Bs, v, h1, h2, rfl, h4, h5⟩ := h
  obtain ⟨wn, rfl⟩ := Int.eq_ofNat_of_zero_le (show 0 ≤ n by have := h1.wd; omega)
  cases hat : isAt (its Bs) k s with
  | false => exact close_none h1 h2 h4 h5 hf.ok.up hf.n k s e9 hat
  | true =>
    cases hg : getI (its Bs) k s with
    | none =>
      unfold getI at hg
      rw [if_pos hat] at hg
      obtain ⟨hp1, _⟩ := isAt_yes hat
      rw [List.getElem?_eq_getElem hp1] at hg; cases hg
    | some x =>
      have key : ∀ y, getI (its Bs) k s = some y → y = x := fun y hy => by rw [hg] at hy; exact (Option.some.inj hy).symm
      by_cases he : x.e = 1099511627776
      · by_cases ha : e9 ≤ s
        · exact close_early h1 h2 h4 h5 hf.ok.up hf.n k s e9 hat (fun y hy _ => by rw [key y hy]; exact ⟨he, ha⟩)
        · by_cases hb : 1099511627776 ≤ e9
          · exact close_late h1 h2 h4 h5 hf.ok.up hf.n k s e9 hat (fun y hy _ => by rw [key y hy]; exact ⟨he, ha, hb⟩)
          · exact close_done h1 h2 h4 h5 hf.ok.up hf.n k s e9 hat (fun y hy _ => by rw [key y hy]; exact ⟨he, ha, hb⟩)
      · exact close_state h1 h2 h4 h5 hf.ok.up hf.n k s e9 hat (fun y hy _ => by rw [key y hy]; exact he)
/-- What the program's index keeps to. -/
theorem con_px : Con PX where
  keep := PX.keep
  fl := fun h => by obtain ⟨Bs, v, h1, h2, h3, h4, h5⟩ := h; exact h5
  new := new_yes
  no := new_no
  insert := fun h hf i hi => pinsert_any h hf i hi
  close := fun h hf k s e9 _ _ _ => pclose_any h hf k s e9
  delete := fun {R n F L w} h hf k s _ _ => by
    obtain ⟨Bs, v, h1, h2, rfl, h4, h5⟩ := h
    obtain ⟨wn, rfl⟩ := Int.eq_ofNat_of_zero_le (show 0 ≤ n by have := h1.wd; omega)
    exact del_any h1 h2 h4 h5 hf.ok.up hf.n k s
  get := fun {R n F L w} h hf k s _ _ => by
    obtain ⟨Bs, v, h1, h2, rfl, h4, h5⟩ := h
    obtain ⟨wn, rfl⟩ := Int.eq_ofNat_of_zero_le (show 0 ≤ n by have := h1.wd; omega)
    exact get_any h1 hf.ok.up hf.kb hf.n k s
  stab := fun {R n F L w} h hf lo hi t _ _ _ => by
    obtain ⟨Bs, v, h1, h2, rfl, h4, h5⟩ := h
    exact pstab_any h1 hf.ok hf.kb (Nat.le_trans hf.n (by omega)) lo hi t
  over := fun {R n F L w} h hf lo hi a b _ _ ha hb => by
    obtain ⟨Bs, v, h1, h2, rfl, h4, h5⟩ := h
    exact pover_any h1 hf.ok hf.kb (Nat.le_trans hf.n (by omega)) lo hi a b ha hb
  all := fun {R n F L w} h hf => by
    obtain ⟨Bs, v, h1, h2, rfl, h4, h5⟩ := h
    exact pall_any h1 hf.ok hf.kb (Nat.le_trans hf.n (by omega))
  len := fun {R n F L w} h hf => by
    obtain ⟨Bs, v, h1, h2, rfl, h4, h5⟩ := h
    exact len_any h1 (Nat.le_trans hf.n (by omega))
  max := fun {R n F L w} h hf => by
    obtain ⟨Bs, v, h1, h2, rfl, h4, h5⟩ := h
    exact max_any h1 (Nat.le_trans hf.n (by omega))
  blocks := fun {R n F L w} h hf => by
    obtain ⟨Bs, v, h1, h2, rfl, h4, h5⟩ := h
    obtain ⟨wn, rfl⟩ := Int.eq_ofNat_of_zero_le (show 0 ≤ n by have := h1.wd; omega)
    exact (blocks_any h1 (Nat.le_trans hf.n (by omega))).mono (fun e w' h9 => let ⟨u, e1, e2, e3⟩ := h9; ⟨u, _, e1, lens_ints e2, blk_of h2, e3⟩)
end Idx
end Go.Proofs.Ytapdhelioecneaa
