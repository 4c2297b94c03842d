/- The program's calls, as the laws' walks ask for them; what the law's fixed calls come to. No condition beyond what each says. -/
import Derived.Test.YtoacombaddknfaaR7
import Derived.Test.YtoacombaddknfaaR10
import Derived.Test.YtoacombaddknfaaR11
import Derived.Test.YtoacombaddknfaaOs
namespace Go.Proofs.Ytoacombaddknfaa
open Go.RowKit
namespace Prd
open Spn (Sp hide At below_alloc Right rcut Has)
open Cod (V RowAt S)
theorem putC : PutC := fun _ _ _ h hr hs hl x0 hx hxl hxi => (put_any h hr hs hl x0 hx hxl hxi).mono fun _ _ h9 => h9
theorem dropC : DropC := fun _ _ _ h hr hs _ a b => (drop_any h hr hs a b).mono fun _ _ ⟨m, v, e, ho, hp, hb⟩ => ⟨m, v, e, ho.o.pieces, ho.r, hp, hb⟩
theorem sameC : SameC := fun _ _ _ _ _ h hr hs h' hr' hs' => same_any h hr hs h' hr' hs'
theorem rightC : RightC := fun _ _ _ h hr hs => right_any h hr hs
theorem diffC : DiffC := fun _ _ _ _ _ h hr hs h' hr' hs' => (diffp_any h hr hs h' hr' hs').mono fun _ _ h9 => h9
section
variable {ra rb : List V}
theorem kc1 : rcut (1, 9) (3, 5) = [(1, 3), (5, 9)] := by decide +kernel
theorem kc2 : rcut (1, 3) (3, 5) = [(1, 3)] := by decide +kernel
theorem kc3 : rcut (3, 5) (3, 5) = [] := by decide +kernel
theorem kc4 : rcut (5, 9) (3, 5) = [(5, 9)] := by decide +kernel
theorem kc5 : rcut (1, 3) (0, 4) = [] := by decide +kernel
theorem kc6 : rcut (3, 5) (0, 4) = [(4, 5)] := by decide +kernel
theorem kc7 : rcut (5, 9) (0, 4) = [(5, 9)] := by decide +kernel
theorem kok1 (ha : Good ra) : Ok Good [((1, 9), ra)] := ok_cons.2 ⟨⟨by show Right _; dsimp only; decide, ha⟩, by simp, ok_nil⟩
theorem kok3 {rc : List V} (ha : Good ra) (hb : Good rb) (hc : Good rc) : Ok Good [((1, 3), ra), ((3, 5), rb), ((5, 9), rc)] :=
  ok_cons.2 ⟨⟨by show Right _; dsimp only; decide, ha⟩, by simp, ok_cons.2 ⟨⟨by show Right _; dsimp only; decide, hb⟩, by simp, ok_cons.2 ⟨⟨by show Right _; dsimp only; decide, hc⟩, by simp, ok_nil⟩⟩⟩
theorem kput1 (ha : Good ra) : putP [] (1, 9) ra = [((1, 9), ra)] := by
  unfold putP
  rw [if_pos ⟨ok_nil, by decide, ha⟩]
  rfl
theorem kput2 (ha : Good ra) (hb : Good rb) : putP [((1, 9), ra)] (3, 5) rb = [((1, 3), ra), ((3, 5), rb), ((5, 9), ra)] := by
  unfold putP
  rw [if_pos ⟨kok1 ha, by decide, hb⟩]
  simp [away, kc1, lay]
theorem kput3 (ha : Good ra) (hb : Good rb) : putP [((1, 3), ra), ((3, 5), rb), ((5, 9), ra)] (3, 5) ra = [((1, 3), ra), ((3, 5), ra), ((5, 9), ra)] := by
  unfold putP
  rw [if_pos ⟨kok3 ha hb ha, by decide, ha⟩]
  simp [away, kc2, kc3, kc4, lay]
theorem kdrop (ha : Good ra) (hb : Good rb) : dropP [((1, 3), ra), ((3, 5), rb), ((5, 9), ra)] (0, 4) = [((4, 5), rb), ((5, 9), ra)] := by
  unfold dropP
  rw [if_pos ⟨kok3 ha hb ha, by decide⟩]
  simp [away, kc5, kc6, kc7]
theorem kat4 (ha : Good ra) (hb : Good rb) : atR [((1, 3), ra), ((3, 5), rb), ((5, 9), ra)] 4 = some rb := by
  unfold atR
  rw [if_pos (kok3 ha hb ha)]
  simp [atP, Has, Right]
theorem kat9 (ha : Good ra) (hb : Good rb) : atR [((1, 3), ra), ((3, 5), rb), ((5, 9), ra)] 9 = none := by
  unfold atR
  rw [if_pos (kok3 ha hb ha)]
  simp [atP, Has, Right]
theorem kgo1 (ha : Good ra) (hb : Good rb) : goesR [((1, 9), ra)] [((1, 3), ra), ((3, 5), rb), ((5, 9), ra)] = [((1, 9), ra)] := by
  unfold goesR
  rw [if_pos ⟨kok1 ha, kok3 ha hb ha⟩]
  simp [goes]
theorem kgo3 (ha : Good ra) (hb : Good rb) : goesR [((1, 3), ra), ((3, 5), rb), ((5, 9), ra)] [((1, 9), ra)] = [((1, 3), ra), ((3, 5), rb), ((5, 9), ra)] := by
  unfold goesR
  rw [if_pos ⟨kok3 ha hb ha, kok1 ha⟩]
  simp [goes]
theorem kco (ha : Good ra) : coalR [((1, 3), ra), ((3, 5), ra), ((5, 9), ra)] = [((1, 9), ra)] := by
  unfold coalR
  rw [if_pos (kok3 ha ha ha)]
  have h1 : fuse [] ((1, 3), ra) = [((1, 3), ra)] := rfl
  have h2 : fuse [((1, 3), ra)] ((3, 5), ra) = [((1, 5), ra)] := by have := fuse_snoc [] ((1, 3), ra) ((3, 5), ra); simpa using this
  have h3 : fuse [((1, 5), ra)] ((5, 9), ra) = [((1, 9), ra)] := by have := fuse_snoc [] ((1, 5), ra) ((5, 9), ra); simpa using this
  unfold coal
  simp only [List.foldl_cons, List.foldl_nil, h1, h2, h3]
theorem knot : ¬ Ok Good [(((0 : Int), (0 : Int)), ([] : List V))] := fun h => by
  have := (ok_cons.1 h).1.1
  unfold Right at this
  simp at this
end
theorem len_two {α : Type} {l : List α} (h : l.length = 2) : ∃ a b, l = [a, b] := by
  match l, h with
  | [a, b], _ => exact ⟨a, b, rfl⟩
theorem len_three {α : Type} {l : List α} (h : l.length = 3) : ∃ a b c, l = [a, b, c] := by
  match l, h with
  | [a, b, c], _ => exact ⟨a, b, c, rfl⟩
/-- The law's two rows. -/
def va : V := ⟨2, 1, 0, []⟩
def vb : V := ⟨2, 2, 0, []⟩
theorem va_good : Good [va] := by decide +kernel
theorem vb_good : Good [vb] := by decide +kernel
theorem row_one_at (w : World) (v : V) (T : TypeId) {k : Nat} (hk : k = w.heap.size) : RowAt [v] (.slice (some ⟨k, 0, none⟩) 1 1) (w.alloc (.cells #[.int .i64 v.k, .int .i64 v.n, .int .u64 v.b, .string (S v.s)] T)) := by
  subst hk
  refine ⟨_, 1, rfl, fun _ => ⟨w.heap.size, 0, rfl, by simp, fun j hj => ?_⟩⟩
  have : j < 4 := by simpa using hj
  match j, this with
  | 0, _ => go_keep; rfl
  | 1, _ => go_keep; rfl
  | 2, _ => go_keep; rfl
  | 3, _ => go_keep; rfl
theorem small_known {m : List Pm} (hl : m.length ≤ 1000) (h : ∀ p, p ∈ pcs m → p.2 = [va] ∨ p.2 = [vb]) : Small m := by
  have key : ∀ x, x ∈ m → x.r = [va] ∨ x.r = [vb] := fun x hx => h x.pc (List.mem_map.2 ⟨x, hx, rfl⟩)
  refine ⟨hl, fun x hx => ?_, fun x hx v hv => ?_⟩
  · rcases key x hx with e | e <;> rw [e] <;> simp
  · rcases key x hx with e | e <;> rw [e, List.mem_singleton] at hv <;> subst hv <;> exact ⟨by decide, by decide, by decide, by decide, by decide, by decide⟩
end Prd
end Go.Proofs.Ytoacombaddknfaa
