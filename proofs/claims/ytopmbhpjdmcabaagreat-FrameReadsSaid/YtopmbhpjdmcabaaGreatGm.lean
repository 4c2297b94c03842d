/- The law's fixed calls (layer 6): what must come of them. No condition. -/
import Derived.Test.YtopmbhpjdmcabaaGreatMj
import Derived.Test.YtopmbhpjdmcabaaGreatGk
import Derived.Test.YtopmbhpjdmcabaaGreatGl
import Derived.Test.YtopmbhpjdmcabaaGreatMan
namespace Go.Proofs.YtopmbhpjdmcabaaGreat
open Go.RowKit
namespace Frm
open Cod Sch
def kc1 : Ch := ⟨1, [116], [⟨1, 1, 0, []⟩], 0, 9, zT⟩
def kt0 : Tx := ⟨1, 5, []⟩
def kt1 : Tx := ⟨2, 6, [kc1]⟩
theorem kv_right : (⟨1, 1, 0, []⟩ : V).right = true := by
  unfold V.right Val.rightB Val.eqV
  simp [ByteArray.toList_eq]
theorem kv_bytes : (⟨1, 1, 0, []⟩ : V).bytes = [1, 1] := by unfold V.bytes; rw [if_pos kv_right]; rfl
theorem kv_wf : (⟨1, 1, 0, []⟩ : V).wf := ⟨by decide, by decide, by decide, by decide, by decide, by decide⟩
theorem kc_ok : chB kc1 = true := by
  unfold chB
  rw [if_pos (show kc1.op = 1 from rfl)]
  unfold rowCh rowOk
  have h1 : nameB kc1.tb = true := by decide
  have h2 : kc1.row.all V.right = true := by show ([(⟨1, 1, 0, []⟩ : V)]).all V.right = true; simp [kv_right]
  have h3 : spanOk kc1.a kc1.z = true := by decide
  have h4 : sameB kc1.df zT = true := by unfold sameB; simp [kc1]
  rw [h1, h2, h3, h4]
  decide
theorem kt0_ok : txB kt0 = true := by unfold txB headT; simp [kt0]
theorem kt1_ok : txB kt1 = true := by unfold txB headT; simp [kt1, kc_ok]
theorem kt0_wf : kt0.wf := fun c hc => by cases hc
theorem kc_wf : kc1.wf := ⟨fun v hv => by have h : v ∈ [(⟨1, 1, 0, []⟩ : V)] := hv; rw [List.mem_singleton] at h; rw [h]; exact kv_wf, by decide, by decide⟩
theorem kt1_wf : kt1.wf := fun c hc => by have h : c ∈ [kc1] := hc; rw [List.mem_singleton] at h; rw [h]; exact kc_wf
theorem kb0 : bodyT kt0 = [1, 5, 0] := by
  rw [body_form]
  show uB 1 ++ (uB 5 ++ (uB 0 ++ [])) = _
  rw [uB_lt (by omega), uB_lt (by omega), uB_lt (by omega)]; rfl
theorem kb1 : bodyT kt1 = [2, 6, 1, 1, 1, 116, 1, 1, 1, 0, 9] := by
  rw [body_form]
  have hr : rB [(⟨1, 1, 0, []⟩ : V)] = [1, 1, 1] := by
    unfold rB
    rw [if_pos (by simp [kv_right])]
    unfold rTo
    show uB 1 ++ ([(⟨1, 1, 0, []⟩ : V)].take 1).flatMap V.bytes = _
    rw [uB_lt (by omega)]
    simp [kv_bytes]
  have hc : chBy kc1 = [1, 1, 116, 1, 1, 1, 0, 9] := by
    rw [chBy_row (by decide)]
    show uB 1 ++ (tB [116] ++ (rB [(⟨1, 1, 0, []⟩ : V)] ++ (uB 0 ++ uB 9))) = _
    unfold tB
    show uB 1 ++ ((uB 1 ++ [116]) ++ (rB [(⟨1, 1, 0, []⟩ : V)] ++ (uB 0 ++ uB 9))) = _
    rw [hr, uB_lt (by omega), uB_lt (by omega), uB_lt (by omega)]; rfl
  show uB 2 ++ (uB 6 ++ (uB 1 ++ [kc1].flatMap chBy)) = _
  rw [uB_lt (by omega), uB_lt (by omega), uB_lt (by omega)]
  simp [hc]
theorem kr0 : bodyR kt0 = [1, 5, 0] := by unfold bodyR; rw [if_pos kt0_ok, kb0]; rfl
theorem kr1 : bodyR kt1 = [2, 6, 1, 1, 1, 116, 1, 1, 1, 0, 9] := by unfold bodyR; rw [if_pos kt1_ok, kb1]; rfl
theorem ke0 : encT kt0 = four4 3 ++ Crc.put [1, 5, 0] := by unfold encT; rw [kr0]; rfl
theorem ke1 : encT kt1 = four4 11 ++ Crc.put [2, 6, 1, 1, 1, 116, 1, 1, 1, 0, 9] := by unfold encT; rw [kr1]; rfl
theorem ke0_len : (encT kt0).length = 11 := by rw [ke0, List.length_append, Crc.put_len]; rfl
theorem ke1_len : (encT kt1).length = 19 := by rw [ke1, List.length_append, Crc.put_len]; rfl
theorem kspl : splitB (encT kt0 ++ encT kt1 ++ [0]) = ([[1, 5, 0], [2, 6, 1, 1, 1, 116, 1, 1, 1, 0, 9]], 30, 8) := by
  rw [ke0, ke1, List.append_assoc]
  rw [show four4 3 ++ Crc.put [1, 5, 0] = four4 ([1, 5, 0] : List UInt8).length ++ Crc.put [1, 5, 0] from rfl, split_frame (by decide)]
  rw [show four4 11 = four4 ([2, 6, 1, 1, 1, 116, 1, 1, 1, 0, 9] : List UInt8).length from rfl, split_frame (by decide)]
  have hn : nextB [0] = ([], 0, 8) := by unfold nextB; rfl
  rw [split_bad (by simp) (by rw [hn]; decide), hn]
  rfl
theorem knext : nextB [0, 0, 0, 1, 97, 0, 0, 0, 0] = ([], 0, 9) := by
  unfold nextB
  rw [if_neg (by decide), if_neg (by decide), if_neg (by decide), if_neg (by decide)]
theorem knone (q : Tx) (h1 : txB q = true) (_h2 : q.wf) (h3 : bodyT q = [1, 5, 1]) : False := by
  have hp := tx_parts h1
  rw [body_form] at h3
  have e1 := read_uB q.seq.toNat (uB q.tm.toNat ++ (uB q.chs.length ++ q.chs.flatMap chBy)) (by omega)
  rw [h3, show num 0 0 [1, 5, 1] = .ok (1, [5, 1]) from rfl] at e1
  simp only [Except.ok.injEq, Prod.mk.injEq] at e1
  have e2 := read_uB q.tm.toNat (uB q.chs.length ++ q.chs.flatMap chBy) (by omega)
  rw [← e1.2, show num 0 0 [5, 1] = .ok (5, [1]) from rfl] at e2
  simp only [Except.ok.injEq, Prod.mk.injEq] at e2
  have e3 := read_uB q.chs.length (q.chs.flatMap chBy) (by omega)
  rw [← e2.2, show num 0 0 [1] = .ok (1, []) from rfl] at e3
  simp only [Except.ok.injEq, Prod.mk.injEq] at e3
  match hq : q.chs, e3 with
  | [], e3 => simp at e3
  | c :: l, e3 =>
    have h := congrArg List.length e3.2
    have := uB_pos c.op.toNat
    simp only [List.flatMap_cons, List.length_append, List.length_nil] at h
    unfold chBy at h
    simp only [List.length_append] at h
    omega
theorem two_strs {gb off sc : Nat} {w : World} (h : StrsAt [[1, 5, 0], [2, 6, 1, 1, 1, 116, 1, 1, 1, 0, 9]] (.slice (some ⟨gb, off, none⟩) 2 sc) w) : w.cell? ⟨gb, off, none⟩ = some (.string ⟨#[1, 5, 0]⟩) ∧ w.cell? ⟨gb, off + 1, none⟩ = some (.string ⟨#[2, 6, 1, 1, 1, 116, 1, 1, 1, 0, 9]⟩) := by
  obtain ⟨ao, cap, h1, _, _, h2⟩ := h
  obtain ⟨b, o2, h3, _, h5⟩ := h2 (by simp)
  simp only [Value.slice.injEq] at h1
  rw [← h1.1] at h3
  simp only [Option.some.injEq, Addr.mk.injEq, and_true] at h3
  obtain ⟨rfl, rfl⟩ := h3
  exact ⟨h5 0 (by simp), h5 1 (by simp)⟩
theorem mone {x : M} {w : World} {b : Nat} (h : w.heap[b]? = some (.cells x.cells.toArray 32 (0, 0))) (hi : x.In w) : MsAt [x] (.slice (some ⟨b, 0, none⟩) 1 1) w := by
  refine ⟨⟨_, 1, rfl, Nat.le_refl _, by omega, fun _ => ⟨b, 0, rfl, lt_of_block h, fun j hj => ?_⟩⟩, fun y hy => by rw [List.mem_singleton] at hy; rw [hy]; exact hi⟩
  rw [cell_at h, Nat.zero_add]
  simp [mflat]
theorem rone {v : V} {w : World} {b : Nat} (h : w.heap[b]? = some (.cells v.cells.toArray 52 (0, 0))) : RowC [v] (.slice (some ⟨b, 0, none⟩) 1 1) w := by
  refine ⟨⟨_, 1, rfl, fun _ => ⟨b, 0, rfl, lt_of_block h, fun j hj => ?_⟩⟩, _, 1, rfl, Nat.le_refl _, by omega, fun e => by cases e⟩
  rw [cell_at h, Nat.zero_add]
  simp [flat]
theorem known_step {wb : World} {b : Nat} {w1 w' : World} (h : w1.cell? ⟨b, 0, none⟩ = some (.int .i64 1) ∧ w1.cell? ⟨b, 1, none⟩ = some (.int .i64 5) ∧ w1.cell? ⟨b, 2, none⟩ = some (.slice none 0 0) ∧ w1.cell? ⟨b + 3, 0, none⟩ = some (.int .i64 2) ∧ w1.cell? ⟨b + 3, 1, none⟩ = some (.int .i64 6) ∧ w1.cell? ⟨b + 3, 2, none⟩ = some (.slice (some ⟨b + 2, 0, none⟩) 1 1) ∧ Below wb.heap.size wb w1 ∧ wb.heap.size ≤ w1.heap.size) (hb : Below w1.heap.size w1 w') : w'.cell? ⟨b, 0, none⟩ = some (.int .i64 1) ∧ w'.cell? ⟨b, 1, none⟩ = some (.int .i64 5) ∧ w'.cell? ⟨b, 2, none⟩ = some (.slice none 0 0) ∧ w'.cell? ⟨b + 3, 0, none⟩ = some (.int .i64 2) ∧ w'.cell? ⟨b + 3, 1, none⟩ = some (.int .i64 6) ∧ w'.cell? ⟨b + 3, 2, none⟩ = some (.slice (some ⟨b + 2, 0, none⟩) 1 1) ∧ Below wb.heap.size wb w' ∧ wb.heap.size ≤ w'.heap.size := by
  obtain ⟨c0, c1, c2, c3, c4, c5, hB, hz⟩ := h
  exact ⟨cell_later hb c0, cell_later hb c1, cell_later hb c2, cell_later hb c3, cell_later hb c4, cell_later hb c5, hB.trans (hb.mono hz), Nat.le_trans hz hb.size⟩
set_option maxHeartbeats 2000000 in
set_option maxRecDepth 100000 in
theorem known_any (w : World) : Calls Tryz.prog 6 #[] w fun e w' => e = .returned (.bool true) ∧ Below w.heap.size w w' := by
  have hs1 : (w.alloc (.cells #[.int .i64 1, .int .i64 5, .slice none 0 0] 24)).heap.size = w.heap.size + 1 := by simp
  have hs2 : ((w.alloc (.cells #[.int .i64 1, .int .i64 5, .slice none 0 0] 24)).alloc (.cells #[.int .i64 1, .int .i64 1, .int .u64 0, .string ⟨#[]⟩] 52)).heap.size = w.heap.size + 2 := by simp
  have hs3 : (((w.alloc (.cells #[.int .i64 1, .int .i64 5, .slice none 0 0] 24)).alloc (.cells #[.int .i64 1, .int .i64 1, .int .u64 0, .string ⟨#[]⟩] 52)).alloc (.cells #[.int .i64 1, .string ⟨#[116]⟩, .slice (some ⟨w.heap.size + 1, 0, none⟩) 1 1, .int .i64 0, .int .i64 9, .string ⟨#[]⟩, .slice none 0 0, .int .i64 0] 32)).heap.size = w.heap.size + 3 := by simp
  have hb1 : Below w.heap.size w (w.alloc (.cells #[.int .i64 1, .int .i64 5, .slice none 0 0] 24)) := (Below.refl _ _).alloc (Nat.le_refl _) _
  have hb2 : Below (w.alloc (.cells #[.int .i64 1, .int .i64 5, .slice none 0 0] 24)).heap.size (w.alloc (.cells #[.int .i64 1, .int .i64 5, .slice none 0 0] 24)) ((w.alloc (.cells #[.int .i64 1, .int .i64 5, .slice none 0 0] 24)).alloc (.cells #[.int .i64 1, .int .i64 1, .int .u64 0, .string ⟨#[]⟩] 52)) := (Below.refl _ _).alloc (Nat.le_refl _) _
  have hb3 : Below ((w.alloc (.cells #[.int .i64 1, .int .i64 5, .slice none 0 0] 24)).alloc (.cells #[.int .i64 1, .int .i64 1, .int .u64 0, .string ⟨#[]⟩] 52)).heap.size ((w.alloc (.cells #[.int .i64 1, .int .i64 5, .slice none 0 0] 24)).alloc (.cells #[.int .i64 1, .int .i64 1, .int .u64 0, .string ⟨#[]⟩] 52)) (((w.alloc (.cells #[.int .i64 1, .int .i64 5, .slice none 0 0] 24)).alloc (.cells #[.int .i64 1, .int .i64 1, .int .u64 0, .string ⟨#[]⟩] 52)).alloc (.cells #[.int .i64 1, .string ⟨#[116]⟩, .slice (some ⟨w.heap.size + 1, 0, none⟩) 1 1, .int .i64 0, .int .i64 9, .string ⟨#[]⟩, .slice none 0 0, .int .i64 0] 32)) := (Below.refl _ _).alloc (Nat.le_refl _) _
  have hb4 : Below (((w.alloc (.cells #[.int .i64 1, .int .i64 5, .slice none 0 0] 24)).alloc (.cells #[.int .i64 1, .int .i64 1, .int .u64 0, .string ⟨#[]⟩] 52)).alloc (.cells #[.int .i64 1, .string ⟨#[116]⟩, .slice (some ⟨w.heap.size + 1, 0, none⟩) 1 1, .int .i64 0, .int .i64 9, .string ⟨#[]⟩, .slice none 0 0, .int .i64 0] 32)).heap.size (((w.alloc (.cells #[.int .i64 1, .int .i64 5, .slice none 0 0] 24)).alloc (.cells #[.int .i64 1, .int .i64 1, .int .u64 0, .string ⟨#[]⟩] 52)).alloc (.cells #[.int .i64 1, .string ⟨#[116]⟩, .slice (some ⟨w.heap.size + 1, 0, none⟩) 1 1, .int .i64 0, .int .i64 9, .string ⟨#[]⟩, .slice none 0 0, .int .i64 0] 32)) ((((w.alloc (.cells #[.int .i64 1, .int .i64 5, .slice none 0 0] 24)).alloc (.cells #[.int .i64 1, .int .i64 1, .int .u64 0, .string ⟨#[]⟩] 52)).alloc (.cells #[.int .i64 1, .string ⟨#[116]⟩, .slice (some ⟨w.heap.size + 1, 0, none⟩) 1 1, .int .i64 0, .int .i64 9, .string ⟨#[]⟩, .slice none 0 0, .int .i64 0] 32)).alloc (.cells #[.int .i64 2, .int .i64 6, .slice (some ⟨w.heap.size + 2, 0, none⟩) 1 1] 24)) := (Below.refl _ _).alloc (Nat.le_refl _) _
  have k0 := below_keeps hb4 (below_keeps hb3 (below_keeps hb2 (heap_alloc_new w (.cells #[.int .i64 1, .int .i64 5, .slice none 0 0] 24))))
  have kr := below_keeps hb4 (below_keeps hb3 (heap_alloc_new (w.alloc (.cells #[.int .i64 1, .int .i64 5, .slice none 0 0] 24)) (.cells #[.int .i64 1, .int .i64 1, .int .u64 0, .string ⟨#[]⟩] 52)))
  have kc := below_keeps hb4 (heap_alloc_new ((w.alloc (.cells #[.int .i64 1, .int .i64 5, .slice none 0 0] 24)).alloc (.cells #[.int .i64 1, .int .i64 1, .int .u64 0, .string ⟨#[]⟩] 52)) (.cells #[.int .i64 1, .string ⟨#[116]⟩, .slice (some ⟨w.heap.size + 1, 0, none⟩) 1 1, .int .i64 0, .int .i64 9, .string ⟨#[]⟩, .slice none 0 0, .int .i64 0] 32))
  have k1 := heap_alloc_new (((w.alloc (.cells #[.int .i64 1, .int .i64 5, .slice none 0 0] 24)).alloc (.cells #[.int .i64 1, .int .i64 1, .int .u64 0, .string ⟨#[]⟩] 52)).alloc (.cells #[.int .i64 1, .string ⟨#[116]⟩, .slice (some ⟨w.heap.size + 1, 0, none⟩) 1 1, .int .i64 0, .int .i64 9, .string ⟨#[]⟩, .slice none 0 0, .int .i64 0] 32)) (.cells #[.int .i64 2, .int .i64 6, .slice (some ⟨w.heap.size + 2, 0, none⟩) 1 1] 24)
  rw [hs1] at kr
  rw [hs2] at kc
  rw [hs3] at k1
  have HK0a := hidm k0
  have HKCa := hidm kc
  have HK1a := hidm k1
  have HUa := hidm (show (⟨2, 6, [(⟨⟨1, [116], [⟨1, 1, 0, []⟩], 0, 9, zT⟩, some ⟨w.heap.size + 1, 0, none⟩, 1, none, 0⟩ : M)], some ⟨w.heap.size + 2, 0, none⟩, 1⟩ : X).In ((((w.alloc (.cells #[.int .i64 1, .int .i64 5, .slice none 0 0] 24)).alloc (.cells #[.int .i64 1, .int .i64 1, .int .u64 0, .string ⟨#[]⟩] 52)).alloc (.cells #[.int .i64 1, .string ⟨#[116]⟩, .slice (some ⟨w.heap.size + 1, 0, none⟩) 1 1, .int .i64 0, .int .i64 9, .string ⟨#[]⟩, .slice none 0 0, .int .i64 0] 32)).alloc (.cells #[.int .i64 2, .int .i64 6, .slice (some ⟨w.heap.size + 2, 0, none⟩) 1 1] 24)) from mone (x := (⟨⟨1, [116], [⟨1, 1, 0, []⟩], 0, 9, zT⟩, some ⟨w.heap.size + 1, 0, none⟩, 1, none, 0⟩ : M)) kc ⟨rone (v := ⟨1, 1, 0, []⟩) kr, ColsAt.nil _⟩)
  have HBa := hidm (show Below w.heap.size w ((((w.alloc (.cells #[.int .i64 1, .int .i64 5, .slice none 0 0] 24)).alloc (.cells #[.int .i64 1, .int .i64 1, .int .u64 0, .string ⟨#[]⟩] 52)).alloc (.cells #[.int .i64 1, .string ⟨#[116]⟩, .slice (some ⟨w.heap.size + 1, 0, none⟩) 1 1, .int .i64 0, .int .i64 9, .string ⟨#[]⟩, .slice none 0 0, .int .i64 0] 32)).alloc (.cells #[.int .i64 2, .int .i64 6, .slice (some ⟨w.heap.size + 2, 0, none⟩) 1 1] 24)) from ((hb1.trans (hb2.mono (by simp))).trans (hb3.mono (by simp; omega))).trans (hb4.mono (by simp; omega)))
  obtain ⟨a0, a1, a2⟩ := three k0
  obtain ⟨c0, c1, c2⟩ := three k1
  have SS0 := hidm (show ((((w.alloc (.cells #[.int .i64 1, .int .i64 5, .slice none 0 0] 24)).alloc (.cells #[.int .i64 1, .int .i64 1, .int .u64 0, .string ⟨#[]⟩] 52)).alloc (.cells #[.int .i64 1, .string ⟨#[116]⟩, .slice (some ⟨w.heap.size + 1, 0, none⟩) 1 1, .int .i64 0, .int .i64 9, .string ⟨#[]⟩, .slice none 0 0, .int .i64 0] 32)).alloc (.cells #[.int .i64 2, .int .i64 6, .slice (some ⟨w.heap.size + 2, 0, none⟩) 1 1] 24)).cell? ⟨w.heap.size, 0, none⟩ = some (.int .i64 1) ∧ ((((w.alloc (.cells #[.int .i64 1, .int .i64 5, .slice none 0 0] 24)).alloc (.cells #[.int .i64 1, .int .i64 1, .int .u64 0, .string ⟨#[]⟩] 52)).alloc (.cells #[.int .i64 1, .string ⟨#[116]⟩, .slice (some ⟨w.heap.size + 1, 0, none⟩) 1 1, .int .i64 0, .int .i64 9, .string ⟨#[]⟩, .slice none 0 0, .int .i64 0] 32)).alloc (.cells #[.int .i64 2, .int .i64 6, .slice (some ⟨w.heap.size + 2, 0, none⟩) 1 1] 24)).cell? ⟨w.heap.size, 1, none⟩ = some (.int .i64 5) ∧ ((((w.alloc (.cells #[.int .i64 1, .int .i64 5, .slice none 0 0] 24)).alloc (.cells #[.int .i64 1, .int .i64 1, .int .u64 0, .string ⟨#[]⟩] 52)).alloc (.cells #[.int .i64 1, .string ⟨#[116]⟩, .slice (some ⟨w.heap.size + 1, 0, none⟩) 1 1, .int .i64 0, .int .i64 9, .string ⟨#[]⟩, .slice none 0 0, .int .i64 0] 32)).alloc (.cells #[.int .i64 2, .int .i64 6, .slice (some ⟨w.heap.size + 2, 0, none⟩) 1 1] 24)).cell? ⟨w.heap.size, 2, none⟩ = some (.slice none 0 0) ∧ ((((w.alloc (.cells #[.int .i64 1, .int .i64 5, .slice none 0 0] 24)).alloc (.cells #[.int .i64 1, .int .i64 1, .int .u64 0, .string ⟨#[]⟩] 52)).alloc (.cells #[.int .i64 1, .string ⟨#[116]⟩, .slice (some ⟨w.heap.size + 1, 0, none⟩) 1 1, .int .i64 0, .int .i64 9, .string ⟨#[]⟩, .slice none 0 0, .int .i64 0] 32)).alloc (.cells #[.int .i64 2, .int .i64 6, .slice (some ⟨w.heap.size + 2, 0, none⟩) 1 1] 24)).cell? ⟨w.heap.size + 3, 0, none⟩ = some (.int .i64 2) ∧ ((((w.alloc (.cells #[.int .i64 1, .int .i64 5, .slice none 0 0] 24)).alloc (.cells #[.int .i64 1, .int .i64 1, .int .u64 0, .string ⟨#[]⟩] 52)).alloc (.cells #[.int .i64 1, .string ⟨#[116]⟩, .slice (some ⟨w.heap.size + 1, 0, none⟩) 1 1, .int .i64 0, .int .i64 9, .string ⟨#[]⟩, .slice none 0 0, .int .i64 0] 32)).alloc (.cells #[.int .i64 2, .int .i64 6, .slice (some ⟨w.heap.size + 2, 0, none⟩) 1 1] 24)).cell? ⟨w.heap.size + 3, 1, none⟩ = some (.int .i64 6) ∧ ((((w.alloc (.cells #[.int .i64 1, .int .i64 5, .slice none 0 0] 24)).alloc (.cells #[.int .i64 1, .int .i64 1, .int .u64 0, .string ⟨#[]⟩] 52)).alloc (.cells #[.int .i64 1, .string ⟨#[116]⟩, .slice (some ⟨w.heap.size + 1, 0, none⟩) 1 1, .int .i64 0, .int .i64 9, .string ⟨#[]⟩, .slice none 0 0, .int .i64 0] 32)).alloc (.cells #[.int .i64 2, .int .i64 6, .slice (some ⟨w.heap.size + 2, 0, none⟩) 1 1] 24)).cell? ⟨w.heap.size + 3, 2, none⟩ = some (.slice (some ⟨w.heap.size + 2, 0, none⟩) 1 1) ∧ Below ((((w.alloc (.cells #[.int .i64 1, .int .i64 5, .slice none 0 0] 24)).alloc (.cells #[.int .i64 1, .int .i64 1, .int .u64 0, .string ⟨#[]⟩] 52)).alloc (.cells #[.int .i64 1, .string ⟨#[116]⟩, .slice (some ⟨w.heap.size + 1, 0, none⟩) 1 1, .int .i64 0, .int .i64 9, .string ⟨#[]⟩, .slice none 0 0, .int .i64 0] 32)).alloc (.cells #[.int .i64 2, .int .i64 6, .slice (some ⟨w.heap.size + 2, 0, none⟩) 1 1] 24)).heap.size ((((w.alloc (.cells #[.int .i64 1, .int .i64 5, .slice none 0 0] 24)).alloc (.cells #[.int .i64 1, .int .i64 1, .int .u64 0, .string ⟨#[]⟩] 52)).alloc (.cells #[.int .i64 1, .string ⟨#[116]⟩, .slice (some ⟨w.heap.size + 1, 0, none⟩) 1 1, .int .i64 0, .int .i64 9, .string ⟨#[]⟩, .slice none 0 0, .int .i64 0] 32)).alloc (.cells #[.int .i64 2, .int .i64 6, .slice (some ⟨w.heap.size + 2, 0, none⟩) 1 1] 24)) ((((w.alloc (.cells #[.int .i64 1, .int .i64 5, .slice none 0 0] 24)).alloc (.cells #[.int .i64 1, .int .i64 1, .int .u64 0, .string ⟨#[]⟩] 52)).alloc (.cells #[.int .i64 1, .string ⟨#[116]⟩, .slice (some ⟨w.heap.size + 1, 0, none⟩) 1 1, .int .i64 0, .int .i64 9, .string ⟨#[]⟩, .slice none 0 0, .int .i64 0] 32)).alloc (.cells #[.int .i64 2, .int .i64 6, .slice (some ⟨w.heap.size + 2, 0, none⟩) 1 1] 24)) ∧ ((((w.alloc (.cells #[.int .i64 1, .int .i64 5, .slice none 0 0] 24)).alloc (.cells #[.int .i64 1, .int .i64 1, .int .u64 0, .string ⟨#[]⟩] 52)).alloc (.cells #[.int .i64 1, .string ⟨#[116]⟩, .slice (some ⟨w.heap.size + 1, 0, none⟩) 1 1, .int .i64 0, .int .i64 9, .string ⟨#[]⟩, .slice none 0 0, .int .i64 0] 32)).alloc (.cells #[.int .i64 2, .int .i64 6, .slice (some ⟨w.heap.size + 2, 0, none⟩) 1 1] 24)).heap.size ≤ ((((w.alloc (.cells #[.int .i64 1, .int .i64 5, .slice none 0 0] 24)).alloc (.cells #[.int .i64 1, .int .i64 1, .int .u64 0, .string ⟨#[]⟩] 52)).alloc (.cells #[.int .i64 1, .string ⟨#[116]⟩, .slice (some ⟨w.heap.size + 1, 0, none⟩) 1 1, .int .i64 0, .int .i64 9, .string ⟨#[]⟩, .slice none 0 0, .int .i64 0] 32)).alloc (.cells #[.int .i64 2, .int .i64 6, .slice (some ⟨w.heap.size + 2, 0, none⟩) 1 1] 24)).heap.size from ⟨a0, a1, a2, c0, c1, c2, Below.refl _ _, Nat.le_refl _⟩)
  obtain ⟨E0, hE0⟩ : ∃ l, l = encT kt0 := ⟨_, rfl⟩
  obtain ⟨E1, hE1⟩ : ∃ l, l = encT kt1 := ⟨_, rfl⟩
  have HE0 := hidm hE0
  have HE1 := hidm hE1
  have hl0 : E0.length = 11 := by rw [hE0]; exact ke0_len
  have hl1 : E1.length = 19 := by rw [hE1]; exact ke1_len
  have CE0 := hidm (show ∀ w : World, Calls Tryz.prog 13 #[.agg #[.int .i64 1, .int .i64 5, .slice none 0 0]] w fun e w' => e = .returned (.string (S E0)) ∧ Below w.heap.size w w' from fun w => by
    rw [hE0]; exact fenc_any (x := (⟨1, 5, [], none, 0⟩ : X)) (by decide) (fun c hc => by cases hc) (fun _ => kt0_wf) w (MsAt.nil w))
  have HLM := hidm (show ∀ c ∈ (⟨2, 6, [(⟨⟨1, [116], [⟨1, 1, 0, []⟩], 0, 9, zT⟩, some ⟨w.heap.size + 1, 0, none⟩, 1, none, 0⟩ : M)], some ⟨w.heap.size + 2, 0, none⟩, 1⟩ : X).l, ChLim c.c from fun c hc => by
    have h : c ∈ [(⟨⟨1, [116], [⟨1, 1, 0, []⟩], 0, 9, zT⟩, some ⟨w.heap.size + 1, 0, none⟩, 1, none, 0⟩ : M)] := hc
    rw [List.mem_singleton] at h
    rw [h]
    exact ⟨by simp, by simp [zT], (fun _ d hd => by cases hd), by simp [zT], by simp⟩)
  have CE1 := hidm (show ∀ w', (⟨2, 6, [(⟨⟨1, [116], [⟨1, 1, 0, []⟩], 0, 9, zT⟩, some ⟨w.heap.size + 1, 0, none⟩, 1, none, 0⟩ : M)], some ⟨w.heap.size + 2, 0, none⟩, 1⟩ : X).In w' → Calls Tryz.prog 13 #[.agg #[.int .i64 2, .int .i64 6, .slice (some ⟨w.heap.size + 2, 0, none⟩) 1 1]] w' fun e w'' => e = .returned (.string (S E1)) ∧ Below w'.heap.size w' w'' from fun w' h => by
    rw [hE1]; exact fenc_any (x := (⟨2, 6, [(⟨⟨1, [116], [⟨1, 1, 0, []⟩], 0, 9, zT⟩, some ⟨w.heap.size + 1, 0, none⟩, 1, none, 0⟩ : M)], some ⟨w.heap.size + 2, 0, none⟩, 1⟩ : X)) (by simp) HLM.out (fun _ => kt1_wf) w' h)
  clear hE0 hE1 hb1 hb2 hb3 hb4 k0 kr kc k1 a0 a1 a2 c0 c1 c2 hs1 hs2 hs3
  have hg1 : ¬ 9223372036854775807 < E0.length + E1.length := by omega
  go_enter Tryz.func6, Tryz.ntmps6
  go_wp2_with fail
  refine wp_region_held_drew (S := fun u => u.cell? ⟨w.heap.size, 0, none⟩ = some (.int .i64 1) ∧ u.cell? ⟨w.heap.size, 1, none⟩ = some (.int .i64 5) ∧ u.cell? ⟨w.heap.size, 2, none⟩ = some (.slice none 0 0) ∧ u.cell? ⟨w.heap.size + 3, 0, none⟩ = some (.int .i64 2) ∧ u.cell? ⟨w.heap.size + 3, 1, none⟩ = some (.int .i64 6) ∧ u.cell? ⟨w.heap.size + 3, 2, none⟩ = some (.slice (some ⟨w.heap.size + 2, 0, none⟩) 1 1) ∧ Below ((((w.alloc (.cells #[.int .i64 1, .int .i64 5, .slice none 0 0] 24)).alloc (.cells #[.int .i64 1, .int .i64 1, .int .u64 0, .string ⟨#[]⟩] 52)).alloc (.cells #[.int .i64 1, .string ⟨#[116]⟩, .slice (some ⟨w.heap.size + 1, 0, none⟩) 1 1, .int .i64 0, .int .i64 9, .string ⟨#[]⟩, .slice none 0 0, .int .i64 0] 32)).alloc (.cells #[.int .i64 2, .int .i64 6, .slice (some ⟨w.heap.size + 2, 0, none⟩) 1 1] 24)).heap.size ((((w.alloc (.cells #[.int .i64 1, .int .i64 5, .slice none 0 0] 24)).alloc (.cells #[.int .i64 1, .int .i64 1, .int .u64 0, .string ⟨#[]⟩] 52)).alloc (.cells #[.int .i64 1, .string ⟨#[116]⟩, .slice (some ⟨w.heap.size + 1, 0, none⟩) 1 1, .int .i64 0, .int .i64 9, .string ⟨#[]⟩, .slice none 0 0, .int .i64 0] 32)).alloc (.cells #[.int .i64 2, .int .i64 6, .slice (some ⟨w.heap.size + 2, 0, none⟩) 1 1] 24)) u ∧ ((((w.alloc (.cells #[.int .i64 1, .int .i64 5, .slice none 0 0] 24)).alloc (.cells #[.int .i64 1, .int .i64 1, .int .u64 0, .string ⟨#[]⟩] 52)).alloc (.cells #[.int .i64 1, .string ⟨#[116]⟩, .slice (some ⟨w.heap.size + 1, 0, none⟩) 1 1, .int .i64 0, .int .i64 9, .string ⟨#[]⟩, .slice none 0 0, .int .i64 0] 32)).alloc (.cells #[.int .i64 2, .int .i64 6, .slice (some ⟨w.heap.size + 2, 0, none⟩) 1 1] 24)).heap.size ≤ u.heap.size) (by kernel_rfl) ?_ (fun hHeld => ?_)
  · exact known_step SS0.out ((Below.refl _ _).drew)
  refine Man.take1 (i := 0) (v := ?_) rfl (by kernel_rfl) (by kernel_rfl) (by kernel_rfl) (fun _ _ _ h => h) (by rfl) ?_ (by assumption) ?_
  rotate_left
  · (intro u hSu; (try dsimp only at hSu); go_simp; (try with_reducible rfl))
  (try simp only [Act.put, List.setIfInBounds_toArray, List.set_cons_zero, List.set_cons_succ])
  refine Man.take1 (i := 2) (v := ?_) rfl (by kernel_rfl) (by kernel_rfl) (by kernel_rfl) (fun _ _ _ h => h) (by rfl) ?_ (by assumption) ?_
  rotate_left
  · (intro u hSu; (try dsimp only at hSu); go_simp; (try with_reducible rfl))
  (try simp only [Act.put, List.setIfInBounds_toArray, List.set_cons_zero, List.set_cons_succ])
  refine Man.one (i := 1) rfl (by kernel_rfl) (fun K hK => ?_)
  go_simp
  (go_at_call 13; (with_reducible refine (CE0.out _).mono ?_); rintro e w' ⟨rfl, hb⟩)
  refine hK.out _ _ ?_ (fun hNew => ?_)
  · exact known_step hHeld hb
  clear hHeld hK K hb
  have hHeld := hNew
  clear hNew
  (try simp only [Act.put, List.setIfInBounds_toArray, List.set_cons_zero, List.set_cons_succ])
  refine Man.one (i := 3) rfl (by kernel_rfl) (fun K hK => ?_)
  go_simp
  (go_at_call 13; (with_reducible refine (CE1.out _ (HUa.out.later hHeld.2.2.2.2.2.2.1)).mono ?_); rintro e w' ⟨rfl, hb⟩)
  refine hK.out _ _ ?_ (fun hNew => ?_)
  · exact known_step hHeld hb
  clear hHeld hK K hb
  have hHeld := hNew
  clear hNew
  (try simp only [Act.put, List.setIfInBounds_toArray, List.set_cons_zero, List.set_cons_succ])
  refine Man.take1 (i := 4) (v := ?_) rfl (by kernel_rfl) (by kernel_rfl) (by kernel_rfl) (fun _ _ _ h => h) (by rfl) ?_ (by assumption) ?_
  rotate_left
  · (intro u hSu; (try dsimp only at hSu); go_simp; (try with_reducible rfl))
  (try simp only [Act.put, List.setIfInBounds_toArray, List.set_cons_zero, List.set_cons_succ])
  refine Man.take1 (i := 5) (v := ?_) rfl (by kernel_rfl) (by kernel_rfl) (by kernel_rfl) (fun _ _ _ h => h) (by rfl) ?_ (by assumption) ?_
  rotate_left
  · (intro u hSu; (try dsimp only at hSu); go_simp; (try with_reducible rfl))
  (try simp only [Act.put, List.setIfInBounds_toArray, List.set_cons_zero, List.set_cons_succ])
  refine wpAnyH_done (by kernel_rfl) ?_ _
  obtain ⟨a0, a1, a2, c0, c1, c2, hqb, hqz⟩ := hHeld
  have hb := hqb
  have HK0b := hidm (below_keeps hb HK0a.out)
  have HKCb := hidm (below_keeps hb HKCa.out)
  have HK1b := hidm (below_keeps hb HK1a.out)
  have HUb := hidm (HUa.out.later hb)
  have HBb := hidm (HBa.out.trans (hb.mono HBa.out.size))
  clear hb hqb hqz SS0 HK0a HKCa HK1a HUa HBa CE1
  clear a0 a1 a2 c0 c1 c2
  obtain ⟨ST, hST⟩ : ∃ s, s = S E0 ++ S E1 := ⟨_, rfl⟩
  rw [← hST]
  have hsz : ST.size = 30 := by rw [hST, ByteArray.size_append, Crc.S_size, Crc.S_size, hl0, hl1]
  have hsl : ST.data.toList = E0 ++ E1 := by rw [hST]; simp
  have SP := hidm (show ∀ w : World, Calls Tryz.prog 19 #[.string (ST ++ ⟨#[0]⟩)] w fun e w' => ∃ ao cap, e = .returned (.tuple #[.slice ao 2 cap, .int .i64 30, .int .i64 8]) ∧ StrsAt [[1, 5, 0], [2, 6, 1, 1, 1, 116, 1, 1, 1, 0, 9]] (.slice ao 2 cap) w' ∧ Below w.heap.size w w' from fun w => by
    have h := split_any (ST ++ ⟨#[0]⟩) (by rw [ByteArray.size_append, hsz]; decide) w
    unfold SplitP at h
    rw [show (ST ++ ⟨#[0]⟩ : ByteArray).data.toList = encT kt0 ++ encT kt1 ++ [0] from by rw [← HE0.out, ← HE1.out, ← hsl]; simp, kspl] at h
    exact h)
  have CB0 := hidm (show ∀ w : World, Calls Tryz.prog 11 #[.agg #[.int .i64 1, .int .i64 5, .slice none 0 0]] w fun e w' => e = .returned (.string ⟨#[1, 5, 0]⟩) ∧ Below w.heap.size w w' from fun w => by
    have h := bodyr_any (x := (⟨1, 5, [], none, 0⟩ : X)) (by decide) (fun c hc => by cases hc) (fun _ => kt0_wf) w (MsAt.nil w)
    rw [show ((⟨1, 5, [], none, 0⟩ : X)).tx = kt0 from rfl, kr0] at h
    exact h)
  have NX := hidm (show ∀ w : World, Calls Tryz.prog 17 #[.string ⟨#[0, 0, 0, 1, 97, 0, 0, 0, 0]⟩] w fun e w' => e = .returned (.tuple #[.string ⟨#[]⟩, .int .i64 0, .int .i64 9]) ∧ Below w.heap.size w w' from fun w => by
    have h := next_any ⟨#[0, 0, 0, 1, 97, 0, 0, 0, 0]⟩ (by decide) w
    rw [show (⟨#[0, 0, 0, 1, 97, 0, 0, 0, 0]⟩ : ByteArray).data.toList = [0, 0, 0, 1, 97, 0, 0, 0, 0] from rfl, knext] at h
    exact h)
  have hg2 : ¬ 9223372036854775807 < ST.size + 1 := by omega
  clear hST hsl hg1 hl0 hl1 CE0 HE0 HE1
  go_wp2_with fail
  refine (SP.out _).mono ?_
  rintro e w5 ⟨ao, sc, rfl, hsp, hb⟩
  have HK0c := hidm (below_keeps hb HK0b.out)
  have HKCc := hidm (below_keeps hb HKCb.out)
  have HK1c := hidm (below_keeps hb HK1b.out)
  have HUc := hidm (HUb.out.later hb)
  have HBc := hidm (HBb.out.trans (hb.mono HBb.out.size))
  obtain ⟨ao', sc', hs1, _, _, hs2⟩ := id hsp
  obtain ⟨gb, off, hs3, _, _⟩ := hs2 (by simp)
  simp only [Value.slice.injEq] at hs1
  obtain ⟨rfl, _, _⟩ := hs1
  subst hs3
  have HLc := hidm hsp
  clear hb hsp hs2 SP hg2 HK0b HKCb HK1b HUb HBb
  go_wp2_with fail
  refine (tdec_any [1, 5, 0] (by decide) _).mono ?_
  rintro e w6 ⟨⟨xs, xt, xl, xo, xc⟩, xe, he, hxin, hb, hxn, hsm, hor⟩
  have hx : xe = 0 ∧ xs = 1 ∧ xt = 5 ∧ xl = [] := by
    rcases hor with ⟨h1, _, _, _, h5⟩ | ⟨_, _, h3⟩
    · have h6 := h5 kt0 kt0_ok kt0_wf kb0
      have h7 : (⟨xs, xt, xl.map M.c⟩ : Tx) = ⟨1, 5, []⟩ := h6
      simp only [Tx.mk.injEq, List.map_eq_nil_iff] at h7
      exact ⟨h1, h7.1, h7.2.1, h7.2.2⟩
    · exact (h3 kt0 kt0_ok kt0_wf kb0).elim
  obtain ⟨rfl, rfl, rfl, rfl⟩ := hx
  have he' : e = .returned (.tuple #[.agg #[.int .i64 1, .int .i64 5, .slice xo 0 xc], .int .i64 0]) := he
  subst he'
  have HK0d := hidm (below_keeps hb HK0c.out)
  have HKCd := hidm (below_keeps hb HKCc.out)
  have HK1d := hidm (below_keeps hb HK1c.out)
  have HUd := hidm (HUc.out.later hb)
  have HBd := hidm (HBc.out.trans (hb.mono HBc.out.size))
  have HLd := hidm (HLc.out.later hb)
  clear he hxin hb hxn hsm hor HK0c HKCc HK1c HUc HBc HLc
  have hb : Below w6.heap.size w6 (w6.alloc (.cells #[.int .i64 1, .int .i64 5, .slice xo 0 xc] 24)) := (Below.refl _ _).alloc (Nat.le_refl _) _
  have HK0e := hidm (below_keeps hb HK0d.out)
  have HKCe := hidm (below_keeps hb HKCd.out)
  have HK1e := hidm (below_keeps hb HK1d.out)
  have HUe := hidm (HUd.out.later hb)
  have HBe := hidm (HBd.out.trans (hb.mono HBd.out.size))
  have HLe := hidm (HLd.out.later hb)
  have HK7e := hidm (heap_alloc_new w6 (.cells #[.int .i64 1, .int .i64 5, .slice xo 0 xc] 24))
  clear hb HK0d HKCd HK1d HUd HBd HLd
  go_wp2_with fail
  refine (tdec_any [1, 5, 1] (by decide) _).mono ?_
  rintro e w7 ⟨⟨ys, yt, yl, yo, yc⟩, ye, he, hxin, hb, hxn, hsm, hor⟩
  have hx : ye = 7 ∧ ys = 0 ∧ yt = 0 ∧ yl = [] ∧ yo = none ∧ yc = 0 := by
    rcases hor with ⟨_, h2, h3, h4, _⟩ | ⟨h1, h2, _⟩
    · exact (knone _ h2 h3 h4).elim
    · simp only [X.mk.injEq] at h2
      exact ⟨h1, h2⟩
  obtain ⟨rfl, rfl, rfl, rfl, rfl, rfl⟩ := hx
  have he' : e = .returned (.tuple #[.agg #[.int .i64 0, .int .i64 0, .slice none 0 0], .int .i64 7]) := he
  subst he'
  have HK0f := hidm (below_keeps hb HK0e.out)
  have HKCf := hidm (below_keeps hb HKCe.out)
  have HK1f := hidm (below_keeps hb HK1e.out)
  have HUf := hidm (HUe.out.later hb)
  have HBf := hidm (HBe.out.trans (hb.mono HBe.out.size))
  have HLf := hidm (HLe.out.later hb)
  have HK7f := hidm (below_keeps hb HK7e.out)
  clear he hxin hb hxn hsm hor HK0e HKCe HK1e HUe HBe HLe HK7e
  have hb : Below w7.heap.size w7 (w7.alloc (.cells #[.int .i64 0, .int .i64 0, .slice none 0 0] 24)) := (Below.refl _ _).alloc (Nat.le_refl _) _
  have HK0g := hidm (below_keeps hb HK0f.out)
  have HKCg := hidm (below_keeps hb HKCf.out)
  have HK1g := hidm (below_keeps hb HK1f.out)
  have HUg := hidm (HUf.out.later hb)
  have HBg := hidm (HBf.out.trans (hb.mono HBf.out.size))
  have HLg := hidm (HLf.out.later hb)
  have HK7g := hidm (below_keeps hb HK7f.out)
  clear hb HK0f HKCf HK1f HUf HBf HLf HK7f
  go_wp2_with fail
  refine (NX.out _).mono ?_
  rintro e w8 ⟨rfl, hb⟩
  have HK0h := hidm (below_keeps hb HK0g.out)
  have HKCh := hidm (below_keeps hb HKCg.out)
  have HK1h := hidm (below_keeps hb HK1g.out)
  have HUh := hidm (HUg.out.later hb)
  have HBh := hidm (HBg.out.trans (hb.mono HBg.out.size))
  have HLh := hidm (HLg.out.later hb)
  have HK7h := hidm (below_keeps hb HK7g.out)
  clear hb HK0g HKCg HK1g HUg HBg HLg HK7g NX
  obtain ⟨a0, a1, a2⟩ := three HK0h.out
  obtain ⟨c0, c1, c2⟩ := three HK1h.out
  obtain ⟨d0, d1, d2⟩ := three HK7h.out
  obtain ⟨m0, m1, m2, m3, m4, m5, m6, m7⟩ := cells8 HKCh.out
  obtain ⟨l0, l1⟩ := two_strs HLh.out
  go_wp2_with fail
  refine (CB0.out _).mono ?_
  rintro e w9 ⟨rfl, hb⟩
  have HK0i := hidm (below_keeps hb HK0h.out)
  have HKCi := hidm (below_keeps hb HKCh.out)
  have HK1i := hidm (below_keeps hb HK1h.out)
  have HUi := hidm (HUh.out.later hb)
  have HBi := hidm (HBh.out.trans (hb.mono HBh.out.size))
  have HLi := hidm (HLh.out.later hb)
  have HK7i := hidm (below_keeps hb HK7h.out)
  clear hb a0 a1 a2 c0 c1 c2 d0 d1 d2 m0 m1 m2 m3 m4 m5 m6 m7 l0 l1 HK0h HKCh HK1h HUh HBh HLh HK7h
  obtain ⟨a0, a1, a2⟩ := three HK0i.out
  obtain ⟨c0, c1, c2⟩ := three HK1i.out
  obtain ⟨d0, d1, d2⟩ := three HK7i.out
  obtain ⟨m0, m1, m2, m3, m4, m5, m6, m7⟩ := cells8 HKCi.out
  obtain ⟨l0, l1⟩ := two_strs HLi.out
  go_wp2_with fail
  refine (same_nil _ _ _ _ _ _ _).mono ?_
  rintro e w10 ⟨rfl, hb⟩
  have HK0j := hidm (below_keeps hb HK0i.out)
  have HKCj := hidm (below_keeps hb HKCi.out)
  have HK1j := hidm (below_keeps hb HK1i.out)
  have HUj := hidm (HUi.out.later hb)
  have HBj := hidm (HBi.out.trans (hb.mono HBi.out.size))
  have HLj := hidm (HLi.out.later hb)
  have HK7j := hidm (below_keeps hb HK7i.out)
  clear hb a0 a1 a2 c0 c1 c2 d0 d1 d2 m0 m1 m2 m3 m4 m5 m6 m7 l0 l1 HK0i HKCi HK1i HUi HBi HLi HK7i
  obtain ⟨a0, a1, a2⟩ := three HK0j.out
  obtain ⟨c0, c1, c2⟩ := three HK1j.out
  obtain ⟨d0, d1, d2⟩ := three HK7j.out
  obtain ⟨m0, m1, m2, m3, m4, m5, m6, m7⟩ := cells8 HKCj.out
  obtain ⟨l0, l1⟩ := two_strs HLj.out
  go_wp2_with fail
  refine (txright_is (x := (⟨2, 6, [(⟨⟨1, [116], [⟨1, 1, 0, []⟩], 0, 9, zT⟩, some ⟨w.heap.size + 1, 0, none⟩, 1, none, 0⟩ : M)], some ⟨w.heap.size + 2, 0, none⟩, 1⟩ : X)) (b := true) kt1_ok (by simp) HLM.out _ HUj.out).mono ?_
  rintro e w11 ⟨rfl, hb⟩
  have HK0k := hidm (below_keeps hb HK0j.out)
  have HKCk := hidm (below_keeps hb HKCj.out)
  have HK1k := hidm (below_keeps hb HK1j.out)
  have HUk := hidm (HUj.out.later hb)
  have HBk := hidm (HBj.out.trans (hb.mono HBj.out.size))
  have HLk := hidm (HLj.out.later hb)
  have HK7k := hidm (below_keeps hb HK7j.out)
  clear hb a0 a1 a2 c0 c1 c2 d0 d1 d2 m0 m1 m2 m3 m4 m5 m6 m7 l0 l1 HK0j HKCj HK1j HUj HBj HLj HK7j
  obtain ⟨a0, a1, a2⟩ := three HK0k.out
  obtain ⟨c0, c1, c2⟩ := three HK1k.out
  obtain ⟨d0, d1, d2⟩ := three HK7k.out
  obtain ⟨m0, m1, m2, m3, m4, m5, m6, m7⟩ := cells8 HKCk.out
  obtain ⟨l0, l1⟩ := two_strs HLk.out
  go_wp2_with fail
  refine (txright_is (x := ⟨0, 0, [], none, 0⟩) (b := false) (by unfold txB headT; simp [X.tx]) (by simp) (fun c hc => by cases hc) _ (MsAt.nil _)).mono ?_
  rintro e w12 ⟨rfl, hb⟩
  have HK0l := hidm (below_keeps hb HK0k.out)
  have HKCl := hidm (below_keeps hb HKCk.out)
  have HK1l := hidm (below_keeps hb HK1k.out)
  have HUl := hidm (HUk.out.later hb)
  have HBl := hidm (HBk.out.trans (hb.mono HBk.out.size))
  have HLl := hidm (HLk.out.later hb)
  have HK7l := hidm (below_keeps hb HK7k.out)
  clear hb a0 a1 a2 c0 c1 c2 d0 d1 d2 m0 m1 m2 m3 m4 m5 m6 m7 l0 l1 HK0k HKCk HK1k HUk HBk HLk HK7k
  obtain ⟨a0, a1, a2⟩ := three HK0l.out
  obtain ⟨c0, c1, c2⟩ := three HK1l.out
  obtain ⟨d0, d1, d2⟩ := three HK7l.out
  obtain ⟨m0, m1, m2, m3, m4, m5, m6, m7⟩ := cells8 HKCl.out
  obtain ⟨l0, l1⟩ := two_strs HLl.out
  go_wp2_with fail
  refine (change_is (x := (⟨⟨1, [116], [⟨1, 1, 0, []⟩], 0, 9, zT⟩, some ⟨w.heap.size + 1, 0, none⟩, 1, none, 0⟩ : M)) (b := true) kc_ok (HLM.out _ (List.mem_singleton_self _)) _ (HUl.out.2 _ (List.mem_singleton_self _))).mono ?_
  rintro e w13 ⟨rfl, hb⟩
  have HK0m := hidm (below_keeps hb HK0l.out)
  have HKCm := hidm (below_keeps hb HKCl.out)
  have HK1m := hidm (below_keeps hb HK1l.out)
  have HUm := hidm (HUl.out.later hb)
  have HBm := hidm (HBl.out.trans (hb.mono HBl.out.size))
  have HLm := hidm (HLl.out.later hb)
  have HK7m := hidm (below_keeps hb HK7l.out)
  clear hb a0 a1 a2 c0 c1 c2 d0 d1 d2 m0 m1 m2 m3 m4 m5 m6 m7 l0 l1 HK0l HKCl HK1l HUl HBl HLl HK7l
  obtain ⟨a0, a1, a2⟩ := three HK0m.out
  obtain ⟨c0, c1, c2⟩ := three HK1m.out
  obtain ⟨d0, d1, d2⟩ := three HK7m.out
  obtain ⟨m0, m1, m2, m3, m4, m5, m6, m7⟩ := cells8 HKCm.out
  obtain ⟨l0, l1⟩ := two_strs HLm.out
  go_wp2_with fail
  refine (same_other _ _ _ _ _ _ (by decide) _).mono ?_
  rintro e w14 ⟨rfl, hb⟩
  have HBn := hidm (HBm.out.trans (hb.mono HBm.out.size))
  clear hb a0 a1 a2 c0 c1 c2 d0 d1 d2 m0 m1 m2 m3 m4 m5 m6 m7 l0 l1
  go_wp2_with fail
  go_ret
  exact ⟨rfl, HBn.out⟩
end Frm
end Go.Proofs.YtopmbhpjdmcabaaGreat
