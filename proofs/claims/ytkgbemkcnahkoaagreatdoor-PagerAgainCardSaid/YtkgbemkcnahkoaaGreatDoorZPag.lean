/- A disk that is copied; a pager over one disk while another disk is used; an Open beneath a fuse; a pair of bytes as an argument. Conditions: as each says. -/
import Derived.Test.YtkgbemkcnahkoaaGreatDoorZPcp
import Derived.Test.YtkgbemkcnahkoaaGreatDoorZPs
namespace Go.Proofs.YtkgbemkcnahkoaaGreatDoor
open Go.RowKit
namespace Pgr
open Wal (Pair PL R)
open Dsk (PD Mine KeepQ Only below_keeps cell_later sec vals pad zeros upd IntsAt ints BoolsAt)
open Crc (S S_of S_size)
section
variable {W B : World} {Q T : Nat → Prop} {P L D n N K : Nat} {u : Bool} {ch : Ch} {V : Nat → List UInt8} {d : PD} {w w' : World}
theorem m_copy (h : Mine W Q D d w) : Calls Tryz.prog 37 #[.pointer (some ⟨D, 0, none⟩)] w fun e w' => e = .returned (.pointer (some ⟨w.heap.size, 0, none⟩)) ∧ Mine w (fun _ => False) w.heap.size d w' ∧ Below w.heap.size w w' := by
  obtain ⟨⟨T, hT, hq⟩, hB, hl⟩ := h
  exact (Dsk.copy_any w hT).mono fun e w' ⟨he, hd, hb⟩ => ⟨he, ⟨⟨_, hd, fun k hk => ⟨hk.1, fun e => e⟩⟩, hb, fun k hk => hk.elim⟩, hb⟩
theorem Re.copy (h : Re W Q D n N K V w) : Calls Tryz.prog 37 #[.pointer (some ⟨D, 0, none⟩)] w fun e w' => e = .returned (.pointer (some ⟨w.heap.size, 0, none⟩)) ∧ Re w (fun _ => False) w.heap.size n N K V w' ∧ Below w.heap.size w w' := by
  obtain ⟨d, hm, r⟩ := h.ex
  exact (m_copy hm).mono fun e w' ⟨he, hd, hb⟩ => ⟨he, ⟨d, hd, r⟩, hb⟩
theorem Re.guard (h : Re W Q D n N K V w) (hb : Below w.heap.size w w') : Re W (fun k => Q k ∨ (w.heap.size ≤ k ∧ k < w'.heap.size)) D n N K V w' := by
  obtain ⟨d, hm, r⟩ := h.ex
  exact ⟨d, hm.guard hb, r⟩
theorem Re.bel (h : Re W Q D n N K V w) : Below W.heap.size W w := by
  obtain ⟨d, hm, r⟩ := h.ex
  exact hm.bel
theorem Re.less {Q' : Nat → Prop} (h : Re W Q D n N K V w) (hQ : ∀ k, Q' k → Q k) : Re W Q' D n N K V w := by
  obtain ⟨d, hm, r⟩ := h.ex
  exact ⟨d, hm.less2 hQ, r⟩
theorem H2.bel {V' : Nat → List UInt8} (h : H2 W Q D n N K V V' w) : Below W.heap.size W w := by
  obtain ⟨d, hm, _⟩ := h.ex
  exact hm.bel
theorem Ho.bel (h : Ho W Q D n N K V w) : Below W.heap.size W w := by
  obtain ⟨d, hm, _⟩ := h.ex
  exact hm.bel
theorem Ho.qlt (h : Ho W Q D n N K V w) : ∀ k, Q k → k < w.heap.size := by
  obtain ⟨d, hm, _⟩ := h.ex
  exact hm.qlt
theorem Lv.kw (h : Lv W Q P L D n N K u ch V w) : W.heap.size < w.heap.size := by
  obtain ⟨d, t, b, ⟨⟨M, hl, _, h1, _⟩, _⟩, _⟩ := h.ex
  have := hl.qlt P (.inr (.inl rfl))
  omega
/-- A pager whose blocks have come since B lives where nothing of these has changed. -/
theorem Lv.move (h : Lv B (fun _ => False) P L D n N K u ch V w) (ho : Only T w w') (hT : ∀ k, T k → k < B.heap.size) (hB : Below W.heap.size W w') (hW : W.heap.size ≤ B.heap.size) : Lv W (fun _ => False) P L D n N K u ch V w' := by
  obtain ⟨d, t, b, ⟨⟨M, ⟨⟨U, sl, ⟨⟨T0, hT0, hq⟩, _, hql⟩, hlog, hu⟩⟩, hp, h1, h2⟩, hfit⟩, r⟩ := h.ex
  have kp : ∀ k, k < w.heap.size → B.heap.size ≤ k → w'.heap[k]? = w.heap[k]? := fun k hk hb => ho.block k hk (fun e => by have := hT k e; omega)
  refine ⟨d, t, b, ⟨⟨M, ⟨⟨U, sl, ⟨⟨T0, hT0.keep ho (fun k hk e => ?_), fun k hk => ⟨Nat.le_trans hW (hq k hk).1, (hq k hk).2⟩⟩, hB, fun k hk => Nat.lt_of_lt_of_le (hql k hk) ho.size⟩, hlog.keep (fun k hk => ?_), fun k hk => ⟨Nat.le_trans hW (hu k hk).1, (hu k hk).2⟩⟩⟩, hp.keep ?_ ?_, ⟨Nat.le_trans hW h1.1, h1.2⟩, ⟨Nat.le_trans hW h2.1, h2.2⟩⟩, hfit⟩, r⟩
  · have a := (hq k hk).1
    have b := hT k e
    omega
  · exact kp k (hql k (.inr hk)) (hu k hk).1
  · exact kp P (hql P (.inl (.inr (.inl rfl)))) h1.1
  · exact kp M (hql M (.inl (.inr (.inr rfl)))) h2.1
theorem only_of (hk : KeepQ Q w w') (hQ : ∀ k, B.heap.size ≤ k → k < w.heap.size → Q k) (h1 : Below W.heap.size W w) (h2 : Below W.heap.size W w') (hs : w.heap.size ≤ w'.heap.size) : Only (fun k => k < B.heap.size) w w' :=
  ⟨h2.os.trans h1.os.symm, h2.tape.trans h1.tape.symm, h2.output.trans h1.output.symm, hs, fun k hlt hn => hk k (hQ k (by omega) hlt)⟩
/-- An Open that a fuse may cut off. -/
theorem open_fused (hm : Mine W Q D d w) (hdn : d.n = 2 + n + N) (hrs : Rs n N K d.f V) (hcs : d.cs = []) (hw : d.wr ≤ K) (hf : d.fl ≤ K) (hn : 2 ≤ n ∧ n ≤ 998) (hN : 1 ≤ N ∧ N ≤ 1024) (hK : K ≤ 600000) (lg : Nat) (hlg : lg = 2 + n) :
    Calls Tryz.prog 12 #[.pointer (some ⟨D, 0, none⟩), .int .i64 (lg : Int)] w fun e w' => ∃ p c : Value, e = .returned (.tuple #[p, c]) ∧ Ho W Q D n N (K + 2000) V w' ∧ KeepQ Q w w' := by
  obtain ⟨t, b, A, oc, hcn, hbt, htK, hA⟩ := hrs.oc
  have hA' : (oc = none ∧ A = []) ∨ ∃ t0 ch, oc = some ch ∧ A = [(t0, record ch)] ∧ Ok N ch := by
    rcases hA with ⟨h1, h2, _⟩ | ⟨t0, ch, h1, h2, h3, _⟩
    · exact .inl ⟨h1, h2⟩
    · exact .inr ⟨t0, ch, h1, h2, h3⟩
  have hlen := openS_len (N := N) n t b oc (fun ch hch => by
    rcases hA' with ⟨h1, _⟩ | ⟨t0, c2, h1, _, h3⟩
    · rw [h1] at hch; cases hch
    · rw [h1] at hch; cases hch; exact h3)
  refine (popen_in hm hcn oc hA' hdn hn hN (by omega) (by rw [hcs]; exact Nat.zero_le _) (by omega) (by omega) lg hlg).mono fun e w' h1 => ?_
  obtain ⟨hcr, _⟩ := open_crash (T := K + 2000) hcn hcs hbt (by omega) (by omega) oc hA
  obtain ⟨f1, f2, f3, f4, f5⟩ := run_few (openS n t b oc) d
  rw [hcs, List.length_nil] at f2
  obtain ⟨p, q, hpq, hex, hall⟩ := run_prefix d (openS n t b oc)
  have key : ∀ ks, Rs n N (K + 2000) ((run d (openS n t b oc)).2.crash ks).f V := fun ks => by rw [hex]; exact hcr p q hpq ks
  rcases h1 with ⟨e1, P, L, e2, e3, e4⟩ | ⟨e1, e2, e3, e4⟩
  · exact ⟨_, _, e2, ⟨_, mine_of e3, e3.fit.symm, key, by omega, by omega, by omega⟩, e4⟩
  · exact ⟨_, _, e2, ⟨_, e3, f1.trans hdn, key, by omega, by omega, by omega⟩, e4⟩
end
end Pgr
namespace Dsk
open Go.ChangeShapes Go.WideShapes Go.ChangeAt Go.Deep
section
variable {H : Type} {enc : TypeId × Value → H} {W : World} {base : Nat} {sp : Nat → Bool} {held : Bool}
set_option maxRecDepth 100000 in
theorem okWide_array2 {e t : TypeId} {r : Reach} {b0 : Nat} {v : Value} (ht : Tryz.prog.underlying t = some (.array 2 e)) (h : Value.okWide Tryz.prog W r b0 t v) : ∃ cs, v = .agg cs ∧ cs.size = Tryz.prog.cellsOf t := by
  simp only [Value.okWide, ht] at h
  obtain ⟨cs, h1, h2, _⟩ := h
  exact ⟨cs, h1, h2⟩
set_option maxRecDepth 100000 in
/-- Two bytes as an argument. -/
theorem open_pair {v : Value} {d : DataW H} {p : List MemPlace} {r : Reach} {b0 : Nat} (hok : Value.okWide Tryz.prog W r b0 22 v) (h : DataW.Trod enc Tryz.prog W base sp held 22 v d p) :
    ∃ a b : Nat, v = .agg #[.int .u8 (a : Int), .int .u8 (b : Int)] ∧ a < 256 ∧ b < 256 := by
  obtain ⟨cs, rfl, hsz⟩ := okWide_array2 Tryz.underlying22 hok
  rw [show Tryz.prog.cellsOf 22 = 2 by kernel_rfl] at hsz
  obtain ⟨c0, c1, rfl⟩ : ∃ c0 c1, cs = #[c0, c1] := by
    obtain ⟨l⟩ := cs
    match l, hsz with
    | [c0, c1], _ => exact ⟨c0, c1, rfl⟩
  obtain ⟨fuel, hf⟩ := h
  obtain ⟨xs, m, _, _, _, hl, hi⟩ := DataW.trod_array Tryz.underlying22 hf
  have h0 := hi 0 (by omega)
  have h1 := hi 1 (by omega)
  rw [show Tryz.prog.cellsOf 5 = 1 by kernel_rfl] at h0 h1
  rw [List.getElem?_eq_getElem (by omega)] at h0 h1
  simp only [Value.cells, Nat.zero_mul, List.drop_zero, Nat.one_mul, List.drop_succ_cons, List.take_succ_cons, List.take_zero] at h0 h1
  obtain ⟨z, hz, _, wz⟩ := DataW.trod_int Tryz.underlying5 h0
  obtain ⟨y, hy, _, wy⟩ := DataW.trod_int Tryz.underlying5 h1
  simp only [List.cons.injEq, and_true] at hz hy
  subst hz
  subst hy
  have bz := bounds_u8 wz
  have byy := bounds_u8 wy
  obtain ⟨a, rfl⟩ := Int.eq_ofNat_of_zero_le bz.1
  obtain ⟨b, rfl⟩ := Int.eq_ofNat_of_zero_le byy.1
  exact ⟨a, b, rfl, by omega, by omega⟩
end
end Dsk
end Go.Proofs.YtkgbemkcnahkoaaGreatDoor
