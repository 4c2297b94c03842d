/- The reader's value and row. Conditions: as each theorem says. -/
import Derived.Test.YtopmbhpjdmcabaaGreatQa
import Derived.Test.YtopmbhpjdmcabaaGreatValA
namespace Go.Proofs.YtopmbhpjdmcabaaGreat
open Go.RowKit
namespace Cod
/-- Block b is a value of these four fields. -/
def Vb (b : Nat) (k n x : Int) (t : ByteArray) (w : World) : Prop := w.heap[b]? = some (.cells #[.int .i64 k, .int .i64 n, .int .u64 x, .string t] 52 (0, 0))
section
variable {b : Nat} {k n x : Int} {t : ByteArray} {w w' : World}
theorem Vb.lt (h : Vb b k n x t w) : b < w.heap.size := lt_of_block h
theorem Vb.c0 (h : Vb b k n x t w) : w.cell? ⟨b, 0, none⟩ = some (.int .i64 k) := by unfold Vb at h; simp [World.cell?, h]
theorem Vb.c1 (h : Vb b k n x t w) : w.cell? ⟨b, 1, none⟩ = some (.int .i64 n) := by unfold Vb at h; simp [World.cell?, h]
theorem Vb.c2 (h : Vb b k n x t w) : w.cell? ⟨b, 2, none⟩ = some (.int .u64 x) := by unfold Vb at h; simp [World.cell?, h]
theorem Vb.c3 (h : Vb b k n x t w) : w.cell? ⟨b, 3, none⟩ = some (.string t) := by unfold Vb at h; simp [World.cell?, h]
theorem Vb.z (h : Vb b k n x t w) (j : Nat) : w.frozen? ⟨b, j, none⟩ = false := by unfold Vb at h; simp [World.frozen?, h]
theorem Vb.later (h : Vb b k n x t w) (hb : Below w.heap.size w w') : Vb b k n x t w' := below_keeps hb h
theorem Vb.past (h : Vb b k n x t w) (o : Obj) : Vb b k n x t (w.alloc o) := h.later ((Below.refl _ _).alloc (Nat.le_refl _) _)
theorem Vb.but {r : Nat} (h : Vb b k n x t w) (hn : b ≠ r) (hb : But r w w') : Vb b k n x t w' := hb.keeps hn h
theorem Vb.other (h : Vb b k n x t w) {a : Addr} (ha : b ≠ a.block) (u : Value) : Vb b k n x t (w.setCell a u) := by
  unfold Vb; rw [Below.heap_setCell _ _ _ _ ha]; exact h
theorem Vb.new (w : World) (k n x : Int) (t : ByteArray) : Vb w.heap.size k n x t (w.alloc (.cells #[.int .i64 k, .int .i64 n, .int .u64 x, .string t] 52)) := heap_alloc_new _ _
theorem vb_set (h : Vb b k n x t w) (j : Nat) (u : Value) : (w.setCell ⟨b, j, none⟩ u).heap[b]? = some (.cells (#[.int .i64 k, .int .i64 n, .int .u64 x, .string t].setIfInBounds j u) 52 (0, 0)) := by
  have hlt := lt_of_block h
  have h' : w.heap[b] = .cells #[.int .i64 k, .int .i64 n, .int .u64 x, .string t] 52 (0, 0) := by simpa [Vb, Array.getElem?_eq_getElem hlt] using h
  show (w.heap.modify b _)[b]? = _
  rw [Array.getElem?_eq_getElem (by simpa using hlt), Array.getElem_modify_self, h']
  rfl
theorem Vb.set0 (h : Vb b k n x t w) (u : Int) : Vb b u n x t (w.setCell ⟨b, 0, none⟩ (.int .i64 u)) := vb_set h 0 _
theorem Vb.set1 (h : Vb b k n x t w) (u : Int) : Vb b k u x t (w.setCell ⟨b, 1, none⟩ (.int .i64 u)) := vb_set h 1 _
theorem Vb.set2 (h : Vb b k n x t w) (u : Int) : Vb b k n u t (w.setCell ⟨b, 2, none⟩ (.int .u64 u)) := vb_set h 2 _
theorem Vb.set3 (h : Vb b k n x t w) (u : ByteArray) : Vb b k n x u (w.setCell ⟨b, 3, none⟩ (.string u)) := vb_set h 3 _
end
def put4 (w1 : World) (B : Nat) (x0 x1 x2 x3 : Value) : World := (((w1.setCell ⟨B, 0, none⟩ x0).setCell ⟨B, 1, none⟩ x1).setCell ⟨B, 2, none⟩ x2).setCell ⟨B, 3, none⟩ x3
theorem put4_vb {w1 : World} {B : Nat} {k n x : Int} {t : ByteArray} {k' n' x' : Int} {t' : ByteArray} (h : Vb B k' n' x' t' w1) : Vb B k n x t (put4 w1 B (.int .i64 k) (.int .i64 n) (.int .u64 x) (.string t)) :=
  (((h.set0 k).set1 n).set2 x).set3 t
theorem put4_rdr {w1 : World} {B r : Nat} {s : ByteArray} {q e : Int} {x0 x1 x2 x3 : Value} (h : Rdr r s q e w1) (hn : r ≠ B) : Rdr r s q e (put4 w1 B x0 x1 x2 x3) :=
  (((h.other (a := ⟨B, 0, none⟩) hn _).other (a := ⟨B, 1, none⟩) hn _).other (a := ⟨B, 2, none⟩) hn _).other (a := ⟨B, 3, none⟩) hn _
theorem put4_but {w w1 : World} {B r : Nat} {x0 x1 x2 x3 : Value} (h : But r w w1) (hn : w.heap.size ≤ B) : But r w (put4 w1 B x0 x1 x2 x3) :=
  (((h.setNew (p := ⟨B, 0, none⟩) hn _).setNew (p := ⟨B, 1, none⟩) hn _).setNew (p := ⟨B, 2, none⟩) hn _).setNew (p := ⟨B, 3, none⟩) hn _
theorem put4_below {B0 : Nat} {w w1 : World} (B : Nat) (x0 x1 x2 x3 : Value) (hB : B0 ≤ B) (h : Below B0 w w1) : Below B0 w (put4 w1 B x0 x1 x2 x3) :=
  (((h.setCell (p := ⟨B, 0, none⟩) hB _).setCell (p := ⟨B, 1, none⟩) hB _).setCell (p := ⟨B, 2, none⟩) hB _).setCell (p := ⟨B, 3, none⟩) hB _
/-- A value. -/
structure V where
  k : Int
  n : Int
  b : Nat
  s : List UInt8
def V.right (v : V) : Bool := Val.rightB v.k v.n v.b (S v.s)
def V.agg (v : V) : Value := .agg #[.int .i64 v.k, .int .i64 v.n, .int .u64 v.b, .string (S v.s)]
def VVal (v : V) (x : Value) (_ : World) : Prop := x = v.agg
def chk : Except Nat (V × List UInt8) → Except Nat (V × List UInt8)
  | .ok (v, t) => if v.right = true then .ok (v, t) else .error 7
  | .error x => .error x
def toV {α : Type} (f : α → V) : Except Nat (α × List UInt8) → Except Nat (V × List UInt8)
  | .ok (a, t) => .ok (f a, t)
  | .error x => .error x
def one : List UInt8 → Except Nat (UInt8 × List UInt8)
  | [] => .error 8
  | c :: t => .ok (c, t)
def body (k : Nat) (l : List UInt8) : Except Nat (V × List UInt8) :=
  if k = 1 then toV (fun c => ⟨1, (c.toNat : Int), 0, []⟩) (one l)
  else if k = 2 then toV (fun n => ⟨2, n, 0, []⟩) (sig l)
  else if k = 3 then toV (fun b => ⟨3, 0, b, []⟩) (oct 8 0 l)
  else if k = 4 ∨ k = 5 then toV (fun t => ⟨k, 0, 0, t⟩) (txt 4096 l)
  else .ok (⟨k, 0, 0, []⟩, l)
def valR : Except Nat (UInt8 × List UInt8) → Except Nat (V × List UInt8)
  | .ok (c, t) => chk (body c.toNat t)
  | .error x => .error x
def val (l : List UInt8) : Except Nat (V × List UInt8) := valR (one l)
theorem val_short (s : ByteArray) : val (s.data.toList.drop s.size) = .error 8 := by rw [drop_end]; rfl
theorem val_at (s : ByteArray) (p : Nat) (hp : p < s.size) (c : UInt8) (hc : s[p] = c) : val (s.data.toList.drop p) = chk (body c.toNat (s.data.toList.drop (p + 1))) := by rw [drop_at s p hp, hc]; rfl
set_option maxHeartbeats 4000000 in
set_option maxRecDepth 100000 in
theorem value_short (r : Nat) (s : ByteArray) (e : Int) (w : World) (h : Rdr r s s.size e w) :
    Calls Tryz.prog 136 #[.pointer (some ⟨r, 0, none⟩)] w fun en w' => Part r s e w VVal (val (s.data.toList.drop s.size)) en w' := by
  rw [val_short]
  have H0 := hidm (h.past (.cells #[.int .i64 0, .int .i64 0, .int .u64 0, .string ⟨#[]⟩] 52))
  have B0 := hidm ((But.refl r w).alloc (.cells #[.int .i64 0, .int .i64 0, .int .u64 0, .string ⟨#[]⟩] 52))
  go_enter Tryz.func136, Tryz.ntmps136
  go_wp2_with fail
  refine (octet_short r s e _ H0.out).mono ?_
  rintro en w1 ⟨rfl, hb1⟩
  have HR1 := hidm (H0.out.later hb1)
  have HB1 := hidm (B0.out.trans (.of hb1))
  clear hb1
  go_wp2_with fail
  exact ⟨rfl, _, rfl, HR1.out, HB1.out⟩
set_option maxHeartbeats 4000000 in
set_option maxRecDepth 100000 in
theorem value_bool (r : Nat) (s : ByteArray) (p : Nat) (e : Int) (w : World) (h : Rdr r s p e w) (hp : p < s.size) (hs : s.size ≤ 281474976710656) (c : UInt8) (hc : s[p] = c) (hk : c.toNat = 1) :
    Calls Tryz.prog 136 #[.pointer (some ⟨r, 0, none⟩)] w fun en w' => Part r s e w VVal (val (s.data.toList.drop p)) en w' := by
  rw [val_at s p hp c hc]
  have hrlt := h.lt
  have H0 := hidm (h.past (.cells #[.int .i64 0, .int .i64 0, .int .u64 0, .string ⟨#[]⟩] 52))
  have B0 := hidm ((But.refl r w).alloc (.cells #[.int .i64 0, .int .i64 0, .int .u64 0, .string ⟨#[]⟩] 52))
  have A0 := hidm (Vb.new w 0 0 0 ⟨#[]⟩)
  have hoct := octet_ok r s p e _ H0.out hp (by omega)
  rw [hc] at hoct
  rw [hk] at hoct ⊢
  clear hc h
  go_enter Tryz.func136, Tryz.ntmps136
  go_wp2_with fail
  refine hoct.mono ?_
  rintro en w1 ⟨rfl, hr1, hb1⟩
  have HR1 := hidm (hr1.past (.cells #[.int .i64 1, .int .i64 0, .int .u64 0, .string ⟨#[]⟩] 52))
  have HB1 := hidm ((B0.out.trans hb1).alloc (.cells #[.int .i64 1, .int .i64 0, .int .u64 0, .string ⟨#[]⟩] 52))
  have HA1 := hidm ((A0.out.but (by omega) hb1).past (.cells #[.int .i64 1, .int .i64 0, .int .u64 0, .string ⟨#[]⟩] 52))
  have hV1 := Vb.new w1 1 0 0 ⟨#[]⟩
  have sz1 : w.heap.size < w1.heap.size := by have := hb1.size; simp at this; omega
  have HV1 := hidm hV1
  clear hr1 hb1 hoct
  have kk0 := hV1.c0
  clear hV1
  rcases Nat.eq_or_lt_of_le (show p + 1 ≤ s.size from hp) with hpe | hpe
  · have HQ := hidm hpe
    have hsh := octet_short r s e _ (by rw [← hpe]; exact HR1.out)
    have HRR := hidm (show body 1 (s.data.toList.drop (p + 1)) = .error 8 by rw [hpe, drop_end]; rfl)
    clear hpe
    go_wp2_with fail
    refine hsh.mono ?_
    rintro en w2 ⟨rfl, hb2⟩
    have HR2 := hidm (HR1.out.later hb2)
    have HB2 := hidm (HB1.out.trans (.of hb2))
    clear hb2
    go_wp2_with fail
    refine ⟨rfl, ?_⟩
    rw [HRR.out]
    exact ⟨_, rfl, HR2.out, HB2.out⟩
  · obtain ⟨d, hd⟩ : ∃ d : UInt8, s[p + 1] = d := ⟨_, rfl⟩
    have hdl := d.toNat_lt
    have hoct2 := octet_ok r s (p + 1) e _ HR1.out hpe (by omega)
    rw [hd] at hoct2
    obtain ⟨tl, htl⟩ : ∃ tl, tl = s.data.toList.drop (p + 2) := ⟨_, rfl⟩
    have HRR := hidm (show body 1 (s.data.toList.drop (p + 1)) = .ok (⟨1, (d.toNat : Int), 0, []⟩, tl) by rw [drop_at s (p + 1) hpe, hd, htl]; rfl)
    have HE : Hid (s.size - tl.length = p + 1 + 1) := by refine hidm ?_; rw [htl]; exact back_at s (p + 2) hpe
    clear htl hd
    go_wp2_with fail
    refine hoct2.mono ?_
    rintro en w2 ⟨rfl, hr2, hbt⟩
    have HV2 := hidm (HV1.out.but (by omega) hbt)
    have HA2 := hidm (HA1.out.but (by omega) hbt)
    have HR2 := hidm hr2
    have HB2 := hidm (HB1.out.trans hbt)
    clear hr2 hbt
    have v0 := HV2.out.c1
    have vz := HV2.out.z
    have HRf := hidm (HR2.out.other (a := ⟨w1.heap.size, 1, none⟩) (show r ≠ w1.heap.size by omega) (.int .i64 (d.toNat : Int)))
    have HBf := hidm (HB2.out.setNew (p := ⟨w1.heap.size, 1, none⟩) (Nat.le_of_lt sz1) (.int .i64 (d.toNat : Int)))
    have HAf := hidm (HA2.out.other (a := ⟨w1.heap.size, 1, none⟩) (show w.heap.size ≠ w1.heap.size by omega) (.int .i64 (d.toNat : Int)))
    have HVf := hidm (HV2.out.set1 (d.toNat : Int))
    have q0 := HVf.out.c0
    have q1 := HVf.out.c1
    have q2 := HVf.out.c2
    have q3 := HVf.out.c3
    go_wp2_with fail
    refine (Val.right_any 1 (d.toNat : Int) 0 ⟨#[]⟩ _).mono ?_
    rintro en w3 ⟨rfl, hb3⟩
    have HV3 := hidm (HVf.out.later hb3)
    have HR3 := hidm (HRf.out.later hb3)
    have HB3 := hidm (HBf.out.trans (.of hb3))
    have HA3 := hidm (HAf.out.later hb3)
    clear hb3 q0 q1 q2 q3
    rcases hr : Val.rightB 1 (d.toNat : Int) 0 ⟨#[]⟩ with _ | _
    · have H4 := hidm (if_neg (by rw [show V.right ⟨1, (d.toNat : Int), 0, []⟩ = false from hr]; simp) : (if V.right ⟨1, (d.toNat : Int), 0, []⟩ = true then (.ok (⟨1, (d.toNat : Int), 0, []⟩, tl) : Except Nat (V × List UInt8)) else .error 7) = .error 7)
      go_wp2_with fail
      refine ⟨rfl, ?_⟩
      rw [HRR.out]
      simp only [chk]
      rw [H4.out]
      exact ⟨_, rfl, HR3.out, HB3.out⟩
    · have H4 := hidm (if_pos (show V.right ⟨1, (d.toNat : Int), 0, []⟩ = true from hr) : (if V.right ⟨1, (d.toNat : Int), 0, []⟩ = true then (.ok (⟨1, (d.toNat : Int), 0, []⟩, tl) : Except Nat (V × List UInt8)) else .error 7) = .ok (⟨1, (d.toNat : Int), 0, []⟩, tl))
      have q0 := HV3.out.c0
      have q1 := HV3.out.c1
      have q2 := HV3.out.c2
      have q3 := HV3.out.c3
      have a0 := HA3.out.c0
      have a1 := HA3.out.c1
      have a2 := HA3.out.c2
      have a3 := HA3.out.c3
      have az := HA3.out.z
      have HP := hidm (put4_vb (k := 1) (n := (d.toNat : Int)) (x := 0) (t := ⟨#[]⟩) HA3.out)
      go_wp2_with fail
      have p0 := HP.out.c0
      have p1 := HP.out.c1
      have p2 := HP.out.c2
      have p3 := HP.out.c3
      show bodyPost _ _ _ _ _ (put4 w3 w.heap.size (.int .i64 1) (.int .i64 (d.toNat : Int)) (.int .u64 0) (.string ⟨#[]⟩))
      refine bodyPost_ret (v := .agg #[.int .i64 1, .int .i64 (d.toNat : Int), .int .u64 0, .string ⟨#[]⟩]) (by simp [results, Tryz.results136, go_sem, p0, p1, p2, p3]) rfl ?_
      rw [HRR.out]
      simp only [chk]
      rw [H4.out]
      exact ⟨_, rfl, rfl, put4_rdr (by rw [HE.out]; exact HR3.out) (by omega), put4_but HB3.out (Nat.le_refl _)⟩
set_option maxHeartbeats 4000000 in
set_option maxRecDepth 100000 in
theorem value_int (r : Nat) (s : ByteArray) (p : Nat) (e : Int) (w : World) (h : Rdr r s p e w) (hp : p < s.size) (hs : s.size ≤ 281474976710656) (c : UInt8) (hc : s[p] = c) (hk : c.toNat = 2) :
    Calls Tryz.prog 136 #[.pointer (some ⟨r, 0, none⟩)] w fun en w' => Part r s e w VVal (val (s.data.toList.drop p)) en w' := by
  rw [val_at s p hp c hc]
  have hrlt := h.lt
  have H0 := hidm (h.past (.cells #[.int .i64 0, .int .i64 0, .int .u64 0, .string ⟨#[]⟩] 52))
  have B0 := hidm ((But.refl r w).alloc (.cells #[.int .i64 0, .int .i64 0, .int .u64 0, .string ⟨#[]⟩] 52))
  have A0 := hidm (Vb.new w 0 0 0 ⟨#[]⟩)
  have hoct := octet_ok r s p e _ H0.out hp (by omega)
  rw [hc] at hoct
  rw [hk] at hoct ⊢
  clear hc h
  go_enter Tryz.func136, Tryz.ntmps136
  go_wp2_with fail
  refine hoct.mono ?_
  rintro en w1 ⟨rfl, hr1, hb1⟩
  have HR1 := hidm (hr1.past (.cells #[.int .i64 2, .int .i64 0, .int .u64 0, .string ⟨#[]⟩] 52))
  have HB1 := hidm ((B0.out.trans hb1).alloc (.cells #[.int .i64 2, .int .i64 0, .int .u64 0, .string ⟨#[]⟩] 52))
  have HA1 := hidm ((A0.out.but (by omega) hb1).past (.cells #[.int .i64 2, .int .i64 0, .int .u64 0, .string ⟨#[]⟩] 52))
  have hV1 := Vb.new w1 2 0 0 ⟨#[]⟩
  have sz1 : w.heap.size < w1.heap.size := by have := hb1.size; simp at this; omega
  have HV1 := hidm hV1
  clear hr1 hb1 hoct
  have kk0 := hV1.c0
  clear hV1
  have hpart := signed_any r s (p + 1) e _ HR1.out hp hs
  obtain ⟨R, hR⟩ : ∃ R, R = sig (s.data.toList.drop (p + 1)) := ⟨_, rfl⟩
  rw [← hR] at hpart
  have hbody : body 2 (s.data.toList.drop (p + 1)) = toV (fun n => ⟨2, n, 0, []⟩) R := by rw [hR]; rfl
  have HBD := hidm hbody
  clear hbody hR
  cases R with
  | error y =>
    go_wp2_with fail
    refine hpart.mono ?_
    rintro en w2 ⟨q, rfl, hr2, hb2⟩
    have HR2 := hidm hr2
    have HB2 := hidm (HB1.out.trans hb2)
    clear hr2 hb2
    go_wp2_with fail
    refine ⟨rfl, ?_⟩
    rw [HBD.out]
    exact ⟨_, rfl, HR2.out, HB2.out⟩
  | ok at' =>
    obtain ⟨m, tl⟩ := at'
    have HRR := hidm (show body 2 (s.data.toList.drop (p + 1)) = .ok (⟨2, m, 0, []⟩, tl) from HBD.out)
    go_wp2_with fail
    refine hpart.mono ?_
    rintro en w2 ⟨_, rfl, rfl, hr2, hbt⟩
    have HV2 := hidm (HV1.out.but (by omega) hbt)
    have HA2 := hidm (HA1.out.but (by omega) hbt)
    have HR2 := hidm hr2
    have HB2 := hidm (HB1.out.trans hbt)
    clear hr2 hbt
    have v0 := HV2.out.c1
    have vz := HV2.out.z
    have HRf := hidm (HR2.out.other (a := ⟨w1.heap.size, 1, none⟩) (show r ≠ w1.heap.size by omega) (.int .i64 m))
    have HBf := hidm (HB2.out.setNew (p := ⟨w1.heap.size, 1, none⟩) (Nat.le_of_lt sz1) (.int .i64 m))
    have HAf := hidm (HA2.out.other (a := ⟨w1.heap.size, 1, none⟩) (show w.heap.size ≠ w1.heap.size by omega) (.int .i64 m))
    have HVf := hidm (HV2.out.set1 m)
    have q0 := HVf.out.c0
    have q1 := HVf.out.c1
    have q2 := HVf.out.c2
    have q3 := HVf.out.c3
    go_wp2_with fail
    refine (Val.right_any 2 m 0 ⟨#[]⟩ _).mono ?_
    rintro en w3 ⟨rfl, hb3⟩
    have HV3 := hidm (HVf.out.later hb3)
    have HR3 := hidm (HRf.out.later hb3)
    have HB3 := hidm (HBf.out.trans (.of hb3))
    have HA3 := hidm (HAf.out.later hb3)
    clear hb3 q0 q1 q2 q3
    rcases hr : Val.rightB 2 m 0 ⟨#[]⟩ with _ | _
    · have H4 := hidm (if_neg (by rw [show V.right ⟨2, m, 0, []⟩ = false from hr]; simp) : (if V.right ⟨2, m, 0, []⟩ = true then (.ok (⟨2, m, 0, []⟩, tl) : Except Nat (V × List UInt8)) else .error 7) = .error 7)
      go_wp2_with fail
      refine ⟨rfl, ?_⟩
      rw [HRR.out]
      simp only [chk]
      rw [H4.out]
      exact ⟨_, rfl, HR3.out, HB3.out⟩
    · have H4 := hidm (if_pos (show V.right ⟨2, m, 0, []⟩ = true from hr) : (if V.right ⟨2, m, 0, []⟩ = true then (.ok (⟨2, m, 0, []⟩, tl) : Except Nat (V × List UInt8)) else .error 7) = .ok (⟨2, m, 0, []⟩, tl))
      have q0 := HV3.out.c0
      have q1 := HV3.out.c1
      have q2 := HV3.out.c2
      have q3 := HV3.out.c3
      have a0 := HA3.out.c0
      have a1 := HA3.out.c1
      have a2 := HA3.out.c2
      have a3 := HA3.out.c3
      have az := HA3.out.z
      have HP := hidm (put4_vb (k := 2) (n := m) (x := 0) (t := ⟨#[]⟩) HA3.out)
      go_wp2_with fail
      have p0 := HP.out.c0
      have p1 := HP.out.c1
      have p2 := HP.out.c2
      have p3 := HP.out.c3
      show bodyPost _ _ _ _ _ (put4 w3 w.heap.size (.int .i64 2) (.int .i64 m) (.int .u64 0) (.string ⟨#[]⟩))
      refine bodyPost_ret (v := .agg #[.int .i64 2, .int .i64 m, .int .u64 0, .string ⟨#[]⟩]) (by simp [results, Tryz.results136, go_sem, p0, p1, p2, p3]) rfl ?_
      rw [HRR.out]
      simp only [chk]
      rw [H4.out]
      exact ⟨_, rfl, rfl, put4_rdr HR3.out (by omega), put4_but HB3.out (Nat.le_refl _)⟩
set_option maxHeartbeats 4000000 in
set_option maxRecDepth 100000 in
theorem value_float (r : Nat) (s : ByteArray) (p : Nat) (e : Int) (w : World) (h : Rdr r s p e w) (hp : p < s.size) (hs : s.size ≤ 281474976710656) (c : UInt8) (hc : s[p] = c) (hk : c.toNat = 3) :
    Calls Tryz.prog 136 #[.pointer (some ⟨r, 0, none⟩)] w fun en w' => Part r s e w VVal (val (s.data.toList.drop p)) en w' := by
  rw [val_at s p hp c hc]
  have hrlt := h.lt
  have H0 := hidm (h.past (.cells #[.int .i64 0, .int .i64 0, .int .u64 0, .string ⟨#[]⟩] 52))
  have B0 := hidm ((But.refl r w).alloc (.cells #[.int .i64 0, .int .i64 0, .int .u64 0, .string ⟨#[]⟩] 52))
  have A0 := hidm (Vb.new w 0 0 0 ⟨#[]⟩)
  have hoct := octet_ok r s p e _ H0.out hp (by omega)
  rw [hc] at hoct
  rw [hk] at hoct ⊢
  clear hc h
  go_enter Tryz.func136, Tryz.ntmps136
  go_wp2_with fail
  refine hoct.mono ?_
  rintro en w1 ⟨rfl, hr1, hb1⟩
  have HR1 := hidm (hr1.past (.cells #[.int .i64 3, .int .i64 0, .int .u64 0, .string ⟨#[]⟩] 52))
  have HB1 := hidm ((B0.out.trans hb1).alloc (.cells #[.int .i64 3, .int .i64 0, .int .u64 0, .string ⟨#[]⟩] 52))
  have HA1 := hidm ((A0.out.but (by omega) hb1).past (.cells #[.int .i64 3, .int .i64 0, .int .u64 0, .string ⟨#[]⟩] 52))
  have hV1 := Vb.new w1 3 0 0 ⟨#[]⟩
  have sz1 : w.heap.size < w1.heap.size := by have := hb1.size; simp at this; omega
  have HV1 := hidm hV1
  clear hr1 hb1 hoct
  have kk0 := hV1.c0
  clear hV1
  have hpart := bits_part r s (p + 1) e _ HR1.out hp hs
  obtain ⟨R, hR⟩ : ∃ R, R = oct 8 0 (s.data.toList.drop (p + 1)) := ⟨_, rfl⟩
  rw [← hR] at hpart
  have hbody : body 3 (s.data.toList.drop (p + 1)) = toV (fun b => ⟨3, 0, b, []⟩) R := by rw [hR]; rfl
  have HBD := hidm hbody
  clear hbody hR
  cases R with
  | error y =>
    go_wp2_with fail
    refine hpart.mono ?_
    rintro en w2 ⟨q, rfl, hr2, hb2⟩
    have HR2 := hidm hr2
    have HB2 := hidm (HB1.out.trans hb2)
    clear hr2 hb2
    go_wp2_with fail
    refine ⟨rfl, ?_⟩
    rw [HBD.out]
    exact ⟨_, rfl, HR2.out, HB2.out⟩
  | ok at' =>
    obtain ⟨m, tl⟩ := at'
    have HRR := hidm (show body 3 (s.data.toList.drop (p + 1)) = .ok (⟨3, 0, m, []⟩, tl) from HBD.out)
    go_wp2_with fail
    refine hpart.mono ?_
    rintro en w2 ⟨_, rfl, rfl, hr2, hbt⟩
    have HV2 := hidm (HV1.out.but (by omega) hbt)
    have HA2 := hidm (HA1.out.but (by omega) hbt)
    have HR2 := hidm hr2
    have HB2 := hidm (HB1.out.trans hbt)
    clear hr2 hbt
    have v0 := HV2.out.c2
    have vz := HV2.out.z
    have HRf := hidm (HR2.out.other (a := ⟨w1.heap.size, 2, none⟩) (show r ≠ w1.heap.size by omega) (.int .u64 (m : Nat)))
    have HBf := hidm (HB2.out.setNew (p := ⟨w1.heap.size, 2, none⟩) (Nat.le_of_lt sz1) (.int .u64 (m : Nat)))
    have HAf := hidm (HA2.out.other (a := ⟨w1.heap.size, 2, none⟩) (show w.heap.size ≠ w1.heap.size by omega) (.int .u64 (m : Nat)))
    have HVf := hidm (HV2.out.set2 (m : Nat))
    have q0 := HVf.out.c0
    have q1 := HVf.out.c1
    have q2 := HVf.out.c2
    have q3 := HVf.out.c3
    go_wp2_with fail
    refine (Val.right_any 3 0 (m : Nat) ⟨#[]⟩ _).mono ?_
    rintro en w3 ⟨rfl, hb3⟩
    have HV3 := hidm (HVf.out.later hb3)
    have HR3 := hidm (HRf.out.later hb3)
    have HB3 := hidm (HBf.out.trans (.of hb3))
    have HA3 := hidm (HAf.out.later hb3)
    clear hb3 q0 q1 q2 q3
    rcases hr : Val.rightB 3 0 (m : Nat) ⟨#[]⟩ with _ | _
    · have H4 := hidm (if_neg (by rw [show V.right ⟨3, 0, m, []⟩ = false from hr]; simp) : (if V.right ⟨3, 0, m, []⟩ = true then (.ok (⟨3, 0, m, []⟩, tl) : Except Nat (V × List UInt8)) else .error 7) = .error 7)
      go_wp2_with fail
      refine ⟨rfl, ?_⟩
      rw [HRR.out]
      simp only [chk]
      rw [H4.out]
      exact ⟨_, rfl, HR3.out, HB3.out⟩
    · have H4 := hidm (if_pos (show V.right ⟨3, 0, m, []⟩ = true from hr) : (if V.right ⟨3, 0, m, []⟩ = true then (.ok (⟨3, 0, m, []⟩, tl) : Except Nat (V × List UInt8)) else .error 7) = .ok (⟨3, 0, m, []⟩, tl))
      have q0 := HV3.out.c0
      have q1 := HV3.out.c1
      have q2 := HV3.out.c2
      have q3 := HV3.out.c3
      have a0 := HA3.out.c0
      have a1 := HA3.out.c1
      have a2 := HA3.out.c2
      have a3 := HA3.out.c3
      have az := HA3.out.z
      have HP := hidm (put4_vb (k := 3) (n := 0) (x := (m : Nat)) (t := ⟨#[]⟩) HA3.out)
      go_wp2_with fail
      have p0 := HP.out.c0
      have p1 := HP.out.c1
      have p2 := HP.out.c2
      have p3 := HP.out.c3
      show bodyPost _ _ _ _ _ (put4 w3 w.heap.size (.int .i64 3) (.int .i64 0) (.int .u64 (m : Nat)) (.string ⟨#[]⟩))
      refine bodyPost_ret (v := .agg #[.int .i64 3, .int .i64 0, .int .u64 (m : Nat), .string ⟨#[]⟩]) (by simp [results, Tryz.results136, go_sem, p0, p1, p2, p3]) rfl ?_
      rw [HRR.out]
      simp only [chk]
      rw [H4.out]
      exact ⟨_, rfl, rfl, put4_rdr HR3.out (by omega), put4_but HB3.out (Nat.le_refl _)⟩
set_option maxHeartbeats 4000000 in
set_option maxRecDepth 100000 in
theorem value_bytes (r : Nat) (s : ByteArray) (p : Nat) (e : Int) (w : World) (h : Rdr r s p e w) (hp : p < s.size) (hs : s.size ≤ 281474976710656) (c : UInt8) (hc : s[p] = c) (hk : c.toNat = 4) :
    Calls Tryz.prog 136 #[.pointer (some ⟨r, 0, none⟩)] w fun en w' => Part r s e w VVal (val (s.data.toList.drop p)) en w' := by
  rw [val_at s p hp c hc]
  have hrlt := h.lt
  have H0 := hidm (h.past (.cells #[.int .i64 0, .int .i64 0, .int .u64 0, .string ⟨#[]⟩] 52))
  have B0 := hidm ((But.refl r w).alloc (.cells #[.int .i64 0, .int .i64 0, .int .u64 0, .string ⟨#[]⟩] 52))
  have A0 := hidm (Vb.new w 0 0 0 ⟨#[]⟩)
  have hoct := octet_ok r s p e _ H0.out hp (by omega)
  rw [hc] at hoct
  rw [hk] at hoct ⊢
  clear hc h
  go_enter Tryz.func136, Tryz.ntmps136
  go_wp2_with fail
  refine hoct.mono ?_
  rintro en w1 ⟨rfl, hr1, hb1⟩
  have HR1 := hidm (hr1.past (.cells #[.int .i64 4, .int .i64 0, .int .u64 0, .string ⟨#[]⟩] 52))
  have HB1 := hidm ((B0.out.trans hb1).alloc (.cells #[.int .i64 4, .int .i64 0, .int .u64 0, .string ⟨#[]⟩] 52))
  have HA1 := hidm ((A0.out.but (by omega) hb1).past (.cells #[.int .i64 4, .int .i64 0, .int .u64 0, .string ⟨#[]⟩] 52))
  have hV1 := Vb.new w1 4 0 0 ⟨#[]⟩
  have sz1 : w.heap.size < w1.heap.size := by have := hb1.size; simp at this; omega
  have HV1 := hidm hV1
  clear hr1 hb1 hoct
  have kk0 := hV1.c0
  clear hV1
  have hpart := text_part r s (p + 1) e 4096 (by omega) _ HR1.out hp hs
  obtain ⟨R, hR⟩ : ∃ R, R = txt 4096 (s.data.toList.drop (p + 1)) := ⟨_, rfl⟩
  rw [← hR] at hpart
  have hbody : body 4 (s.data.toList.drop (p + 1)) = toV (fun t => ⟨4, 0, 0, t⟩) R := by rw [hR]; rfl
  have HBD := hidm hbody
  clear hbody hR
  cases R with
  | error y =>
    go_wp2_with fail
    refine hpart.mono ?_
    rintro en w2 ⟨q, rfl, hr2, hb2⟩
    have HR2 := hidm hr2
    have HB2 := hidm (HB1.out.trans hb2)
    clear hr2 hb2
    go_wp2_with fail
    refine ⟨rfl, ?_⟩
    rw [HBD.out]
    exact ⟨_, rfl, HR2.out, HB2.out⟩
  | ok at' =>
    obtain ⟨m, tl⟩ := at'
    have HRR := hidm (show body 4 (s.data.toList.drop (p + 1)) = .ok (⟨4, 0, 0, m⟩, tl) from HBD.out)
    go_wp2_with fail
    refine hpart.mono ?_
    rintro en w2 ⟨_, rfl, rfl, hr2, hbt⟩
    have HV2 := hidm (HV1.out.but (by omega) hbt)
    have HA2 := hidm (HA1.out.but (by omega) hbt)
    have HR2 := hidm hr2
    have HB2 := hidm (HB1.out.trans hbt)
    clear hr2 hbt
    have v0 := HV2.out.c3
    have vz := HV2.out.z
    have HRf := hidm (HR2.out.other (a := ⟨w1.heap.size, 3, none⟩) (show r ≠ w1.heap.size by omega) (.string (S m)))
    have HBf := hidm (HB2.out.setNew (p := ⟨w1.heap.size, 3, none⟩) (Nat.le_of_lt sz1) (.string (S m)))
    have HAf := hidm (HA2.out.other (a := ⟨w1.heap.size, 3, none⟩) (show w.heap.size ≠ w1.heap.size by omega) (.string (S m)))
    have HVf := hidm (HV2.out.set3 (S m))
    have q0 := HVf.out.c0
    have q1 := HVf.out.c1
    have q2 := HVf.out.c2
    have q3 := HVf.out.c3
    go_wp2_with fail
    refine (Val.right_any 4 0 0 (S m) _).mono ?_
    rintro en w3 ⟨rfl, hb3⟩
    have HV3 := hidm (HVf.out.later hb3)
    have HR3 := hidm (HRf.out.later hb3)
    have HB3 := hidm (HBf.out.trans (.of hb3))
    have HA3 := hidm (HAf.out.later hb3)
    clear hb3 q0 q1 q2 q3
    rcases hr : Val.rightB 4 0 0 (S m) with _ | _
    · have H4 := hidm (if_neg (by rw [show V.right ⟨4, 0, 0, m⟩ = false from hr]; simp) : (if V.right ⟨4, 0, 0, m⟩ = true then (.ok (⟨4, 0, 0, m⟩, tl) : Except Nat (V × List UInt8)) else .error 7) = .error 7)
      go_wp2_with fail
      refine ⟨rfl, ?_⟩
      rw [HRR.out]
      simp only [chk]
      rw [H4.out]
      exact ⟨_, rfl, HR3.out, HB3.out⟩
    · have H4 := hidm (if_pos (show V.right ⟨4, 0, 0, m⟩ = true from hr) : (if V.right ⟨4, 0, 0, m⟩ = true then (.ok (⟨4, 0, 0, m⟩, tl) : Except Nat (V × List UInt8)) else .error 7) = .ok (⟨4, 0, 0, m⟩, tl))
      have q0 := HV3.out.c0
      have q1 := HV3.out.c1
      have q2 := HV3.out.c2
      have q3 := HV3.out.c3
      have a0 := HA3.out.c0
      have a1 := HA3.out.c1
      have a2 := HA3.out.c2
      have a3 := HA3.out.c3
      have az := HA3.out.z
      have HP := hidm (put4_vb (k := 4) (n := 0) (x := 0) (t := (S m)) HA3.out)
      go_wp2_with fail
      have p0 := HP.out.c0
      have p1 := HP.out.c1
      have p2 := HP.out.c2
      have p3 := HP.out.c3
      show bodyPost _ _ _ _ _ (put4 w3 w.heap.size (.int .i64 4) (.int .i64 0) (.int .u64 0) (.string (S m)))
      refine bodyPost_ret (v := .agg #[.int .i64 4, .int .i64 0, .int .u64 0, .string (S m)]) (by simp [results, Tryz.results136, go_sem, p0, p1, p2, p3]) rfl ?_
      rw [HRR.out]
      simp only [chk]
      rw [H4.out]
      exact ⟨_, rfl, rfl, put4_rdr HR3.out (by omega), put4_but HB3.out (Nat.le_refl _)⟩
set_option maxHeartbeats 4000000 in
set_option maxRecDepth 100000 in
theorem value_text (r : Nat) (s : ByteArray) (p : Nat) (e : Int) (w : World) (h : Rdr r s p e w) (hp : p < s.size) (hs : s.size ≤ 281474976710656) (c : UInt8) (hc : s[p] = c) (hk : c.toNat = 5) :
    Calls Tryz.prog 136 #[.pointer (some ⟨r, 0, none⟩)] w fun en w' => Part r s e w VVal (val (s.data.toList.drop p)) en w' := by
  rw [val_at s p hp c hc]
  have hrlt := h.lt
  have H0 := hidm (h.past (.cells #[.int .i64 0, .int .i64 0, .int .u64 0, .string ⟨#[]⟩] 52))
  have B0 := hidm ((But.refl r w).alloc (.cells #[.int .i64 0, .int .i64 0, .int .u64 0, .string ⟨#[]⟩] 52))
  have A0 := hidm (Vb.new w 0 0 0 ⟨#[]⟩)
  have hoct := octet_ok r s p e _ H0.out hp (by omega)
  rw [hc] at hoct
  rw [hk] at hoct ⊢
  clear hc h
  go_enter Tryz.func136, Tryz.ntmps136
  go_wp2_with fail
  refine hoct.mono ?_
  rintro en w1 ⟨rfl, hr1, hb1⟩
  have HR1 := hidm (hr1.past (.cells #[.int .i64 5, .int .i64 0, .int .u64 0, .string ⟨#[]⟩] 52))
  have HB1 := hidm ((B0.out.trans hb1).alloc (.cells #[.int .i64 5, .int .i64 0, .int .u64 0, .string ⟨#[]⟩] 52))
  have HA1 := hidm ((A0.out.but (by omega) hb1).past (.cells #[.int .i64 5, .int .i64 0, .int .u64 0, .string ⟨#[]⟩] 52))
  have hV1 := Vb.new w1 5 0 0 ⟨#[]⟩
  have sz1 : w.heap.size < w1.heap.size := by have := hb1.size; simp at this; omega
  have HV1 := hidm hV1
  clear hr1 hb1 hoct
  have kk0 := hV1.c0
  clear hV1
  have hpart := text_part r s (p + 1) e 4096 (by omega) _ HR1.out hp hs
  obtain ⟨R, hR⟩ : ∃ R, R = txt 4096 (s.data.toList.drop (p + 1)) := ⟨_, rfl⟩
  rw [← hR] at hpart
  have hbody : body 5 (s.data.toList.drop (p + 1)) = toV (fun t => ⟨5, 0, 0, t⟩) R := by rw [hR]; rfl
  have HBD := hidm hbody
  clear hbody hR
  cases R with
  | error y =>
    go_wp2_with fail
    refine hpart.mono ?_
    rintro en w2 ⟨q, rfl, hr2, hb2⟩
    have HR2 := hidm hr2
    have HB2 := hidm (HB1.out.trans hb2)
    clear hr2 hb2
    go_wp2_with fail
    refine ⟨rfl, ?_⟩
    rw [HBD.out]
    exact ⟨_, rfl, HR2.out, HB2.out⟩
  | ok at' =>
    obtain ⟨m, tl⟩ := at'
    have HRR := hidm (show body 5 (s.data.toList.drop (p + 1)) = .ok (⟨5, 0, 0, m⟩, tl) from HBD.out)
    go_wp2_with fail
    refine hpart.mono ?_
    rintro en w2 ⟨_, rfl, rfl, hr2, hbt⟩
    have HV2 := hidm (HV1.out.but (by omega) hbt)
    have HA2 := hidm (HA1.out.but (by omega) hbt)
    have HR2 := hidm hr2
    have HB2 := hidm (HB1.out.trans hbt)
    clear hr2 hbt
    have v0 := HV2.out.c3
    have vz := HV2.out.z
    have HRf := hidm (HR2.out.other (a := ⟨w1.heap.size, 3, none⟩) (show r ≠ w1.heap.size by omega) (.string (S m)))
    have HBf := hidm (HB2.out.setNew (p := ⟨w1.heap.size, 3, none⟩) (Nat.le_of_lt sz1) (.string (S m)))
    have HAf := hidm (HA2.out.other (a := ⟨w1.heap.size, 3, none⟩) (show w.heap.size ≠ w1.heap.size by omega) (.string (S m)))
    have HVf := hidm (HV2.out.set3 (S m))
    have q0 := HVf.out.c0
    have q1 := HVf.out.c1
    have q2 := HVf.out.c2
    have q3 := HVf.out.c3
    go_wp2_with fail
    refine (Val.right_any 5 0 0 (S m) _).mono ?_
    rintro en w3 ⟨rfl, hb3⟩
    have HV3 := hidm (HVf.out.later hb3)
    have HR3 := hidm (HRf.out.later hb3)
    have HB3 := hidm (HBf.out.trans (.of hb3))
    have HA3 := hidm (HAf.out.later hb3)
    clear hb3 q0 q1 q2 q3
    rcases hr : Val.rightB 5 0 0 (S m) with _ | _
    · have H4 := hidm (if_neg (by rw [show V.right ⟨5, 0, 0, m⟩ = false from hr]; simp) : (if V.right ⟨5, 0, 0, m⟩ = true then (.ok (⟨5, 0, 0, m⟩, tl) : Except Nat (V × List UInt8)) else .error 7) = .error 7)
      go_wp2_with fail
      refine ⟨rfl, ?_⟩
      rw [HRR.out]
      simp only [chk]
      rw [H4.out]
      exact ⟨_, rfl, HR3.out, HB3.out⟩
    · have H4 := hidm (if_pos (show V.right ⟨5, 0, 0, m⟩ = true from hr) : (if V.right ⟨5, 0, 0, m⟩ = true then (.ok (⟨5, 0, 0, m⟩, tl) : Except Nat (V × List UInt8)) else .error 7) = .ok (⟨5, 0, 0, m⟩, tl))
      have q0 := HV3.out.c0
      have q1 := HV3.out.c1
      have q2 := HV3.out.c2
      have q3 := HV3.out.c3
      have a0 := HA3.out.c0
      have a1 := HA3.out.c1
      have a2 := HA3.out.c2
      have a3 := HA3.out.c3
      have az := HA3.out.z
      have HP := hidm (put4_vb (k := 5) (n := 0) (x := 0) (t := (S m)) HA3.out)
      go_wp2_with fail
      have p0 := HP.out.c0
      have p1 := HP.out.c1
      have p2 := HP.out.c2
      have p3 := HP.out.c3
      show bodyPost _ _ _ _ _ (put4 w3 w.heap.size (.int .i64 5) (.int .i64 0) (.int .u64 0) (.string (S m)))
      refine bodyPost_ret (v := .agg #[.int .i64 5, .int .i64 0, .int .u64 0, .string (S m)]) (by simp [results, Tryz.results136, go_sem, p0, p1, p2, p3]) rfl ?_
      rw [HRR.out]
      simp only [chk]
      rw [H4.out]
      exact ⟨_, rfl, rfl, put4_rdr HR3.out (by omega), put4_but HB3.out (Nat.le_refl _)⟩
set_option maxHeartbeats 4000000 in
set_option maxRecDepth 100000 in
theorem value_else (r : Nat) (s : ByteArray) (p : Nat) (e : Int) (w : World) (h : Rdr r s p e w) (hp : p < s.size) (hs : s.size ≤ 281474976710656) (c : UInt8) (hc : s[p] = c) (hk : c.toNat ≠ 1 ∧ c.toNat ≠ 2 ∧ c.toNat ≠ 3 ∧ c.toNat ≠ 4 ∧ c.toNat ≠ 5) :
    Calls Tryz.prog 136 #[.pointer (some ⟨r, 0, none⟩)] w fun en w' => Part r s e w VVal (val (s.data.toList.drop p)) en w' := by
  rw [val_at s p hp c hc]
  have hrlt := h.lt
  have H0 := hidm (h.past (.cells #[.int .i64 0, .int .i64 0, .int .u64 0, .string ⟨#[]⟩] 52))
  have B0 := hidm ((But.refl r w).alloc (.cells #[.int .i64 0, .int .i64 0, .int .u64 0, .string ⟨#[]⟩] 52))
  have A0 := hidm (Vb.new w 0 0 0 ⟨#[]⟩)
  have hoct := octet_ok r s p e _ H0.out hp (by omega)
  rw [hc] at hoct
  have k1 : ((c.toNat : Int) == 1) = false := by simp; omega
  have k2 : ((c.toNat : Int) == 2) = false := by simp; omega
  have k3 : ((c.toNat : Int) == 3) = false := by simp; omega
  have k4 : ((c.toNat : Int) == 4) = false := by simp; omega
  have k5 : ((c.toNat : Int) == 5) = false := by simp; omega
  have hcl := c.toNat_lt
  obtain ⟨tl, htl⟩ : ∃ tl, tl = s.data.toList.drop (p + 1) := ⟨_, rfl⟩
  obtain ⟨R, hR⟩ : ∃ R, R = body c.toNat (s.data.toList.drop (p + 1)) := ⟨_, rfl⟩
  rw [← hR]
  have HRR : Hid (R = .ok (⟨(c.toNat : Int), 0, 0, []⟩, tl)) := by
    refine hidm ?_
    rw [hR, htl]; unfold body
    rw [if_neg (by omega), if_neg (by omega), if_neg (by omega), if_neg (by omega)]
  have HE : Hid (s.size - tl.length = p + 1) := by refine hidm ?_; rw [htl]; exact back_at s (p + 1) hp
  clear htl hR
  clear hc h
  go_enter Tryz.func136, Tryz.ntmps136
  go_wp2_with fail
  refine hoct.mono ?_
  rintro en w1 ⟨rfl, hr1, hb1⟩
  have HR1 := hidm (hr1.past (.cells #[.int .i64 (c.toNat : Int), .int .i64 0, .int .u64 0, .string ⟨#[]⟩] 52))
  have HB1 := hidm ((B0.out.trans hb1).alloc (.cells #[.int .i64 (c.toNat : Int), .int .i64 0, .int .u64 0, .string ⟨#[]⟩] 52))
  have HA1 := hidm ((A0.out.but (by omega) hb1).past (.cells #[.int .i64 (c.toNat : Int), .int .i64 0, .int .u64 0, .string ⟨#[]⟩] 52))
  have hV1 := Vb.new w1 (c.toNat : Int) 0 0 ⟨#[]⟩
  have sz1 : w.heap.size < w1.heap.size := by have := hb1.size; simp at this; omega
  have HV1 := hidm hV1
  clear hr1 hb1 hoct
  have kk0 := hV1.c0
  clear hV1
  have HRf := HR1
  have HBf := HB1
  have HAf := HA1
  have HVf := HV1
  have q0 := HVf.out.c0
  have q1 := HVf.out.c1
  have q2 := HVf.out.c2
  have q3 := HVf.out.c3
  go_wp2_with fail
  refine (Val.right_any (c.toNat : Int) 0 0 ⟨#[]⟩ _).mono ?_
  rintro en w3 ⟨rfl, hb3⟩
  have HV3 := hidm (HVf.out.later hb3)
  have HR3 := hidm (HRf.out.later hb3)
  have HB3 := hidm (HBf.out.trans (.of hb3))
  have HA3 := hidm (HAf.out.later hb3)
  clear hb3 q0 q1 q2 q3
  rcases hr : Val.rightB (c.toNat : Int) 0 0 ⟨#[]⟩ with _ | _
  · have H4 := hidm (if_neg (by rw [show V.right ⟨(c.toNat : Int), 0, 0, []⟩ = false from hr]; simp) : (if V.right ⟨(c.toNat : Int), 0, 0, []⟩ = true then (.ok (⟨(c.toNat : Int), 0, 0, []⟩, tl) : Except Nat (V × List UInt8)) else .error 7) = .error 7)
    go_wp2_with fail
    refine ⟨rfl, ?_⟩
    rw [HRR.out]
    simp only [chk]
    rw [H4.out]
    exact ⟨_, rfl, HR3.out, HB3.out⟩
  · have H4 := hidm (if_pos (show V.right ⟨(c.toNat : Int), 0, 0, []⟩ = true from hr) : (if V.right ⟨(c.toNat : Int), 0, 0, []⟩ = true then (.ok (⟨(c.toNat : Int), 0, 0, []⟩, tl) : Except Nat (V × List UInt8)) else .error 7) = .ok (⟨(c.toNat : Int), 0, 0, []⟩, tl))
    have q0 := HV3.out.c0
    have q1 := HV3.out.c1
    have q2 := HV3.out.c2
    have q3 := HV3.out.c3
    have a0 := HA3.out.c0
    have a1 := HA3.out.c1
    have a2 := HA3.out.c2
    have a3 := HA3.out.c3
    have az := HA3.out.z
    have HP := hidm (put4_vb (k := (c.toNat : Int)) (n := 0) (x := 0) (t := ⟨#[]⟩) HA3.out)
    go_wp2_with fail
    have p0 := HP.out.c0
    have p1 := HP.out.c1
    have p2 := HP.out.c2
    have p3 := HP.out.c3
    show bodyPost _ _ _ _ _ (put4 w3 w.heap.size (.int .i64 (c.toNat : Int)) (.int .i64 0) (.int .u64 0) (.string ⟨#[]⟩))
    refine bodyPost_ret (v := .agg #[.int .i64 (c.toNat : Int), .int .i64 0, .int .u64 0, .string ⟨#[]⟩]) (by simp [results, Tryz.results136, go_sem, p0, p1, p2, p3]) rfl ?_
    rw [HRR.out]
    simp only [chk]
    rw [H4.out]
    exact ⟨_, rfl, rfl, put4_rdr (by rw [HE.out]; exact HR3.out) (by omega), put4_but HB3.out (Nat.le_refl _)⟩
theorem value_part (r : Nat) (s : ByteArray) (p : Nat) (e : Int) (w : World) (h : Rdr r s p e w) (hp : p ≤ s.size) (hs : s.size ≤ 281474976710656) :
    Calls Tryz.prog 136 #[.pointer (some ⟨r, 0, none⟩)] w fun en w' => Part r s e w VVal (val (s.data.toList.drop p)) en w' := by
  rcases Nat.eq_or_lt_of_le hp with hpe | hpe
  · subst hpe; exact value_short r s e w h
  · obtain ⟨c, hc⟩ : ∃ c : UInt8, s[p] = c := ⟨_, rfl⟩
    by_cases h1 : c.toNat = 1
    · exact value_bool r s p e w h hpe hs c hc h1
    by_cases h2 : c.toNat = 2
    · exact value_int r s p e w h hpe hs c hc h2
    by_cases h3 : c.toNat = 3
    · exact value_float r s p e w h hpe hs c hc h3
    by_cases h4 : c.toNat = 4
    · exact value_bytes r s p e w h hpe hs c hc h4
    by_cases h5 : c.toNat = 5
    · exact value_text r s p e w h hpe hs c hc h5
    exact value_else r s p e w h hpe hs c hc ⟨h1, h2, h3, h4, h5⟩
end Cod
namespace Cod
/-- i values, behind those that are read. -/
def vls : Nat → List V → List UInt8 → Except Nat (List V × List UInt8)
  | 0, acc, l => .ok (acc, l)
  | i + 1, acc, l => match val l with
    | .ok (v, t) => vls i (acc ++ [v]) t
    | .error x => .error x
def rowR : Except Nat (Nat × List UInt8) → Except Nat (List V × List UInt8)
  | .ok (n, t) => vls n [] t
  | .error x => .error x
def row (l : List UInt8) : Except Nat (List V × List UInt8) := rowR (len 1000 l)
def V.cells (v : V) : List Value := [.int .i64 v.k, .int .i64 v.n, .int .u64 v.b, .string (S v.s)]
def flat (l : List V) : List Value := l.flatMap V.cells
theorem flat_len (l : List V) : (flat l).length = l.length * 4 := by
  induction l with
  | nil => rfl
  | cons v l ih => simp only [flat, List.flatMap_cons, List.length_append] at ih ⊢; rw [ih]; simp [V.cells]; omega
theorem flat_snoc (l : List V) (v : V) : flat (l ++ [v]) = flat l ++ v.cells := by simp [flat]
/-- The slice v owns these values, in blocks from base on. -/
def VRow (base : Nat) (l : List V) (v : Value) (w : World) : Prop := w.ownsRow base 52 4 v l.length (flat l)
theorem owns_but {r base : Nat} {e : TypeId} {sz : Nat} {v : Value} {n : Nat} {xs : List Value} {w w' : World} (h : w.ownsRow base e sz v n xs) (hr : r < base) (hb : But r w w') : w'.ownsRow base e sz v n xs := by
  refine ⟨h.1, ?_⟩
  rcases h.2 with h2 | ⟨g, cap, cur, hv, hg, hh, rest⟩
  · exact .inl h2
  · exact .inr ⟨g, cap, cur, hv, hg, hb.keeps (by omega) hh, rest⟩
theorem owns_later {base : Nat} {e : TypeId} {sz : Nat} {v : Value} {n : Nat} {xs : List Value} {w w' : World} (h : w.ownsRow base e sz v n xs) (hb : Below w.heap.size w w') : w'.ownsRow base e sz v n xs := by
  refine ⟨h.1, ?_⟩
  rcases h.2 with h2 | ⟨g, cap, cur, hv, hg, hh, rest⟩
  · exact .inl h2
  · exact .inr ⟨g, cap, cur, hv, hg, below_keeps hb hh, rest⟩
theorem But.grown {r : Nat} {a w w' : World} {row : Option Nat} (h : But r a w) (hg : w.grownBy w' row) (hr : ∀ k, row = some k → a.heap.size ≤ k) : But r a w' := by
  refine ⟨hg.os.trans h.os, hg.tape.trans h.tape, hg.output.trans h.output, Nat.le_trans h.size hg.size, fun k hk hn => ?_⟩
  rw [hg.block k (Nat.lt_of_lt_of_le hk h.size) (fun e => by have := hr k e.symm; omega), h.block k hk hn]
theorem Rdr.grown {r : Nat} {s : ByteArray} {q e : Int} {w w' : World} {row : Option Nat} (h : Rdr r s q e w) (hg : w.grownBy w' row) (hr : ∀ k, row = some k → r ≠ k) : Rdr r s q e w' := by
  unfold Rdr; rw [hg.block r h.lt (fun e => hr r e.symm rfl)]; exact h
theorem cell_four (a b c d : Value) : ∀ j u, [a, b, c, d][j]? = some u → (j = 0 ∧ u = a) ∨ (j = 1 ∧ u = b) ∨ (j = 2 ∧ u = c) ∨ (j = 3 ∧ u = d) := by
  intro j u h
  match j, h with
  | 0, h => simp at h; exact .inl ⟨rfl, h.symm⟩
  | 1, h => simp at h; exact .inr (.inl ⟨rfl, h.symm⟩)
  | 2, h => simp at h; exact .inr (.inr (.inl ⟨rfl, h.symm⟩))
  | 3, h => simp at h; exact .inr (.inr (.inr ⟨rfl, h.symm⟩))
  | j + 4, h => simp at h
theorem infoV : (Tryz.prog.info? 52).map (fun i => (i.zero, i.size, i.bytes)) = some (some (.agg #[.int .i64 0, .int .i64 0, .int .u64 0, .string ⟨#[]⟩]), 4, 40) := by kernel_rfl
theorem one_suf {l t : List UInt8} {c : UInt8} (h : one l = .ok (c, t)) : ∃ pre, l = pre ++ t := by
  cases l with
  | nil => cases h
  | cons a l => simp only [one, Except.ok.injEq, Prod.mk.injEq] at h; exact ⟨[a], by rw [h.2]; rfl⟩
theorem num_suf {l t : List UInt8} {n : Nat} (h : num 0 0 l = .ok (n, t)) : ∃ pre, l = pre ++ t := ⟨_, (read_ok h).1⟩
theorem sig_suf {l t : List UInt8} {n : Int} (h : sig l = .ok (n, t)) : ∃ pre, l = pre ++ t := by
  unfold sig sigR at h
  split at h
  · rename_i n' t' hn
    simp only [Except.ok.injEq, Prod.mk.injEq] at h
    obtain ⟨_, rfl⟩ := h
    exact num_suf hn
  · cases h
theorem oct_suf : ∀ (i n : Nat) (l t : List UInt8) (m : Nat), oct i n l = .ok (m, t) → ∃ pre, l = pre ++ t
  | 0, n, l, t, m, h => by simp only [oct, Except.ok.injEq, Prod.mk.injEq] at h; exact ⟨[], by rw [h.2]; rfl⟩
  | i + 1, n, [], t, m, h => by cases h
  | i + 1, n, c :: l, t, m, h => by obtain ⟨pre, hp⟩ := oct_suf i _ l t m h; exact ⟨c :: pre, by rw [hp]; rfl⟩
theorem txt_suf {most : Nat} {l t a : List UInt8} (h : txt most l = .ok (a, t)) : ∃ pre, l = pre ++ t := by
  unfold txt txtR at h
  split at h
  · rename_i n t' hn
    split at h
    · cases h
    · simp only [Except.ok.injEq, Prod.mk.injEq] at h
      obtain ⟨_, rfl⟩ := h
      obtain ⟨pre, hp⟩ := num_suf (len_ok hn).1
      exact ⟨pre ++ t'.take n, by rw [hp, List.append_assoc, List.take_append_drop]⟩
  · cases h
theorem toV_ok {α : Type} {f : α → V} {R : Except Nat (α × List UInt8)} {v : V} {t : List UInt8} (h : toV f R = .ok (v, t)) : ∃ a, R = .ok (a, t) ∧ v = f a := by
  cases R with
  | error x => cases h
  | ok at' => obtain ⟨a, u⟩ := at'; simp only [toV, Except.ok.injEq, Prod.mk.injEq] at h; obtain ⟨rfl, rfl⟩ := h; exact ⟨a, rfl, rfl⟩
theorem body_suf {k : Nat} {l t : List UInt8} {v : V} (h : body k l = .ok (v, t)) : ∃ pre, l = pre ++ t := by
  unfold body at h
  split at h
  · obtain ⟨a, ha, _⟩ := toV_ok h; exact one_suf ha
  split at h
  · obtain ⟨a, ha, _⟩ := toV_ok h; exact sig_suf ha
  split at h
  · obtain ⟨a, ha, _⟩ := toV_ok h; exact oct_suf _ _ _ _ _ ha
  split at h
  · obtain ⟨a, ha, _⟩ := toV_ok h; exact txt_suf ha
  · simp only [Except.ok.injEq, Prod.mk.injEq] at h; exact ⟨[], by rw [h.2]; rfl⟩
theorem chk_ok {R : Except Nat (V × List UInt8)} {v : V} {t : List UInt8} (h : chk R = .ok (v, t)) : R = .ok (v, t) ∧ v.right = true := by
  cases R with
  | error x => cases h
  | ok at' =>
    obtain ⟨a, u⟩ := at'
    simp only [chk] at h
    split at h
    · rename_i hr
      simp only [Except.ok.injEq, Prod.mk.injEq] at h
      obtain ⟨rfl, rfl⟩ := h
      exact ⟨rfl, hr⟩
    · cases h
theorem val_suf {l t : List UInt8} {v : V} (h : val l = .ok (v, t)) : ∃ pre, l = pre ++ t := by
  unfold val valR at h
  split at h
  · rename_i c u hc
    obtain ⟨pre, hp⟩ := one_suf hc
    obtain ⟨pre2, hp2⟩ := body_suf (chk_ok h).1
    exact ⟨pre ++ pre2, by rw [hp, hp2, List.append_assoc]⟩
  · cases h
set_option maxHeartbeats 4000000 in
set_option maxRecDepth 100000 in
theorem row_part (r : Nat) (s : ByteArray) (p : Nat) (e : Int) (w : World) (h : Rdr r s p e w) (hp : p ≤ s.size) (hs : s.size ≤ 281474976710656) :
    Calls Tryz.prog 124 #[.pointer (some ⟨r, 0, none⟩)] w fun en w' => Part r s e w (VRow w.heap.size) (row (s.data.toList.drop p)) en w' := by
  obtain ⟨i0, hi, hz0, hz1, hz2⟩ := info_parts infoV
  have hlen := length_any r s p e 1000 (by omega) w h hp hs
  have hrlt := h.lt
  obtain ⟨R, hR⟩ : ∃ R, R = len 1000 (s.data.toList.drop p) := ⟨_, rfl⟩
  obtain ⟨F, hF⟩ : ∃ F, F = row (s.data.toList.drop p) := ⟨_, rfl⟩
  rw [← hF]
  unfold row at hF
  rw [← hR] at hlen hF
  have HR0 := hidm hR
  have HFF := hidm hF
  clear hR hF
  go_enter Tryz.func124, Tryz.ntmps124
  go_wp2_with fail
  refine hlen.mono ?_
  cases R with
  | error x =>
    rintro en w1 ⟨q, rfl, hv⟩
    have HV := hidm hv
    clear hv
    go_wp2_with fail
    refine ⟨rfl, ?_⟩
    rw [HFF.out]
    exact ⟨q, rfl, HV.out⟩
  | ok at' =>
    obtain ⟨m, t⟩ := at'
    rintro en w1 ⟨v, rfl, rfl, hv, hbt⟩
    have hln := (len_ok HR0.out.symm)
    have hm1000 := hln.2
    have hrest := rest_at (read_ok hln.1).1
    have HV := hidm hv
    have HT := hidm hbt
    have HF : Hid (F = vls m [] t) := HFF
    have HH := hidm hrest
    clear hv hbt hrest hln hlen
    go_wp2_with fail
    go_loopw [3, 6] (fun sl ii wr => ∃ (i q : Nat) (acc : List V), ii = .int .i64 i ∧ i ≤ m ∧ q ≤ s.size ∧ acc.length = i ∧ Hid (F = vls (m - i) acc (s.data.toList.drop q)) ∧ Hid (Rdr r s q e wr) ∧ Hid (But r w wr) ∧ wr.ownsRow w.heap.size 52 4 sl i (flat acc)) (fun _ ii _ => (m - (intOf ii).toNat))
    case atStart => exact ⟨0, s.size - t.length, [], rfl, by omega, HH.out.2.1, rfl, by rw [HH.out.1]; exact HF, HV, HT, World.ownsRow_nil _ _ _ _⟩
    case round =>
      obtain ⟨i, q, acc, rfl, him, hq, hacc, HM, HRr, HB, hown⟩ := hrel
      have hsz := HB.out.size
      rcases Nat.eq_or_lt_of_le him with hie | hie
      · have f1 : ¬ (i : Int) < m := by omega
        have HI := hidm hie
        have HA := hidm hacc
        have HO := hidm hown
        clear hie hacc hown
        go_wp2_with fail
        go_ret
        rw [HM.out, show m - i = 0 by have := HI.out; omega]
        exact ⟨_, rfl, by have := HA.out; rw [← this] at HO; exact HO.out, by rw [back_at s q hq]; exact HRr.out, HB.out⟩
      · have f1 : (i : Int) < m := by omega
        have hval := value_part r s q e wr HRr.out hq hs
        obtain ⟨G, hG⟩ : ∃ G, G = val (s.data.toList.drop q) := ⟨_, rfl⟩
        rw [← hG] at hval
        have HG := hidm hG
        have HA := hidm hacc
        clear hG hacc
        go_wp2_with fail
        refine hval.mono ?_
        cases G with
        | error x =>
          rintro en w2 ⟨q2, rfl, hr2, hb2⟩
          have HR2 := hidm hr2
          have HB2 := hidm (HB.out.trans hb2)
          clear hr2 hb2
          go_wp2_with fail
          refine ⟨rfl, ?_⟩
          have : vls (m - i) acc (s.data.toList.drop q) = .error x := by
            rw [show m - i = (m - (i + 1)) + 1 by omega]
            simp only [vls]
            rw [← HG.out]
          rw [HM.out, this]
          exact ⟨_, rfl, HR2.out, HB2.out⟩
        | ok at2 =>
          obtain ⟨x, u⟩ := at2
          rintro en w2 ⟨_, rfl, rfl, hr2, hb2⟩
          have HX : Hid (F = vls (m - (i + 1)) (acc ++ [x]) u) := by
            refine hidm ?_
            rw [HM.out, show m - i = (m - (i + 1)) + 1 by omega]
            simp only [vls]
            rw [← HG.out]
          have HR2 := hidm hr2
          have HB2 := hidm (HB.out.trans hb2)
          have hown2 := owns_but hown hrlt hb2
          have hsz2 : w.heap.size ≤ w2.heap.size := Nat.le_trans hsz hb2.size
          clear hr2 hb2 hown
          simp only [V.agg]
          go_wp2_with (at_builtin; refine wpList_append_own _ rfl _ _ 25 rfl w.heap.size 52 i0 (.agg #[.int .i64 0, .int .i64 0, .int .u64 0, .string ⟨#[]⟩]) 4 40 Tryz.underlying25 hi hz0 hz1 hz2 rfl (by decide) _ _ _ rfl (hown2.alloc _) ⟨w2.heap.size, 0, none⟩ 1 1 [.int .i64 x.k, .int .i64 x.n, .int .u64 x.b, .string (S x.s)] rfl rfl ?c1 ?c2 ?c3 ?c4 ?c5 ?_)
          case c1 =>
            intro j y hj
            rcases cell_four _ _ _ _ j y hj with ⟨rfl, rfl⟩ | ⟨rfl, rfl⟩ | ⟨rfl, rfl⟩ | ⟨rfl, rfl⟩
            · exact (Vb.new w2 x.k x.n x.b (S x.s)).c0
            · exact (Vb.new w2 x.k x.n x.b (S x.s)).c1
            · exact (Vb.new w2 x.k x.n x.b (S x.s)).c2
            · exact (Vb.new w2 x.k x.n x.b (S x.s)).c3
          case c2 => intro y hy; simp at hy; rcases hy with rfl | rfl | rfl | rfl <;> rfl
          case c3 => unfold maxLen; omega
          case c4 => omega
          case c5 => simp; omega
          intro v' w3 hown' hgrow _
          have hlt2 := hown2.lt
          have HB3 := hidm ((HB2.out.alloc (.cells #[.int .i64 x.k, .int .i64 x.n, .int .u64 x.b, .string (S x.s)] 52)).grown hgrow (fun k hk => (hlt2 k hk).1))
          have HR3 := hidm ((HR2.out.past (.cells #[.int .i64 x.k, .int .i64 x.n, .int .u64 x.b, .string (S x.s)] 52)).grown hgrow (fun k hk => by have := (hlt2 k hk).1; omega))
          have hfl : flat acc ++ [.int .i64 x.k, .int .i64 x.n, .int .u64 x.b, .string (S x.s)] = flat (acc ++ [x]) := (flat_snoc acc x).symm
          rw [hfl] at hown'
          have HO := hidm hown'
          obtain ⟨pre, hpre⟩ := val_suf HG.out.symm
          have HU := hidm (rest_at hpre)
          clear hown' hgrow hown2 hlt2 hfl hpre
          go_wp2
          go_roundw
          case rel => exact ⟨i + 1, s.size - u.length, acc ++ [x], by go_num, hie, HU.out.2.1, by have := HA.out; rw [List.length_append, this]; rfl, by rw [HU.out.1]; exact HX, HR3, HB3, HO.out⟩
          case measure => simp [intOf]; omega
end Cod
end Go.Proofs.YtopmbhpjdmcabaaGreat
