/- SchemaGrows is proved: for every three schemas and every row the law returns true and its arguments read as they did. No other condition. -/
import Derived.Test.YtkgiomdjihcfoaaJx
import Derived.Test.YtkgiomdjihcfoaaJz
import Derived.Test.YtkgiomdjihcfoaaKb
import Derived.WideKeyPair
namespace Go.Proofs.Ytkgiomdjihcfoaa
open Go.ChangeShapes Go.WideShapes Go.ChangeAt Go.RowKit
open Go.ChangeMaps (open_string shut_string)
namespace LaSchemaGrows
open Cod Sch
theorem nine {w : World} {b : Nat} {x y z : T} {ax ay az : Option Addr} {cx cy cz : Nat} (h : w.heap[b]? = some (.cells #[.string (S x.nm), .slice ax x.cols.length cx, .int .i64 x.keys, .string (S y.nm), .slice ay y.cols.length cy, .int .i64 y.keys, .string (S z.nm), .slice az z.cols.length cz, .int .i64 z.keys] 42 (0, 0))) : w.cell? ⟨b, 0, none⟩ = some (.string (S x.nm)) ∧ w.cell? ⟨b, 1, none⟩ = some (.slice ax x.cols.length cx) ∧ w.cell? ⟨b, 2, none⟩ = some (.int .i64 x.keys) ∧ w.cell? ⟨b, 3, none⟩ = some (.string (S y.nm)) ∧ w.cell? ⟨b, 4, none⟩ = some (.slice ay y.cols.length cy) ∧ w.cell? ⟨b, 5, none⟩ = some (.int .i64 y.keys) ∧ w.cell? ⟨b, 6, none⟩ = some (.string (S z.nm)) ∧ w.cell? ⟨b, 7, none⟩ = some (.slice az z.cols.length cz) ∧ w.cell? ⟨b, 8, none⟩ = some (.int .i64 z.keys) := by
  refine ⟨?_, ?_, ?_, ?_, ?_, ?_, ?_, ?_, ?_⟩ <;> simp [World.cell?, h]
theorem lim_of {a : T} {r : List V} (h : lightB a r = true) : Lim a := by
  obtain ⟨h1, h2, _, h4, _⟩ := light_parts h
  exact ⟨by omega, fun c hc => by have := h4 c hc; omega, by omega⟩
theorem light_is {s : T} {r : List V} {b : Bool} (hb : lightB s r = b) (sl rl : Value) (hcn : s.cols.length ≤ 9223372036854775807) (hrn : r.length ≤ 9223372036854775807) (w : World) (h : ColsAt s.cols sl w) (hr : RowAt r rl w) :
    Calls Try.prog 9 #[.agg #[.string (S s.nm), sl, .int .i64 s.keys], rl] w fun e w' => e = .returned (.bool b) ∧ Below w.heap.size w w' := hb ▸ light_any s sl r rl hcn hrn w h hr
theorem row_nil (w : World) : RowAt [] (.slice none 0 0) w := ⟨none, 0, rfl, fun hne => absurd rfl hne⟩
theorem g_step {b : Nat} {wb : World} {x y z : T} {ax ay az : Option Addr} {cx cy cz : Nat} {w1 w' : World} (h : w1.cell? ⟨b, 0, none⟩ = some (.string (S x.nm)) ∧ w1.cell? ⟨b, 1, none⟩ = some (.slice ax x.cols.length cx) ∧ w1.cell? ⟨b, 2, none⟩ = some (.int .i64 x.keys) ∧ w1.cell? ⟨b, 3, none⟩ = some (.string (S y.nm)) ∧ w1.cell? ⟨b, 4, none⟩ = some (.slice ay y.cols.length cy) ∧ w1.cell? ⟨b, 5, none⟩ = some (.int .i64 y.keys) ∧ w1.cell? ⟨b, 6, none⟩ = some (.string (S z.nm)) ∧ w1.cell? ⟨b, 7, none⟩ = some (.slice az z.cols.length cz) ∧ w1.cell? ⟨b, 8, none⟩ = some (.int .i64 z.keys) ∧ Below wb.heap.size wb w1 ∧ wb.heap.size ≤ w1.heap.size) (hb : Below w1.heap.size w1 w') : w'.cell? ⟨b, 0, none⟩ = some (.string (S x.nm)) ∧ w'.cell? ⟨b, 1, none⟩ = some (.slice ax x.cols.length cx) ∧ w'.cell? ⟨b, 2, none⟩ = some (.int .i64 x.keys) ∧ w'.cell? ⟨b, 3, none⟩ = some (.string (S y.nm)) ∧ w'.cell? ⟨b, 4, none⟩ = some (.slice ay y.cols.length cy) ∧ w'.cell? ⟨b, 5, none⟩ = some (.int .i64 y.keys) ∧ w'.cell? ⟨b, 6, none⟩ = some (.string (S z.nm)) ∧ w'.cell? ⟨b, 7, none⟩ = some (.slice az z.cols.length cz) ∧ w'.cell? ⟨b, 8, none⟩ = some (.int .i64 z.keys) ∧ Below wb.heap.size wb w' ∧ wb.heap.size ≤ w'.heap.size := by
  obtain ⟨c0, c1, c2, c3, c4, c5, c6, c7, c8, hB, hz⟩ := h
  exact ⟨cell_later hb c0, cell_later hb c1, cell_later hb c2, cell_later hb c3, cell_later hb c4, cell_later hb c5, cell_later hb c6, cell_later hb c7, cell_later hb c8, hB.trans (hb.mono hz), Nat.le_trans hz hb.size⟩
set_option maxHeartbeats 8000000 in
set_option maxRecDepth 100000 in
theorem skip_x (x y z : T) (ax ay az : Option Addr) (cx cy cz : Nat) (r : List V) (rl : Value) (hl : lightB x r = false) (nx : x.inn) (ny : y.inn) (nz : z.inn) (nr : r.length ≤ 9223372036854775807) (w : World) (hx : ColsAt x.cols (.slice ax x.cols.length cx) w) (hy : ColsAt y.cols (.slice ay y.cols.length cy) w) (hz : ColsAt z.cols (.slice az z.cols.length cz) w) (hr : RowC r rl w) : Calls Try.prog 7 #[.agg #[.string (S x.nm), .slice ax x.cols.length cx, .int .i64 x.keys, .string (S y.nm), .slice ay y.cols.length cy, .int .i64 y.keys, .string (S z.nm), .slice az z.cols.length cz, .int .i64 z.keys], rl] w fun e w' => e = .returned (.bool true) ∧ Below w.heap.size w w' := by
  have hlx := hidm hl
  clear hl
  have hb0 : Below w.heap.size w (w.alloc (.cells #[.string (S x.nm), .slice ax x.cols.length cx, .int .i64 x.keys, .string (S y.nm), .slice ay y.cols.length cy, .int .i64 y.keys, .string (S z.nm), .slice az z.cols.length cz, .int .i64 z.keys] 42)) := (Below.refl _ _).alloc (Nat.le_refl _) _
  have HK_0 := hidm (heap_alloc_new w (.cells #[.string (S x.nm), .slice ax x.cols.length cx, .int .i64 x.keys, .string (S y.nm), .slice ay y.cols.length cy, .int .i64 y.keys, .string (S z.nm), .slice az z.cols.length cz, .int .i64 z.keys] 42))
  have HX_0 := hidm (hx.later hb0)
  have HY_0 := hidm (hy.later hb0)
  have HZ_0 := hidm (hz.later hb0)
  have HR_0 := hidm (hr.later hb0)
  have HB_0 := hidm hb0
  have NX := hidm nx
  have NY := hidm ny
  have NZ := hidm nz
  have NR := hidm nr
  clear hb0 hx hy hz hr nx ny nz nr
  go_enter Try.func7, Try.ntmps7
  go_wp2_with fail
  refine (light_is hlx.out (.slice ax x.cols.length cx) rl NX.out.n NR.out _ HX_0.out HR_0.out.1).mono ?_
  rintro e w1 ⟨rfl, hb⟩
  have HK_1 := hidm (below_keeps hb HK_0.out)
  have HX_1 := hidm (HX_0.out.later hb)
  have HY_1 := hidm (HY_0.out.later hb)
  have HZ_1 := hidm (HZ_0.out.later hb)
  have HR_1 := hidm (HR_0.out.later hb)
  have HB_1 := hidm (HB_0.out.trans (hb.mono HB_0.out.size))
  clear hb
  go_wp2_with fail
  refine (known_any _).mono ?_
  rintro e wk ⟨rfl, hb⟩
  have HB_2 := hidm (HB_1.out.trans (hb.mono HB_1.out.size))
  clear hb
  go_wp2_with fail
  go_ret
  exact ⟨rfl, HB_2.out⟩
set_option maxHeartbeats 8000000 in
set_option maxRecDepth 100000 in
theorem skip_y (x y z : T) (ax ay az : Option Addr) (cx cy cz : Nat) (r : List V) (rl : Value) (hl : lightB x r = true) (hl2 : lightB y [] = false) (nx : x.inn) (ny : y.inn) (nz : z.inn) (nr : r.length ≤ 9223372036854775807) (w : World) (hx : ColsAt x.cols (.slice ax x.cols.length cx) w) (hy : ColsAt y.cols (.slice ay y.cols.length cy) w) (hz : ColsAt z.cols (.slice az z.cols.length cz) w) (hr : RowC r rl w) : Calls Try.prog 7 #[.agg #[.string (S x.nm), .slice ax x.cols.length cx, .int .i64 x.keys, .string (S y.nm), .slice ay y.cols.length cy, .int .i64 y.keys, .string (S z.nm), .slice az z.cols.length cz, .int .i64 z.keys], rl] w fun e w' => e = .returned (.bool true) ∧ Below w.heap.size w w' := by
  have hlx := hidm hl
  have hly := hidm hl2
  clear hl hl2
  have hb0 : Below w.heap.size w (w.alloc (.cells #[.string (S x.nm), .slice ax x.cols.length cx, .int .i64 x.keys, .string (S y.nm), .slice ay y.cols.length cy, .int .i64 y.keys, .string (S z.nm), .slice az z.cols.length cz, .int .i64 z.keys] 42)) := (Below.refl _ _).alloc (Nat.le_refl _) _
  have HK_0 := hidm (heap_alloc_new w (.cells #[.string (S x.nm), .slice ax x.cols.length cx, .int .i64 x.keys, .string (S y.nm), .slice ay y.cols.length cy, .int .i64 y.keys, .string (S z.nm), .slice az z.cols.length cz, .int .i64 z.keys] 42))
  have HX_0 := hidm (hx.later hb0)
  have HY_0 := hidm (hy.later hb0)
  have HZ_0 := hidm (hz.later hb0)
  have HR_0 := hidm (hr.later hb0)
  have HB_0 := hidm hb0
  have NX := hidm nx
  have NY := hidm ny
  have NZ := hidm nz
  have NR := hidm nr
  clear hb0 hx hy hz hr nx ny nz nr
  go_enter Try.func7, Try.ntmps7
  go_wp2_with fail
  refine (light_is hlx.out (.slice ax x.cols.length cx) rl NX.out.n NR.out _ HX_0.out HR_0.out.1).mono ?_
  rintro e w1 ⟨rfl, hb⟩
  have HK_1 := hidm (below_keeps hb HK_0.out)
  have HX_1 := hidm (HX_0.out.later hb)
  have HY_1 := hidm (HY_0.out.later hb)
  have HZ_1 := hidm (HZ_0.out.later hb)
  have HR_1 := hidm (HR_0.out.later hb)
  have HB_1 := hidm (HB_0.out.trans (hb.mono HB_0.out.size))
  clear hb
  obtain ⟨n0, n1, n2, n3, n4, n5, n6, n7, n8⟩ := nine HK_1.out
  go_wp2_with fail
  refine (light_is hly.out (.slice ay y.cols.length cy) (.slice none 0 0) NY.out.n (by simp) _ HY_1.out (row_nil _)).mono ?_
  rintro e w2 ⟨rfl, hb⟩
  have HK_2 := hidm (below_keeps hb HK_1.out)
  have HX_2 := hidm (HX_1.out.later hb)
  have HY_2 := hidm (HY_1.out.later hb)
  have HZ_2 := hidm (HZ_1.out.later hb)
  have HR_2 := hidm (HR_1.out.later hb)
  have HB_2 := hidm (HB_1.out.trans (hb.mono HB_1.out.size))
  clear hb
  go_wp2_with fail
  refine (known_any _).mono ?_
  rintro e wk ⟨rfl, hb⟩
  have HB_3 := hidm (HB_2.out.trans (hb.mono HB_2.out.size))
  clear hb
  go_wp2_with fail
  go_ret
  exact ⟨rfl, HB_3.out⟩
set_option maxHeartbeats 8000000 in
set_option maxRecDepth 100000 in
theorem skip_z (x y z : T) (ax ay az : Option Addr) (cx cy cz : Nat) (r : List V) (rl : Value) (hl : lightB x r = true) (hl2 : lightB y [] = true) (hl3 : lightB z [] = false) (nx : x.inn) (ny : y.inn) (nz : z.inn) (nr : r.length ≤ 9223372036854775807) (w : World) (hx : ColsAt x.cols (.slice ax x.cols.length cx) w) (hy : ColsAt y.cols (.slice ay y.cols.length cy) w) (hz : ColsAt z.cols (.slice az z.cols.length cz) w) (hr : RowC r rl w) : Calls Try.prog 7 #[.agg #[.string (S x.nm), .slice ax x.cols.length cx, .int .i64 x.keys, .string (S y.nm), .slice ay y.cols.length cy, .int .i64 y.keys, .string (S z.nm), .slice az z.cols.length cz, .int .i64 z.keys], rl] w fun e w' => e = .returned (.bool true) ∧ Below w.heap.size w w' := by
  have hlx := hidm hl
  have hly := hidm hl2
  have hlz := hidm hl3
  clear hl hl2 hl3
  have hb0 : Below w.heap.size w (w.alloc (.cells #[.string (S x.nm), .slice ax x.cols.length cx, .int .i64 x.keys, .string (S y.nm), .slice ay y.cols.length cy, .int .i64 y.keys, .string (S z.nm), .slice az z.cols.length cz, .int .i64 z.keys] 42)) := (Below.refl _ _).alloc (Nat.le_refl _) _
  have HK_0 := hidm (heap_alloc_new w (.cells #[.string (S x.nm), .slice ax x.cols.length cx, .int .i64 x.keys, .string (S y.nm), .slice ay y.cols.length cy, .int .i64 y.keys, .string (S z.nm), .slice az z.cols.length cz, .int .i64 z.keys] 42))
  have HX_0 := hidm (hx.later hb0)
  have HY_0 := hidm (hy.later hb0)
  have HZ_0 := hidm (hz.later hb0)
  have HR_0 := hidm (hr.later hb0)
  have HB_0 := hidm hb0
  have NX := hidm nx
  have NY := hidm ny
  have NZ := hidm nz
  have NR := hidm nr
  clear hb0 hx hy hz hr nx ny nz nr
  go_enter Try.func7, Try.ntmps7
  go_wp2_with fail
  refine (light_is hlx.out (.slice ax x.cols.length cx) rl NX.out.n NR.out _ HX_0.out HR_0.out.1).mono ?_
  rintro e w1 ⟨rfl, hb⟩
  have HK_1 := hidm (below_keeps hb HK_0.out)
  have HX_1 := hidm (HX_0.out.later hb)
  have HY_1 := hidm (HY_0.out.later hb)
  have HZ_1 := hidm (HZ_0.out.later hb)
  have HR_1 := hidm (HR_0.out.later hb)
  have HB_1 := hidm (HB_0.out.trans (hb.mono HB_0.out.size))
  clear hb
  obtain ⟨n0, n1, n2, n3, n4, n5, n6, n7, n8⟩ := nine HK_1.out
  go_wp2_with fail
  refine (light_is hly.out (.slice ay y.cols.length cy) (.slice none 0 0) NY.out.n (by simp) _ HY_1.out (row_nil _)).mono ?_
  rintro e w2 ⟨rfl, hb⟩
  have HK_2 := hidm (below_keeps hb HK_1.out)
  have HX_2 := hidm (HX_1.out.later hb)
  have HY_2 := hidm (HY_1.out.later hb)
  have HZ_2 := hidm (HZ_1.out.later hb)
  have HR_2 := hidm (HR_1.out.later hb)
  have HB_2 := hidm (HB_1.out.trans (hb.mono HB_1.out.size))
  clear hb n0 n1 n2 n3 n4 n5 n6 n7 n8
  obtain ⟨n0, n1, n2, n3, n4, n5, n6, n7, n8⟩ := nine HK_2.out
  go_wp2_with fail
  refine (light_is hlz.out (.slice az z.cols.length cz) (.slice none 0 0) NZ.out.n (by simp) _ HZ_2.out (row_nil _)).mono ?_
  rintro e w3 ⟨rfl, hb⟩
  have HK_3 := hidm (below_keeps hb HK_2.out)
  have HX_3 := hidm (HX_2.out.later hb)
  have HY_3 := hidm (HY_2.out.later hb)
  have HZ_3 := hidm (HZ_2.out.later hb)
  have HR_3 := hidm (HR_2.out.later hb)
  have HB_3 := hidm (HB_2.out.trans (hb.mono HB_2.out.size))
  clear hb
  go_wp2_with fail
  refine (known_any _).mono ?_
  rintro e wk ⟨rfl, hb⟩
  have HB_4 := hidm (HB_3.out.trans (hb.mono HB_3.out.size))
  clear hb
  go_wp2_with fail
  go_ret
  exact ⟨rfl, HB_4.out⟩
theorem key_short (x : T) (r : List V) (h : r.length ≤ 1000000) : (keyB x r).length ≤ 1000000 := by
  unfold keyB; split
  · rw [List.length_take]; omega
  · simp
theorem wide_row {y : T} {r : List V} {wo : Option Addr} {wn wc : Nat} {w : World} (h : wn = (wideB y r).length) (hr : r.length ≤ wn) (g : RowC (wideB y r) (.slice wo wn wc) w) : RowC r (.slice wo r.length wc) w := by
  subst h
  have q := g.take r.length hr
  rw [wide_take] at q
  exact q
set_option maxHeartbeats 8000000 in
set_option maxRecDepth 100000 in
theorem main_any (x y z : T) (ax ay az : Option Addr) (cx cy cz : Nat) (r : List V) (rl : Value) (hl : lightB x r = true) (hl2 : lightB y [] = true) (hl3 : lightB z [] = true) (nx : x.inn) (ny : y.inn) (nz : z.inn) (nr : r.length ≤ 9223372036854775807) (w : World) (hx : ColsAt x.cols (.slice ax x.cols.length cx) w) (hy : ColsAt y.cols (.slice ay y.cols.length cy) w) (hz : ColsAt z.cols (.slice az z.cols.length cz) w) (hr : RowC r rl w) : Calls Try.prog 7 #[.agg #[.string (S x.nm), .slice ax x.cols.length cx, .int .i64 x.keys, .string (S y.nm), .slice ay y.cols.length cy, .int .i64 y.keys, .string (S z.nm), .slice az z.cols.length cz, .int .i64 z.keys], rl] w fun e w' => e = .returned (.bool true) ∧ Below w.heap.size w w' := by
  have hlx := hidm hl
  have hly := hidm hl2
  have hlz := hidm hl3
  have LMX := hidm (lim_of hl)
  have LMY := hidm (lim_of hl2)
  have LMZ := hidm (lim_of hl3)
  have HRN := hidm (show r.length ≤ 1000000 from by have := (light_parts hl).2.2.1; omega)
  have HRS := hidm (show ∀ v ∈ r, v.s.length ≤ 281474976710656 from fun v hv => by have := (light_parts hl).2.2.2.2 v hv; omega)
  obtain ⟨rx, hrx⟩ : ∃ b, rightB x = b := ⟨_, rfl⟩
  have HRX := hidm hrx
  have HSX := hidm (show extB x x = rx from by rw [ext_self, hrx])
  obtain ⟨exy, hexy⟩ : ∃ b, extB x y = b := ⟨_, rfl⟩
  have HXY := hidm hexy
  obtain ⟨eyz, heyz⟩ : ∃ b, extB y z = b := ⟨_, rfl⟩
  have HYZ := hidm heyz
  obtain ⟨ro, rc, hrl, _, _⟩ := hr.2
  subst hrl
  clear hl hl2 hl3 hrx
  have hb0 : Below w.heap.size w (w.alloc (.cells #[.string (S x.nm), .slice ax x.cols.length cx, .int .i64 x.keys, .string (S y.nm), .slice ay y.cols.length cy, .int .i64 y.keys, .string (S z.nm), .slice az z.cols.length cz, .int .i64 z.keys] 42)) := (Below.refl _ _).alloc (Nat.le_refl _) _
  have HK_0 := hidm (heap_alloc_new w (.cells #[.string (S x.nm), .slice ax x.cols.length cx, .int .i64 x.keys, .string (S y.nm), .slice ay y.cols.length cy, .int .i64 y.keys, .string (S z.nm), .slice az z.cols.length cz, .int .i64 z.keys] 42))
  have HX_0 := hidm (hx.later hb0)
  have HY_0 := hidm (hy.later hb0)
  have HZ_0 := hidm (hz.later hb0)
  have HR_0 := hidm (hr.later hb0)
  have HB_0 := hidm hb0
  have NX := hidm nx
  have NY := hidm ny
  have NZ := hidm nz
  have NR := hidm nr
  clear hexy heyz
  clear hb0 hx hy hz hr nx ny nz nr
  go_enter Try.func7, Try.ntmps7
  go_wp2_with fail
  refine (light_is hlx.out (.slice ax x.cols.length cx) (.slice ro r.length rc) NX.out.n NR.out _ HX_0.out HR_0.out.1).mono ?_
  rintro e w1 ⟨rfl, hb⟩
  have HK_1 := hidm (below_keeps hb HK_0.out)
  have HX_1 := hidm (HX_0.out.later hb)
  have HY_1 := hidm (HY_0.out.later hb)
  have HZ_1 := hidm (HZ_0.out.later hb)
  have HR_1 := hidm (HR_0.out.later hb)
  have HB_1 := hidm (HB_0.out.trans (hb.mono HB_0.out.size))
  clear hb
  obtain ⟨n0, n1, n2, n3, n4, n5, n6, n7, n8⟩ := nine HK_1.out
  go_wp2_with fail
  refine (light_is hly.out (.slice ay y.cols.length cy) (.slice none 0 0) NY.out.n (by simp) _ HY_1.out (row_nil _)).mono ?_
  rintro e w2 ⟨rfl, hb⟩
  have HK_2 := hidm (below_keeps hb HK_1.out)
  have HX_2 := hidm (HX_1.out.later hb)
  have HY_2 := hidm (HY_1.out.later hb)
  have HZ_2 := hidm (HZ_1.out.later hb)
  have HR_2 := hidm (HR_1.out.later hb)
  have HB_2 := hidm (HB_1.out.trans (hb.mono HB_1.out.size))
  clear hb n0 n1 n2 n3 n4 n5 n6 n7 n8
  obtain ⟨n0, n1, n2, n3, n4, n5, n6, n7, n8⟩ := nine HK_2.out
  go_wp2_with fail
  refine (light_is hlz.out (.slice az z.cols.length cz) (.slice none 0 0) NZ.out.n (by simp) _ HZ_2.out (row_nil _)).mono ?_
  rintro e w3 ⟨rfl, hb⟩
  have HK_3 := hidm (below_keeps hb HK_2.out)
  have HX_3 := hidm (HX_2.out.later hb)
  have HY_3 := hidm (HY_2.out.later hb)
  have HZ_3 := hidm (HZ_2.out.later hb)
  have HR_3 := hidm (HR_2.out.later hb)
  have HB_3 := hidm (HB_2.out.trans (hb.mono HB_2.out.size))
  clear hb n0 n1 n2 n3 n4 n5 n6 n7 n8
  obtain ⟨n0, n1, n2, n3, n4, n5, n6, n7, n8⟩ := nine HK_3.out
  have SS0 := hidm (show w3.cell? ⟨w.heap.size, 0, none⟩ = some (.string (S x.nm)) ∧ w3.cell? ⟨w.heap.size, 1, none⟩ = some (.slice ax x.cols.length cx) ∧ w3.cell? ⟨w.heap.size, 2, none⟩ = some (.int .i64 x.keys) ∧ w3.cell? ⟨w.heap.size, 3, none⟩ = some (.string (S y.nm)) ∧ w3.cell? ⟨w.heap.size, 4, none⟩ = some (.slice ay y.cols.length cy) ∧ w3.cell? ⟨w.heap.size, 5, none⟩ = some (.int .i64 y.keys) ∧ w3.cell? ⟨w.heap.size, 6, none⟩ = some (.string (S z.nm)) ∧ w3.cell? ⟨w.heap.size, 7, none⟩ = some (.slice az z.cols.length cz) ∧ w3.cell? ⟨w.heap.size, 8, none⟩ = some (.int .i64 z.keys) ∧ Below w3.heap.size w3 w3 ∧ w3.heap.size ≤ w3.heap.size from ⟨n0, n1, n2, n3, n4, n5, n6, n7, n8, Below.refl _ _, Nat.le_refl _⟩)
  clear n0 n1 n2 n3 n4 n5 n6 n7 n8
  go_wp2_with fail
  refine wp_region_held_drew (S := fun u => u.cell? ⟨w.heap.size, 0, none⟩ = some (.string (S x.nm)) ∧ u.cell? ⟨w.heap.size, 1, none⟩ = some (.slice ax x.cols.length cx) ∧ u.cell? ⟨w.heap.size, 2, none⟩ = some (.int .i64 x.keys) ∧ u.cell? ⟨w.heap.size, 3, none⟩ = some (.string (S y.nm)) ∧ u.cell? ⟨w.heap.size, 4, none⟩ = some (.slice ay y.cols.length cy) ∧ u.cell? ⟨w.heap.size, 5, none⟩ = some (.int .i64 y.keys) ∧ u.cell? ⟨w.heap.size, 6, none⟩ = some (.string (S z.nm)) ∧ u.cell? ⟨w.heap.size, 7, none⟩ = some (.slice az z.cols.length cz) ∧ u.cell? ⟨w.heap.size, 8, none⟩ = some (.int .i64 z.keys) ∧ Below w3.heap.size w3 u ∧ w3.heap.size ≤ u.heap.size) (by kernel_rfl) ?_ (fun hHeld => ?_)
  · exact g_step SS0.out ((Below.refl _ _).drew)
  refine Man.take1 (i := 0) (v := ?_) rfl (by kernel_rfl) (by kernel_rfl) (by kernel_rfl) (fun _ _ _ h => h) (by rfl) ?_ (by assumption) ?_
  rotate_left
  · (intro u hSu; (try dsimp only at hSu); go_simp; (try with_reducible rfl))
  (try simp only [Act.put, List.setIfInBounds_toArray, List.set_cons_zero, List.set_cons_succ])
  refine Man.take1 (i := 1) (v := ?_) rfl (by kernel_rfl) (by kernel_rfl) (by kernel_rfl) (fun _ _ _ h => h) (by rfl) ?_ (by assumption) ?_
  rotate_left
  · (intro u hSu; (try dsimp only at hSu); go_simp; (try with_reducible rfl))
  (try simp only [Act.put, List.setIfInBounds_toArray, List.set_cons_zero, List.set_cons_succ])
  refine Man.take1 (i := 3) (v := ?_) rfl (by kernel_rfl) (by kernel_rfl) (by kernel_rfl) (fun _ _ _ h => h) (by rfl) ?_ (by assumption) ?_
  rotate_left
  · (intro u hSu; (try dsimp only at hSu); go_simp; (try with_reducible rfl))
  (try simp only [Act.put, List.setIfInBounds_toArray, List.set_cons_zero, List.set_cons_succ])
  refine Man.take1 (i := 4) (v := ?_) rfl (by kernel_rfl) (by kernel_rfl) (by kernel_rfl) (fun _ _ _ h => h) (by rfl) ?_ (by assumption) ?_
  rotate_left
  · (intro u hSu; (try dsimp only at hSu); go_simp; (try with_reducible rfl))
  (try simp only [Act.put, List.setIfInBounds_toArray, List.set_cons_zero, List.set_cons_succ])
  refine Man.take1 (i := 5) (v := ?_) rfl (by kernel_rfl) (by kernel_rfl) (by kernel_rfl) (fun _ _ _ h => h) (by rfl) ?_ (by assumption) ?_
  rotate_left
  · (intro u hSu; (try dsimp only at hSu); go_simp; (try with_reducible rfl))
  (try simp only [Act.put, List.setIfInBounds_toArray, List.set_cons_zero, List.set_cons_succ])
  refine Man.take1 (i := 6) (v := ?_) rfl (by kernel_rfl) (by kernel_rfl) (by kernel_rfl) (fun _ _ _ h => h) (by rfl) ?_ (by assumption) ?_
  rotate_left
  · (intro u hSu; (try dsimp only at hSu); go_simp; (try with_reducible rfl))
  (try simp only [Act.put, List.setIfInBounds_toArray, List.set_cons_zero, List.set_cons_succ])
  refine Man.one (i := 2) rfl (by kernel_rfl) (fun K hK => ?_)
  go_simp
  (go_at_call 11; (with_reducible refine (right_is HRX.out LMX.out _ _ (HX_3.out.later hHeld.2.2.2.2.2.2.2.2.2.1)).mono ?_); rintro e w' ⟨rfl, hb⟩)
  refine hK.out _ _ ?_ (fun hNew => ?_)
  · exact g_step hHeld hb
  clear hHeld hK K hb
  have hHeld := hNew
  clear hNew
  (try simp only [Act.put, List.setIfInBounds_toArray, List.set_cons_zero, List.set_cons_succ])
  refine Man.one (i := 7) rfl (by kernel_rfl) (fun K hK => ?_)
  go_simp
  (go_at_call 15; (with_reducible refine (ext_is HSX.out LMX.out LMX.out _ _ _ (HX_3.out.later hHeld.2.2.2.2.2.2.2.2.2.1) (HX_3.out.later hHeld.2.2.2.2.2.2.2.2.2.1)).mono ?_); rintro e w' ⟨rfl, hb⟩)
  refine hK.out _ _ ?_ (fun hNew => ?_)
  · exact g_step hHeld hb
  clear hHeld hK K hb
  have hHeld := hNew
  clear hNew
  (try simp only [Act.put, List.setIfInBounds_toArray, List.set_cons_zero, List.set_cons_succ])
  refine Man.take1 (i := 8) (v := ?_) rfl (by kernel_rfl) (by kernel_rfl) (by kernel_rfl) (fun _ _ _ h => h) (by rfl) ?_ (by assumption) ?_
  rotate_left
  · (intro u hSu; (try dsimp only at hSu); go_simp; (try with_reducible rfl))
  (try simp only [Act.put, List.setIfInBounds_toArray, List.set_cons_zero, List.set_cons_succ])
  refine wpAnyH_done (by kernel_rfl) ?_ _
  obtain ⟨n0, n1, n2, n3, n4, n5, n6, n7, n8, hqb, hqz⟩ := hHeld
  have HK_4 := hidm (below_keeps hqb HK_3.out)
  have HX_4 := hidm (HX_3.out.later hqb)
  have HY_4 := hidm (HY_3.out.later hqb)
  have HZ_4 := hidm (HZ_3.out.later hqb)
  have HR_4 := hidm (HR_3.out.later hqb)
  have HB_4 := hidm (HB_3.out.trans (hqb.mono HB_3.out.size))
  clear hqb hqz SS0
  have frx : (rx != rx) = false := by simp
  go_wp2_with fail
  rcases exy with _ | _
  · refine (ext_is HXY.out LMX.out LMY.out _ _ _ HX_4.out HY_4.out).mono ?_
    rintro e w5 ⟨rfl, hb⟩
    have HK_5 := hidm (below_keeps hb HK_4.out)
    have HX_5 := hidm (HX_4.out.later hb)
    have HY_5 := hidm (HY_4.out.later hb)
    have HZ_5 := hidm (HZ_4.out.later hb)
    have HR_5 := hidm (HR_4.out.later hb)
    have HB_5 := hidm (HB_4.out.trans (hb.mono HB_4.out.size))
    clear hb n0 n1 n2 n3 n4 n5 n6 n7 n8
    go_wp2_with fail
    refine (known_any _).mono ?_
    rintro e wk ⟨rfl, hb⟩
    have HB_6 := hidm (HB_5.out.trans (hb.mono HB_5.out.size))
    clear hb
    go_wp2_with fail
    go_ret
    exact ⟨rfl, HB_6.out⟩
  · refine (ext_is HXY.out LMX.out LMY.out _ _ _ HX_4.out HY_4.out).mono ?_
    rintro e w5 ⟨rfl, hb⟩
    have HK_5 := hidm (below_keeps hb HK_4.out)
    have HX_5 := hidm (HX_4.out.later hb)
    have HY_5 := hidm (HY_4.out.later hb)
    have HZ_5 := hidm (HZ_4.out.later hb)
    have HR_5 := hidm (HR_4.out.later hb)
    have HB_5 := hidm (HB_4.out.trans (hb.mono HB_4.out.size))
    clear hb n0 n1 n2 n3 n4 n5 n6 n7 n8
    obtain ⟨n0, n1, n2, n3, n4, n5, n6, n7, n8⟩ := nine HK_5.out
    go_wp2_with fail
    rcases eyz with _ | _
    · refine (ext_is HYZ.out LMY.out LMZ.out _ _ _ HY_5.out HZ_5.out).mono ?_
      rintro e w6 ⟨rfl, hb⟩
      have HK_6 := hidm (below_keeps hb HK_5.out)
      have HX_6 := hidm (HX_5.out.later hb)
      have HY_6 := hidm (HY_5.out.later hb)
      have HZ_6 := hidm (HZ_5.out.later hb)
      have HR_6 := hidm (HR_5.out.later hb)
      have HB_6 := hidm (HB_5.out.trans (hb.mono HB_5.out.size))
      clear hb n0 n1 n2 n3 n4 n5 n6 n7 n8
      obtain ⟨n0, n1, n2, n3, n4, n5, n6, n7, n8⟩ := nine HK_6.out
      go_wp2_with fail
      refine (widen_any y LMY.out (.slice ay y.cols.length cy) r (.slice ro r.length rc) HRN.out HRS.out _ HY_6.out HR_6.out).mono ?_
      rintro e wv ⟨v, rfl, hv, hb⟩
      have HK_20 := hidm (below_keeps hb HK_6.out)
      have HX_20 := hidm (HX_6.out.later hb)
      have HY_20 := hidm (HY_6.out.later hb)
      have HZ_20 := hidm (HZ_6.out.later hb)
      have HR_20 := hidm (HR_6.out.later hb)
      have HB_20 := hidm (HB_6.out.trans (hb.mono HB_6.out.size))
      have HV_20 := hidm hv
      obtain ⟨wo, wc, hv2, _⟩ := hv.2
      obtain ⟨wn, hwn⟩ : ∃ n, n = (widenB y r).1.length := ⟨_, rfl⟩
      rw [← hwn] at hv2
      subst hv2
      have HWN := hidm hwn
      obtain ⟨x6, hx6⟩ : ∃ q, q = (widenB y r).2 := ⟨_, rfl⟩
      rw [← hx6]
      have HX6 := hidm hx6
      clear hb hv hwn hx6 n0 n1 n2 n3 n4 n5 n6 n7 n8
      obtain ⟨n0, n1, n2, n3, n4, n5, n6, n7, n8⟩ := nine HK_20.out
      go_wp2_with fail
      by_cases hf : fitsB x r = 0
      · have HF := hidm hf
        have hwd := grow_widen HXY.out hf
        have HFW := hidm (grow_fits HXY.out hf)
        have HKK := hidm (grow_key HXY.out hf)
        have hx60 : x6 = 0 := by rw [HX6.out, hwd]
        subst hx60
        have HVW_20 := hidm (show RowC (wideB y r) (.slice wo wn wc) wv from by have h := HV_20.out; rw [hwd] at h; exact h)
        have HWL := hidm (show wn = (wideB y r).length from by rw [HWN.out, hwd])
        have HWR := hidm (show r.length ≤ wn ∧ wn ≤ 1000000 from by
          rw [HWL.out]
          have h1 := (ext_iff _ _).1 HXY.out
          have h2 := (fits_parts hf).2.1
          have h3 := h1.le
          have h4 := LMY.out.n
          unfold wideB; rw [List.length_append, List.length_replicate]; omega)
        have HWS := hidm (show ∀ v ∈ wideB y r, v.s.length ≤ 281474976710656 from fun v hv => by
          unfold wideB at hv
          rcases List.mem_append.1 hv with h | h
          · exact HRS.out v h
          · rw [(List.mem_replicate.1 h).2]; simp [nullV])
        have HWN2 := hidm (show (wideB y r).length ≤ 1000000 from by rw [← HWL.out]; exact HWR.out.2)
        have hwc : r.length ≤ wc := by
          obtain ⟨_, _, h1, h2, _⟩ := HVW_20.out.2
          simp only [Value.slice.injEq] at h1
          have := HWR.out.1
          omega
        clear hf hwd
        refine (fits_is HF.out LMX.out (.slice ax x.cols.length cx) (.slice ro r.length rc) HRN.out _ HX_20.out HR_20.out.1).mono ?_
        rintro e w21 ⟨rfl, hb⟩
        have HK_21 := hidm (below_keeps hb HK_20.out)
        have HX_21 := hidm (HX_20.out.later hb)
        have HY_21 := hidm (HY_20.out.later hb)
        have HZ_21 := hidm (HZ_20.out.later hb)
        have HR_21 := hidm (HR_20.out.later hb)
        have HB_21 := hidm (HB_20.out.trans (hb.mono HB_20.out.size))
        have HVW_21 := hidm (HVW_20.out.later hb)
        clear hb n0 n1 n2 n3 n4 n5 n6 n7 n8
        obtain ⟨n0, n1, n2, n3, n4, n5, n6, n7, n8⟩ := nine HK_21.out
        have SS0 := hidm (show w21.cell? ⟨w.heap.size, 0, none⟩ = some (.string (S x.nm)) ∧ w21.cell? ⟨w.heap.size, 1, none⟩ = some (.slice ax x.cols.length cx) ∧ w21.cell? ⟨w.heap.size, 2, none⟩ = some (.int .i64 x.keys) ∧ w21.cell? ⟨w.heap.size, 3, none⟩ = some (.string (S y.nm)) ∧ w21.cell? ⟨w.heap.size, 4, none⟩ = some (.slice ay y.cols.length cy) ∧ w21.cell? ⟨w.heap.size, 5, none⟩ = some (.int .i64 y.keys) ∧ w21.cell? ⟨w.heap.size, 6, none⟩ = some (.string (S z.nm)) ∧ w21.cell? ⟨w.heap.size, 7, none⟩ = some (.slice az z.cols.length cz) ∧ w21.cell? ⟨w.heap.size, 8, none⟩ = some (.int .i64 z.keys) ∧ Below w21.heap.size w21 w21 ∧ w21.heap.size ≤ w21.heap.size from ⟨n0, n1, n2, n3, n4, n5, n6, n7, n8, Below.refl _ _, Nat.le_refl _⟩)
        clear n0 n1 n2 n3 n4 n5 n6 n7 n8
        go_wp2_with fail
        refine wp_region_held_drew (S := fun u => u.cell? ⟨w.heap.size, 0, none⟩ = some (.string (S x.nm)) ∧ u.cell? ⟨w.heap.size, 1, none⟩ = some (.slice ax x.cols.length cx) ∧ u.cell? ⟨w.heap.size, 2, none⟩ = some (.int .i64 x.keys) ∧ u.cell? ⟨w.heap.size, 3, none⟩ = some (.string (S y.nm)) ∧ u.cell? ⟨w.heap.size, 4, none⟩ = some (.slice ay y.cols.length cy) ∧ u.cell? ⟨w.heap.size, 5, none⟩ = some (.int .i64 y.keys) ∧ u.cell? ⟨w.heap.size, 6, none⟩ = some (.string (S z.nm)) ∧ u.cell? ⟨w.heap.size, 7, none⟩ = some (.slice az z.cols.length cz) ∧ u.cell? ⟨w.heap.size, 8, none⟩ = some (.int .i64 z.keys) ∧ Below w21.heap.size w21 u ∧ w21.heap.size ≤ u.heap.size) (by kernel_rfl) ?_ (fun hHeld => ?_)
        · exact g_step SS0.out ((Below.refl _ _).drew)
        refine Man.take1 (i := 0) (v := ?_) rfl (by kernel_rfl) (by kernel_rfl) (by kernel_rfl) (fun _ _ _ h => h) (by rfl) ?_ (by assumption) ?_
        rotate_left
        · (intro u hSu; (try dsimp only at hSu); go_simp; (try with_reducible rfl))
        (try simp only [Act.put, List.setIfInBounds_toArray, List.set_cons_zero, List.set_cons_succ])
        refine Man.take1 (i := 1) (v := ?_) rfl (by kernel_rfl) (by kernel_rfl) (by kernel_rfl) (fun _ _ _ h => h) (by rfl) ?_ (by assumption) ?_
        rotate_left
        · (intro u hSu; (try dsimp only at hSu); go_simp; (try with_reducible rfl))
        (try simp only [Act.put, List.setIfInBounds_toArray, List.set_cons_zero, List.set_cons_succ])
        refine Man.take1 (i := 2) (v := ?_) rfl (by kernel_rfl) (by kernel_rfl) (by kernel_rfl) (fun _ _ _ h => h) (by rfl) ?_ (by assumption) ?_
        rotate_left
        · (intro u hSu; (try dsimp only at hSu); go_simp; (try with_reducible rfl))
        (try simp only [Act.put, List.setIfInBounds_toArray, List.set_cons_zero, List.set_cons_succ])
        refine Man.take1 (i := 3) (v := ?_) rfl (by kernel_rfl) (by kernel_rfl) (by kernel_rfl) (fun _ _ _ h => h) (by rfl) ?_ (by assumption) ?_
        rotate_left
        · (intro u hSu; (try dsimp only at hSu); go_simp; (try with_reducible rfl))
        (try simp only [Act.put, List.setIfInBounds_toArray, List.set_cons_zero, List.set_cons_succ])
        refine Man.take1 (i := 4) (v := ?_) rfl (by kernel_rfl) (by kernel_rfl) (by kernel_rfl) (fun _ _ _ h => h) (by rfl) ?_ (by assumption) ?_
        rotate_left
        · (intro u hSu; (try dsimp only at hSu); go_simp; (try with_reducible rfl))
        (try simp only [Act.put, List.setIfInBounds_toArray, List.set_cons_zero, List.set_cons_succ])
        refine Man.take1 (i := 5) (v := ?_) rfl (by kernel_rfl) (by kernel_rfl) (by kernel_rfl) (fun _ _ _ h => h) (by rfl) ?_ (by assumption) ?_
        rotate_left
        · (intro u hSu; (try dsimp only at hSu); go_simp; (try with_reducible rfl))
        (try simp only [Act.put, List.setIfInBounds_toArray, List.set_cons_zero, List.set_cons_succ])
        refine Man.one (i := 6) rfl (by kernel_rfl) (fun K hK => ?_)
        go_simp
        (go_at_call 23; (with_reducible refine (fits_is HFW.out LMY.out _ _ HWN2.out _ (HY_21.out.later hHeld.2.2.2.2.2.2.2.2.2.1) (RowC.row (HVW_21.out.later hHeld.2.2.2.2.2.2.2.2.2.1))).mono ?_); rintro e w' ⟨rfl, hb⟩)
        refine hK.out _ _ ?_ (fun hNew => ?_)
        · exact g_step hHeld hb
        clear hHeld hK K hb
        have hHeld := hNew
        clear hNew
        (try simp only [Act.put, List.setIfInBounds_toArray, List.set_cons_zero, List.set_cons_succ])
        refine Man.take1 (i := 7) (v := ?_) rfl (by kernel_rfl) (by kernel_rfl) (by kernel_rfl) (fun _ _ _ h => h) (by rfl) ?_ (by assumption) ?_
        rotate_left
        · (intro u hSu; (try dsimp only at hSu); go_simp; (try with_reducible rfl))
        (try simp only [Act.put, List.setIfInBounds_toArray, List.set_cons_zero, List.set_cons_succ])
        refine Man.take1 (i := 8) (v := ?_) rfl (by kernel_rfl) (by kernel_rfl) (by kernel_rfl) (fun _ _ _ h => h) (by rfl) ?_ (by assumption) ?_
        rotate_left
        · (intro u hSu; (try dsimp only at hSu); go_simp; (try with_reducible rfl))
        (try simp only [Act.put, List.setIfInBounds_toArray, List.set_cons_zero, List.set_cons_succ])
        refine Man.take1 (i := 9) (v := ?_) rfl (by kernel_rfl) (by kernel_rfl) (by kernel_rfl) (fun _ _ _ h => h) (by rfl) ?_ (by assumption) ?_
        rotate_left
        · (intro u hSu; (try dsimp only at hSu); go_simp; (try with_reducible rfl))
        (try simp only [Act.put, List.setIfInBounds_toArray, List.set_cons_zero, List.set_cons_succ])
        refine Man.take1 (i := 10) (v := ?_) rfl (by kernel_rfl) (by kernel_rfl) (by kernel_rfl) (fun _ _ _ h => h) (by rfl) ?_ (by assumption) ?_
        rotate_left
        · (intro u hSu; (try dsimp only at hSu); go_simp; (try with_reducible rfl))
        (try simp only [Act.put, List.setIfInBounds_toArray, List.set_cons_zero, List.set_cons_succ])
        refine Man.take1 (i := 11) (v := ?_) rfl (by kernel_rfl) (by kernel_rfl) (by kernel_rfl) (fun _ _ _ h => h) (by rfl) ?_ (by assumption) ?_
        rotate_left
        · (intro u hSu; (try dsimp only at hSu); go_simp; (try with_reducible rfl))
        (try simp only [Act.put, List.setIfInBounds_toArray, List.set_cons_zero, List.set_cons_succ])
        refine Man.take1 (i := 12) (v := ?_) rfl (by kernel_rfl) (by kernel_rfl) (by kernel_rfl) (fun _ _ _ h => h) (by rfl) ?_ (by assumption) ?_
        rotate_left
        · (intro u hSu; (try dsimp only at hSu); go_simp; (try with_reducible rfl))
        (try simp only [Act.put, List.setIfInBounds_toArray, List.set_cons_zero, List.set_cons_succ])
        refine Man.take1 (i := 14) (v := ?_) rfl (by kernel_rfl) (by kernel_rfl) (by kernel_rfl) (fun _ _ _ h => h) (by rfl) ?_ (by assumption) ?_
        rotate_left
        · (intro u hSu; (try dsimp only at hSu); go_simp; (try with_reducible rfl))
        (try simp only [Act.put, List.setIfInBounds_toArray, List.set_cons_zero, List.set_cons_succ])
        refine Man.take1 (i := 15) (v := ?_) rfl (by kernel_rfl) (by kernel_rfl) (by kernel_rfl) (fun _ _ _ h => h) (by rfl) ?_ (by assumption) ?_
        rotate_left
        · (intro u hSu; (try dsimp only at hSu); go_simp; (try with_reducible rfl))
        (try simp only [Act.put, List.setIfInBounds_toArray, List.set_cons_zero, List.set_cons_succ])
        refine Man.take1 (i := 16) (v := ?_) rfl (by kernel_rfl) (by kernel_rfl) (by kernel_rfl) (fun _ _ _ h => h) (by rfl) ?_ (by assumption) ?_
        rotate_left
        · (intro u hSu; (try dsimp only at hSu); go_simp; (try with_reducible rfl))
        (try simp only [Act.put, List.setIfInBounds_toArray, List.set_cons_zero, List.set_cons_succ])
        refine Man.one (i := 13) rfl (by kernel_rfl) (fun K hK => ?_)
        go_simp
        (go_at_call 26; (refine (key_any x LMX.out (.slice ax x.cols.length cx) r (.slice ro r.length rc) HRN.out HRS.out _ (HX_21.out.later hHeld.2.2.2.2.2.2.2.2.2.1) (HR_21.out.later hHeld.2.2.2.2.2.2.2.2.2.1)).mono ?_); rintro e w' ⟨vk, rfl, hvk, hb⟩; have HVK := hidm hvk; clear hvk)
        refine hK.out _ _ ?_ (fun hNew => ?_)
        · exact g_step hHeld hb
        clear hHeld hK K hb
        have hHeld := hNew
        clear hNew
        (try simp only [Act.put, List.setIfInBounds_toArray, List.set_cons_zero, List.set_cons_succ])
        refine Man.one (i := 17) rfl (by kernel_rfl) (fun K hK => ?_)
        go_simp
        (go_at_call 26; (refine (key_any y LMY.out (.slice ay y.cols.length cy) (wideB y r) (.slice wo wn wc) HWN2.out HWS.out _ (HY_21.out.later hHeld.2.2.2.2.2.2.2.2.2.1) (HVW_21.out.later hHeld.2.2.2.2.2.2.2.2.2.1)).mono ?_); rintro e w' ⟨vk2, rfl, hvk2, hb⟩; rw [HKK.out] at hvk2; have HVK1 := hidm (HVK.out.later hb); have HVK2 := hidm hvk2; clear hvk2)
        refine hK.out _ _ ?_ (fun hNew => ?_)
        · exact g_step hHeld hb
        clear hHeld hK K hb
        have hHeld := hNew
        clear hNew
        (try simp only [Act.put, List.setIfInBounds_toArray, List.set_cons_zero, List.set_cons_succ])
        refine Man.one (i := 18) rfl (by kernel_rfl) (fun K hK => ?_)
        go_simp
        (go_at_call 25; (with_reducible refine (rows_same (keyB x r) _ _ (key_short x r HRN.out) _ HVK1.out.row HVK2.out.row).mono ?_); rintro e w' ⟨rfl, hb⟩)
        refine hK.out _ _ ?_ (fun hNew => ?_)
        · exact g_step hHeld hb
        clear hHeld hK K hb
        have hHeld := hNew
        clear hNew
        (try simp only [Act.put, List.setIfInBounds_toArray, List.set_cons_zero, List.set_cons_succ])
        refine Man.take1 (i := 19) (v := ?_) rfl (by kernel_rfl) (by kernel_rfl) (by kernel_rfl) (fun _ _ _ h => h) (by rfl) ?_ (by assumption) ?_
        rotate_left
        · (intro u hSu; (try dsimp only at hSu); go_simp; (try with_reducible rfl))
        (try simp only [Act.put, List.setIfInBounds_toArray, List.set_cons_zero, List.set_cons_succ])
        refine Man.take1 (i := 20) (v := ?_) rfl (by kernel_rfl) (by kernel_rfl) (by kernel_rfl) (fun _ _ _ h => h) (by rfl) ?_ (by assumption) ?_
        rotate_left
        · (intro u hSu; (try dsimp only at hSu); go_simp; (try with_reducible rfl))
        (try simp only [Act.put, List.setIfInBounds_toArray, List.set_cons_zero, List.set_cons_succ])
        refine Man.take1 (i := 21) (v := ?_) rfl (by kernel_rfl) (by kernel_rfl) (by kernel_rfl) (fun _ _ _ h => h) (by rfl) ?_ (by assumption) ?_
        rotate_left
        · (intro u hSu; (try dsimp only at hSu); go_simp; (try with_reducible rfl))
        (try simp only [Act.put, List.setIfInBounds_toArray, List.set_cons_zero, List.set_cons_succ])
        refine Man.take1 (i := 22) (v := ?_) rfl (by kernel_rfl) (by kernel_rfl) (by kernel_rfl) (fun _ _ _ h => h) (by rfl) ?_ (by assumption) ?_
        rotate_left
        · (intro u hSu; (try dsimp only at hSu); go_simp; (try with_reducible rfl))
        (try simp only [Act.put, List.setIfInBounds_toArray, List.set_cons_zero, List.set_cons_succ])
        refine Man.take1 (i := 23) (v := ?_) rfl (by kernel_rfl) (by kernel_rfl) (by kernel_rfl) (fun _ _ _ h => h) (by rfl) ?_ (by assumption) ?_
        rotate_left
        · (intro u hSu; (try dsimp only at hSu); go_simp; (try with_reducible rfl))
        (try simp only [Act.put, List.setIfInBounds_toArray, List.set_cons_zero, List.set_cons_succ])
        refine Man.take1 (i := 24) (v := ?_) rfl (by kernel_rfl) (by kernel_rfl) (by kernel_rfl) (fun _ _ _ h => h) (by rfl) ?_ (by assumption) ?_
        rotate_left
        · (intro u hSu; (try dsimp only at hSu); go_simp; (try with_reducible rfl))
        (try simp only [Act.put, List.setIfInBounds_toArray, List.set_cons_zero, List.set_cons_succ])
        refine Man.take1 (i := 25) (v := ?_) rfl (by kernel_rfl) (by kernel_rfl) (by kernel_rfl) (fun _ _ _ h => h) (by rfl) ?_ (by assumption) ?_
        rotate_left
        · (intro u hSu; (try dsimp only at hSu); go_simp; (try with_reducible rfl))
        (try simp only [Act.put, List.setIfInBounds_toArray, List.set_cons_zero, List.set_cons_succ])
        refine Man.one (i := 26) rfl (by kernel_rfl) (fun K hK => ?_)
        go_simp
        (go_at_call 25; (with_reducible refine (rows_same r _ _ HRN.out _ (RowC.row (wide_row HWL.out HWR.out.1 (HVW_21.out.later hHeld.2.2.2.2.2.2.2.2.2.1))) (RowC.row (HR_21.out.later hHeld.2.2.2.2.2.2.2.2.2.1))).mono ?_); rintro e w' ⟨rfl, hb⟩)
        refine hK.out _ _ ?_ (fun hNew => ?_)
        · exact g_step hHeld hb
        clear hHeld hK K hb
        have hHeld := hNew
        clear hNew
        (try simp only [Act.put, List.setIfInBounds_toArray, List.set_cons_zero, List.set_cons_succ])
        refine Man.take1 (i := 27) (v := ?_) rfl (by kernel_rfl) (by kernel_rfl) (by kernel_rfl) (fun _ _ _ h => h) (by rfl) ?_ (by assumption) ?_
        rotate_left
        · (intro u hSu; (try dsimp only at hSu); go_simp; (try with_reducible rfl))
        (try simp only [Act.put, List.setIfInBounds_toArray, List.set_cons_zero, List.set_cons_succ])
        refine Man.take1 (i := 28) (v := ?_) rfl (by kernel_rfl) (by kernel_rfl) (by kernel_rfl) (fun _ _ _ h => h) (by rfl) ?_ (by assumption) ?_
        rotate_left
        · (intro u hSu; (try dsimp only at hSu); go_simp; (try with_reducible rfl))
        (try simp only [Act.put, List.setIfInBounds_toArray, List.set_cons_zero, List.set_cons_succ])
        refine Man.one (i := 29) rfl (by kernel_rfl) (fun K hK => ?_)
        go_simp
        (go_at_call 10; (with_reducible refine (known_any _).mono ?_); rintro e w' ⟨rfl, hb⟩)
        refine hK.out _ _ ?_ (fun hNew => ?_)
        · exact g_step hHeld hb
        clear hHeld hK K hb
        have hHeld := hNew
        clear hNew
        (try simp only [Act.put, List.setIfInBounds_toArray, List.set_cons_zero, List.set_cons_succ])
        refine Man.take1 (i := 30) (v := ?_) rfl (by kernel_rfl) (by kernel_rfl) (by kernel_rfl) (fun _ _ _ h => h) (by rfl) ?_ (by assumption) ?_
        rotate_left
        · (intro u hSu; (try dsimp only at hSu); go_simp; (try with_reducible rfl))
        (try simp only [Act.put, List.setIfInBounds_toArray, List.set_cons_zero, List.set_cons_succ])
        refine Man.take1 (i := 31) (v := ?_) rfl (by kernel_rfl) (by kernel_rfl) (by kernel_rfl) (fun _ _ _ h => h) (by rfl) ?_ (by assumption) ?_
        rotate_left
        · (intro u hSu; (try dsimp only at hSu); go_simp; (try with_reducible rfl))
        (try simp only [Act.put, List.setIfInBounds_toArray, List.set_cons_zero, List.set_cons_succ])
        refine wpAnyH_done (by kernel_rfl) ?_ _
        obtain ⟨n0, n1, n2, n3, n4, n5, n6, n7, n8, hqb, hqz⟩ := hHeld
        have HBF := hidm (HB_21.out.trans (hqb.mono HB_21.out.size))
        clear hqb hqz SS0 n0 n1 n2 n3 n4 n5 n6 n7 n8
        go_wp2_with fail
        go_ret
        exact ⟨rfl, HBF.out⟩
      · obtain ⟨xf, hxf⟩ : ∃ q, fitsB x r = q := ⟨_, rfl⟩
        have HF := hidm hxf
        have f0 : (xf != 0) = true := by rw [hxf] at hf; simpa using hf
        clear hf hxf
        refine (fits_is HF.out LMX.out (.slice ax x.cols.length cx) (.slice ro r.length rc) HRN.out _ HX_20.out HR_20.out.1).mono ?_
        rintro e w21 ⟨rfl, hb⟩
        have HK_21 := hidm (below_keeps hb HK_20.out)
        have HX_21 := hidm (HX_20.out.later hb)
        have HY_21 := hidm (HY_20.out.later hb)
        have HZ_21 := hidm (HZ_20.out.later hb)
        have HR_21 := hidm (HR_20.out.later hb)
        have HB_21 := hidm (HB_20.out.trans (hb.mono HB_20.out.size))
        clear hb n0 n1 n2 n3 n4 n5 n6 n7 n8
        go_wp2_with fail
        refine (known_any _).mono ?_
        rintro e wk ⟨rfl, hb⟩
        have HB_22 := hidm (HB_21.out.trans (hb.mono HB_21.out.size))
        clear hb
        go_wp2_with fail
        go_ret
        exact ⟨rfl, HB_22.out⟩
    · have HXZ := hidm (ext_trans HXY.out HYZ.out)
      refine (ext_is HYZ.out LMY.out LMZ.out _ _ _ HY_5.out HZ_5.out).mono ?_
      rintro e w6 ⟨rfl, hb⟩
      have HK_6 := hidm (below_keeps hb HK_5.out)
      have HX_6 := hidm (HX_5.out.later hb)
      have HY_6 := hidm (HY_5.out.later hb)
      have HZ_6 := hidm (HZ_5.out.later hb)
      have HR_6 := hidm (HR_5.out.later hb)
      have HB_6 := hidm (HB_5.out.trans (hb.mono HB_5.out.size))
      clear hb n0 n1 n2 n3 n4 n5 n6 n7 n8
      obtain ⟨n0, n1, n2, n3, n4, n5, n6, n7, n8⟩ := nine HK_6.out
      go_wp2_with fail
      refine (ext_is HXZ.out LMX.out LMZ.out _ _ _ HX_6.out HZ_6.out).mono ?_
      rintro e w7 ⟨rfl, hb⟩
      have HK_7 := hidm (below_keeps hb HK_6.out)
      have HX_7 := hidm (HX_6.out.later hb)
      have HY_7 := hidm (HY_6.out.later hb)
      have HZ_7 := hidm (HZ_6.out.later hb)
      have HR_7 := hidm (HR_6.out.later hb)
      have HB_7 := hidm (HB_6.out.trans (hb.mono HB_6.out.size))
      clear hb n0 n1 n2 n3 n4 n5 n6 n7 n8
      obtain ⟨n0, n1, n2, n3, n4, n5, n6, n7, n8⟩ := nine HK_7.out
      go_wp2_with fail
      refine (widen_any y LMY.out (.slice ay y.cols.length cy) r (.slice ro r.length rc) HRN.out HRS.out _ HY_7.out HR_7.out).mono ?_
      rintro e wv ⟨v, rfl, hv, hb⟩
      have HK_20 := hidm (below_keeps hb HK_7.out)
      have HX_20 := hidm (HX_7.out.later hb)
      have HY_20 := hidm (HY_7.out.later hb)
      have HZ_20 := hidm (HZ_7.out.later hb)
      have HR_20 := hidm (HR_7.out.later hb)
      have HB_20 := hidm (HB_7.out.trans (hb.mono HB_7.out.size))
      have HV_20 := hidm hv
      obtain ⟨wo, wc, hv2, _⟩ := hv.2
      obtain ⟨wn, hwn⟩ : ∃ n, n = (widenB y r).1.length := ⟨_, rfl⟩
      rw [← hwn] at hv2
      subst hv2
      have HWN := hidm hwn
      obtain ⟨x6, hx6⟩ : ∃ q, q = (widenB y r).2 := ⟨_, rfl⟩
      rw [← hx6]
      have HX6 := hidm hx6
      clear hb hv hwn hx6 n0 n1 n2 n3 n4 n5 n6 n7 n8
      obtain ⟨n0, n1, n2, n3, n4, n5, n6, n7, n8⟩ := nine HK_20.out
      go_wp2_with fail
      by_cases hf : fitsB x r = 0
      · have HF := hidm hf
        have hwd := grow_widen HXY.out hf
        have HFW := hidm (grow_fits HXY.out hf)
        have HKK := hidm (grow_key HXY.out hf)
        have hx60 : x6 = 0 := by rw [HX6.out, hwd]
        subst hx60
        have HVW_20 := hidm (show RowC (wideB y r) (.slice wo wn wc) wv from by have h := HV_20.out; rw [hwd] at h; exact h)
        have HWL := hidm (show wn = (wideB y r).length from by rw [HWN.out, hwd])
        have HWR := hidm (show r.length ≤ wn ∧ wn ≤ 1000000 from by
          rw [HWL.out]
          have h1 := (ext_iff _ _).1 HXY.out
          have h2 := (fits_parts hf).2.1
          have h3 := h1.le
          have h4 := LMY.out.n
          unfold wideB; rw [List.length_append, List.length_replicate]; omega)
        have HWS := hidm (show ∀ v ∈ wideB y r, v.s.length ≤ 281474976710656 from fun v hv => by
          unfold wideB at hv
          rcases List.mem_append.1 hv with h | h
          · exact HRS.out v h
          · rw [(List.mem_replicate.1 h).2]; simp [nullV])
        have HWN2 := hidm (show (wideB y r).length ≤ 1000000 from by rw [← HWL.out]; exact HWR.out.2)
        have hwc : r.length ≤ wc := by
          obtain ⟨_, _, h1, h2, _⟩ := HVW_20.out.2
          simp only [Value.slice.injEq] at h1
          have := HWR.out.1
          omega
        clear hf hwd
        refine (fits_is HF.out LMX.out (.slice ax x.cols.length cx) (.slice ro r.length rc) HRN.out _ HX_20.out HR_20.out.1).mono ?_
        rintro e w21 ⟨rfl, hb⟩
        have HK_21 := hidm (below_keeps hb HK_20.out)
        have HX_21 := hidm (HX_20.out.later hb)
        have HY_21 := hidm (HY_20.out.later hb)
        have HZ_21 := hidm (HZ_20.out.later hb)
        have HR_21 := hidm (HR_20.out.later hb)
        have HB_21 := hidm (HB_20.out.trans (hb.mono HB_20.out.size))
        have HVW_21 := hidm (HVW_20.out.later hb)
        clear hb n0 n1 n2 n3 n4 n5 n6 n7 n8
        obtain ⟨n0, n1, n2, n3, n4, n5, n6, n7, n8⟩ := nine HK_21.out
        have SS0 := hidm (show w21.cell? ⟨w.heap.size, 0, none⟩ = some (.string (S x.nm)) ∧ w21.cell? ⟨w.heap.size, 1, none⟩ = some (.slice ax x.cols.length cx) ∧ w21.cell? ⟨w.heap.size, 2, none⟩ = some (.int .i64 x.keys) ∧ w21.cell? ⟨w.heap.size, 3, none⟩ = some (.string (S y.nm)) ∧ w21.cell? ⟨w.heap.size, 4, none⟩ = some (.slice ay y.cols.length cy) ∧ w21.cell? ⟨w.heap.size, 5, none⟩ = some (.int .i64 y.keys) ∧ w21.cell? ⟨w.heap.size, 6, none⟩ = some (.string (S z.nm)) ∧ w21.cell? ⟨w.heap.size, 7, none⟩ = some (.slice az z.cols.length cz) ∧ w21.cell? ⟨w.heap.size, 8, none⟩ = some (.int .i64 z.keys) ∧ Below w21.heap.size w21 w21 ∧ w21.heap.size ≤ w21.heap.size from ⟨n0, n1, n2, n3, n4, n5, n6, n7, n8, Below.refl _ _, Nat.le_refl _⟩)
        clear n0 n1 n2 n3 n4 n5 n6 n7 n8
        go_wp2_with fail
        refine wp_region_held_drew (S := fun u => u.cell? ⟨w.heap.size, 0, none⟩ = some (.string (S x.nm)) ∧ u.cell? ⟨w.heap.size, 1, none⟩ = some (.slice ax x.cols.length cx) ∧ u.cell? ⟨w.heap.size, 2, none⟩ = some (.int .i64 x.keys) ∧ u.cell? ⟨w.heap.size, 3, none⟩ = some (.string (S y.nm)) ∧ u.cell? ⟨w.heap.size, 4, none⟩ = some (.slice ay y.cols.length cy) ∧ u.cell? ⟨w.heap.size, 5, none⟩ = some (.int .i64 y.keys) ∧ u.cell? ⟨w.heap.size, 6, none⟩ = some (.string (S z.nm)) ∧ u.cell? ⟨w.heap.size, 7, none⟩ = some (.slice az z.cols.length cz) ∧ u.cell? ⟨w.heap.size, 8, none⟩ = some (.int .i64 z.keys) ∧ Below w21.heap.size w21 u ∧ w21.heap.size ≤ u.heap.size) (by kernel_rfl) ?_ (fun hHeld => ?_)
        · exact g_step SS0.out ((Below.refl _ _).drew)
        refine Man.take1 (i := 0) (v := ?_) rfl (by kernel_rfl) (by kernel_rfl) (by kernel_rfl) (fun _ _ _ h => h) (by rfl) ?_ (by assumption) ?_
        rotate_left
        · (intro u hSu; (try dsimp only at hSu); go_simp; (try with_reducible rfl))
        (try simp only [Act.put, List.setIfInBounds_toArray, List.set_cons_zero, List.set_cons_succ])
        refine Man.take1 (i := 1) (v := ?_) rfl (by kernel_rfl) (by kernel_rfl) (by kernel_rfl) (fun _ _ _ h => h) (by rfl) ?_ (by assumption) ?_
        rotate_left
        · (intro u hSu; (try dsimp only at hSu); go_simp; (try with_reducible rfl))
        (try simp only [Act.put, List.setIfInBounds_toArray, List.set_cons_zero, List.set_cons_succ])
        refine Man.take1 (i := 2) (v := ?_) rfl (by kernel_rfl) (by kernel_rfl) (by kernel_rfl) (fun _ _ _ h => h) (by rfl) ?_ (by assumption) ?_
        rotate_left
        · (intro u hSu; (try dsimp only at hSu); go_simp; (try with_reducible rfl))
        (try simp only [Act.put, List.setIfInBounds_toArray, List.set_cons_zero, List.set_cons_succ])
        refine Man.take1 (i := 3) (v := ?_) rfl (by kernel_rfl) (by kernel_rfl) (by kernel_rfl) (fun _ _ _ h => h) (by rfl) ?_ (by assumption) ?_
        rotate_left
        · (intro u hSu; (try dsimp only at hSu); go_simp; (try with_reducible rfl))
        (try simp only [Act.put, List.setIfInBounds_toArray, List.set_cons_zero, List.set_cons_succ])
        refine Man.take1 (i := 4) (v := ?_) rfl (by kernel_rfl) (by kernel_rfl) (by kernel_rfl) (fun _ _ _ h => h) (by rfl) ?_ (by assumption) ?_
        rotate_left
        · (intro u hSu; (try dsimp only at hSu); go_simp; (try with_reducible rfl))
        (try simp only [Act.put, List.setIfInBounds_toArray, List.set_cons_zero, List.set_cons_succ])
        refine Man.take1 (i := 5) (v := ?_) rfl (by kernel_rfl) (by kernel_rfl) (by kernel_rfl) (fun _ _ _ h => h) (by rfl) ?_ (by assumption) ?_
        rotate_left
        · (intro u hSu; (try dsimp only at hSu); go_simp; (try with_reducible rfl))
        (try simp only [Act.put, List.setIfInBounds_toArray, List.set_cons_zero, List.set_cons_succ])
        refine Man.one (i := 6) rfl (by kernel_rfl) (fun K hK => ?_)
        go_simp
        (go_at_call 23; (with_reducible refine (fits_is HFW.out LMY.out _ _ HWN2.out _ (HY_21.out.later hHeld.2.2.2.2.2.2.2.2.2.1) (RowC.row (HVW_21.out.later hHeld.2.2.2.2.2.2.2.2.2.1))).mono ?_); rintro e w' ⟨rfl, hb⟩)
        refine hK.out _ _ ?_ (fun hNew => ?_)
        · exact g_step hHeld hb
        clear hHeld hK K hb
        have hHeld := hNew
        clear hNew
        (try simp only [Act.put, List.setIfInBounds_toArray, List.set_cons_zero, List.set_cons_succ])
        refine Man.take1 (i := 7) (v := ?_) rfl (by kernel_rfl) (by kernel_rfl) (by kernel_rfl) (fun _ _ _ h => h) (by rfl) ?_ (by assumption) ?_
        rotate_left
        · (intro u hSu; (try dsimp only at hSu); go_simp; (try with_reducible rfl))
        (try simp only [Act.put, List.setIfInBounds_toArray, List.set_cons_zero, List.set_cons_succ])
        refine Man.take1 (i := 8) (v := ?_) rfl (by kernel_rfl) (by kernel_rfl) (by kernel_rfl) (fun _ _ _ h => h) (by rfl) ?_ (by assumption) ?_
        rotate_left
        · (intro u hSu; (try dsimp only at hSu); go_simp; (try with_reducible rfl))
        (try simp only [Act.put, List.setIfInBounds_toArray, List.set_cons_zero, List.set_cons_succ])
        refine Man.take1 (i := 9) (v := ?_) rfl (by kernel_rfl) (by kernel_rfl) (by kernel_rfl) (fun _ _ _ h => h) (by rfl) ?_ (by assumption) ?_
        rotate_left
        · (intro u hSu; (try dsimp only at hSu); go_simp; (try with_reducible rfl))
        (try simp only [Act.put, List.setIfInBounds_toArray, List.set_cons_zero, List.set_cons_succ])
        refine Man.take1 (i := 10) (v := ?_) rfl (by kernel_rfl) (by kernel_rfl) (by kernel_rfl) (fun _ _ _ h => h) (by rfl) ?_ (by assumption) ?_
        rotate_left
        · (intro u hSu; (try dsimp only at hSu); go_simp; (try with_reducible rfl))
        (try simp only [Act.put, List.setIfInBounds_toArray, List.set_cons_zero, List.set_cons_succ])
        refine Man.take1 (i := 11) (v := ?_) rfl (by kernel_rfl) (by kernel_rfl) (by kernel_rfl) (fun _ _ _ h => h) (by rfl) ?_ (by assumption) ?_
        rotate_left
        · (intro u hSu; (try dsimp only at hSu); go_simp; (try with_reducible rfl))
        (try simp only [Act.put, List.setIfInBounds_toArray, List.set_cons_zero, List.set_cons_succ])
        refine Man.take1 (i := 12) (v := ?_) rfl (by kernel_rfl) (by kernel_rfl) (by kernel_rfl) (fun _ _ _ h => h) (by rfl) ?_ (by assumption) ?_
        rotate_left
        · (intro u hSu; (try dsimp only at hSu); go_simp; (try with_reducible rfl))
        (try simp only [Act.put, List.setIfInBounds_toArray, List.set_cons_zero, List.set_cons_succ])
        refine Man.take1 (i := 14) (v := ?_) rfl (by kernel_rfl) (by kernel_rfl) (by kernel_rfl) (fun _ _ _ h => h) (by rfl) ?_ (by assumption) ?_
        rotate_left
        · (intro u hSu; (try dsimp only at hSu); go_simp; (try with_reducible rfl))
        (try simp only [Act.put, List.setIfInBounds_toArray, List.set_cons_zero, List.set_cons_succ])
        refine Man.take1 (i := 15) (v := ?_) rfl (by kernel_rfl) (by kernel_rfl) (by kernel_rfl) (fun _ _ _ h => h) (by rfl) ?_ (by assumption) ?_
        rotate_left
        · (intro u hSu; (try dsimp only at hSu); go_simp; (try with_reducible rfl))
        (try simp only [Act.put, List.setIfInBounds_toArray, List.set_cons_zero, List.set_cons_succ])
        refine Man.take1 (i := 16) (v := ?_) rfl (by kernel_rfl) (by kernel_rfl) (by kernel_rfl) (fun _ _ _ h => h) (by rfl) ?_ (by assumption) ?_
        rotate_left
        · (intro u hSu; (try dsimp only at hSu); go_simp; (try with_reducible rfl))
        (try simp only [Act.put, List.setIfInBounds_toArray, List.set_cons_zero, List.set_cons_succ])
        refine Man.one (i := 13) rfl (by kernel_rfl) (fun K hK => ?_)
        go_simp
        (go_at_call 26; (refine (key_any x LMX.out (.slice ax x.cols.length cx) r (.slice ro r.length rc) HRN.out HRS.out _ (HX_21.out.later hHeld.2.2.2.2.2.2.2.2.2.1) (HR_21.out.later hHeld.2.2.2.2.2.2.2.2.2.1)).mono ?_); rintro e w' ⟨vk, rfl, hvk, hb⟩; have HVK := hidm hvk; clear hvk)
        refine hK.out _ _ ?_ (fun hNew => ?_)
        · exact g_step hHeld hb
        clear hHeld hK K hb
        have hHeld := hNew
        clear hNew
        (try simp only [Act.put, List.setIfInBounds_toArray, List.set_cons_zero, List.set_cons_succ])
        refine Man.one (i := 17) rfl (by kernel_rfl) (fun K hK => ?_)
        go_simp
        (go_at_call 26; (refine (key_any y LMY.out (.slice ay y.cols.length cy) (wideB y r) (.slice wo wn wc) HWN2.out HWS.out _ (HY_21.out.later hHeld.2.2.2.2.2.2.2.2.2.1) (HVW_21.out.later hHeld.2.2.2.2.2.2.2.2.2.1)).mono ?_); rintro e w' ⟨vk2, rfl, hvk2, hb⟩; rw [HKK.out] at hvk2; have HVK1 := hidm (HVK.out.later hb); have HVK2 := hidm hvk2; clear hvk2)
        refine hK.out _ _ ?_ (fun hNew => ?_)
        · exact g_step hHeld hb
        clear hHeld hK K hb
        have hHeld := hNew
        clear hNew
        (try simp only [Act.put, List.setIfInBounds_toArray, List.set_cons_zero, List.set_cons_succ])
        refine Man.one (i := 18) rfl (by kernel_rfl) (fun K hK => ?_)
        go_simp
        (go_at_call 25; (with_reducible refine (rows_same (keyB x r) _ _ (key_short x r HRN.out) _ HVK1.out.row HVK2.out.row).mono ?_); rintro e w' ⟨rfl, hb⟩)
        refine hK.out _ _ ?_ (fun hNew => ?_)
        · exact g_step hHeld hb
        clear hHeld hK K hb
        have hHeld := hNew
        clear hNew
        (try simp only [Act.put, List.setIfInBounds_toArray, List.set_cons_zero, List.set_cons_succ])
        refine Man.take1 (i := 19) (v := ?_) rfl (by kernel_rfl) (by kernel_rfl) (by kernel_rfl) (fun _ _ _ h => h) (by rfl) ?_ (by assumption) ?_
        rotate_left
        · (intro u hSu; (try dsimp only at hSu); go_simp; (try with_reducible rfl))
        (try simp only [Act.put, List.setIfInBounds_toArray, List.set_cons_zero, List.set_cons_succ])
        refine Man.take1 (i := 20) (v := ?_) rfl (by kernel_rfl) (by kernel_rfl) (by kernel_rfl) (fun _ _ _ h => h) (by rfl) ?_ (by assumption) ?_
        rotate_left
        · (intro u hSu; (try dsimp only at hSu); go_simp; (try with_reducible rfl))
        (try simp only [Act.put, List.setIfInBounds_toArray, List.set_cons_zero, List.set_cons_succ])
        refine Man.take1 (i := 21) (v := ?_) rfl (by kernel_rfl) (by kernel_rfl) (by kernel_rfl) (fun _ _ _ h => h) (by rfl) ?_ (by assumption) ?_
        rotate_left
        · (intro u hSu; (try dsimp only at hSu); go_simp; (try with_reducible rfl))
        (try simp only [Act.put, List.setIfInBounds_toArray, List.set_cons_zero, List.set_cons_succ])
        refine Man.take1 (i := 22) (v := ?_) rfl (by kernel_rfl) (by kernel_rfl) (by kernel_rfl) (fun _ _ _ h => h) (by rfl) ?_ (by assumption) ?_
        rotate_left
        · (intro u hSu; (try dsimp only at hSu); go_simp; (try with_reducible rfl))
        (try simp only [Act.put, List.setIfInBounds_toArray, List.set_cons_zero, List.set_cons_succ])
        refine Man.take1 (i := 23) (v := ?_) rfl (by kernel_rfl) (by kernel_rfl) (by kernel_rfl) (fun _ _ _ h => h) (by rfl) ?_ (by assumption) ?_
        rotate_left
        · (intro u hSu; (try dsimp only at hSu); go_simp; (try with_reducible rfl))
        (try simp only [Act.put, List.setIfInBounds_toArray, List.set_cons_zero, List.set_cons_succ])
        refine Man.take1 (i := 24) (v := ?_) rfl (by kernel_rfl) (by kernel_rfl) (by kernel_rfl) (fun _ _ _ h => h) (by rfl) ?_ (by assumption) ?_
        rotate_left
        · (intro u hSu; (try dsimp only at hSu); go_simp; (try with_reducible rfl))
        (try simp only [Act.put, List.setIfInBounds_toArray, List.set_cons_zero, List.set_cons_succ])
        refine Man.take1 (i := 25) (v := ?_) rfl (by kernel_rfl) (by kernel_rfl) (by kernel_rfl) (fun _ _ _ h => h) (by rfl) ?_ (by assumption) ?_
        rotate_left
        · (intro u hSu; (try dsimp only at hSu); go_simp; (try with_reducible rfl))
        (try simp only [Act.put, List.setIfInBounds_toArray, List.set_cons_zero, List.set_cons_succ])
        refine Man.one (i := 26) rfl (by kernel_rfl) (fun K hK => ?_)
        go_simp
        (go_at_call 25; (with_reducible refine (rows_same r _ _ HRN.out _ (RowC.row (wide_row HWL.out HWR.out.1 (HVW_21.out.later hHeld.2.2.2.2.2.2.2.2.2.1))) (RowC.row (HR_21.out.later hHeld.2.2.2.2.2.2.2.2.2.1))).mono ?_); rintro e w' ⟨rfl, hb⟩)
        refine hK.out _ _ ?_ (fun hNew => ?_)
        · exact g_step hHeld hb
        clear hHeld hK K hb
        have hHeld := hNew
        clear hNew
        (try simp only [Act.put, List.setIfInBounds_toArray, List.set_cons_zero, List.set_cons_succ])
        refine Man.take1 (i := 27) (v := ?_) rfl (by kernel_rfl) (by kernel_rfl) (by kernel_rfl) (fun _ _ _ h => h) (by rfl) ?_ (by assumption) ?_
        rotate_left
        · (intro u hSu; (try dsimp only at hSu); go_simp; (try with_reducible rfl))
        (try simp only [Act.put, List.setIfInBounds_toArray, List.set_cons_zero, List.set_cons_succ])
        refine Man.take1 (i := 28) (v := ?_) rfl (by kernel_rfl) (by kernel_rfl) (by kernel_rfl) (fun _ _ _ h => h) (by rfl) ?_ (by assumption) ?_
        rotate_left
        · (intro u hSu; (try dsimp only at hSu); go_simp; (try with_reducible rfl))
        (try simp only [Act.put, List.setIfInBounds_toArray, List.set_cons_zero, List.set_cons_succ])
        refine Man.one (i := 29) rfl (by kernel_rfl) (fun K hK => ?_)
        go_simp
        (go_at_call 10; (with_reducible refine (known_any _).mono ?_); rintro e w' ⟨rfl, hb⟩)
        refine hK.out _ _ ?_ (fun hNew => ?_)
        · exact g_step hHeld hb
        clear hHeld hK K hb
        have hHeld := hNew
        clear hNew
        (try simp only [Act.put, List.setIfInBounds_toArray, List.set_cons_zero, List.set_cons_succ])
        refine Man.take1 (i := 30) (v := ?_) rfl (by kernel_rfl) (by kernel_rfl) (by kernel_rfl) (fun _ _ _ h => h) (by rfl) ?_ (by assumption) ?_
        rotate_left
        · (intro u hSu; (try dsimp only at hSu); go_simp; (try with_reducible rfl))
        (try simp only [Act.put, List.setIfInBounds_toArray, List.set_cons_zero, List.set_cons_succ])
        refine Man.take1 (i := 31) (v := ?_) rfl (by kernel_rfl) (by kernel_rfl) (by kernel_rfl) (fun _ _ _ h => h) (by rfl) ?_ (by assumption) ?_
        rotate_left
        · (intro u hSu; (try dsimp only at hSu); go_simp; (try with_reducible rfl))
        (try simp only [Act.put, List.setIfInBounds_toArray, List.set_cons_zero, List.set_cons_succ])
        refine wpAnyH_done (by kernel_rfl) ?_ _
        obtain ⟨n0, n1, n2, n3, n4, n5, n6, n7, n8, hqb, hqz⟩ := hHeld
        have HBF := hidm (HB_21.out.trans (hqb.mono HB_21.out.size))
        clear hqb hqz SS0 n0 n1 n2 n3 n4 n5 n6 n7 n8
        go_wp2_with fail
        go_ret
        exact ⟨rfl, HBF.out⟩
      · obtain ⟨xf, hxf⟩ : ∃ q, fitsB x r = q := ⟨_, rfl⟩
        have HF := hidm hxf
        have f0 : (xf != 0) = true := by rw [hxf] at hf; simpa using hf
        clear hf hxf
        refine (fits_is HF.out LMX.out (.slice ax x.cols.length cx) (.slice ro r.length rc) HRN.out _ HX_20.out HR_20.out.1).mono ?_
        rintro e w21 ⟨rfl, hb⟩
        have HK_21 := hidm (below_keeps hb HK_20.out)
        have HX_21 := hidm (HX_20.out.later hb)
        have HY_21 := hidm (HY_20.out.later hb)
        have HZ_21 := hidm (HZ_20.out.later hb)
        have HR_21 := hidm (HR_20.out.later hb)
        have HB_21 := hidm (HB_20.out.trans (hb.mono HB_20.out.size))
        clear hb n0 n1 n2 n3 n4 n5 n6 n7 n8
        go_wp2_with fail
        refine (known_any _).mono ?_
        rintro e wk ⟨rfl, hb⟩
        have HB_22 := hidm (HB_21.out.trans (hb.mono HB_21.out.size))
        clear hb
        go_wp2_with fail
        go_ret
        exact ⟨rfl, HB_22.out⟩
theorem law_any (x : T) (sx : Value) (y : T) (sy : Value) (z : T) (sz : Value) (r : List V) (rl : Value) (nx : x.inn) (ny : y.inn) (nz : z.inn) (nr : r.length ≤ 9223372036854775807) (w : World) (hx : ColsAt x.cols sx w) (hy : ColsAt y.cols sy w) (hz : ColsAt z.cols sz w) (hr : RowC r rl w) :
    Calls Try.prog 7 #[.agg #[.string (S x.nm), sx, .int .i64 x.keys, .string (S y.nm), sy, .int .i64 y.keys, .string (S z.nm), sz, .int .i64 z.keys], rl] w fun e w' => e = .returned (.bool true) ∧ Below w.heap.size w w' := by
  obtain ⟨ax, cx, rfl, _, _⟩ := hx.form
  obtain ⟨ay, cy, rfl, _, _⟩ := hy.form
  obtain ⟨az, cz, rfl, _, _⟩ := hz.form
  rcases h1 : lightB x r with _ | _
  · exact skip_x x y z ax ay az cx cy cz r rl h1 nx ny nz nr w hx hy hz hr
  · rcases h2 : lightB y [] with _ | _
    · exact skip_y x y z ax ay az cx cy cz r rl h1 h2 nx ny nz nr w hx hy hz hr
    · rcases h3 : lightB z [] with _ | _
      · exact skip_z x y z ax ay az cx cy cz r rl h1 h2 h3 nx ny nz nr w hx hy hz hr
      · exact main_any x y z ax ay az cx cy cz r rl h1 h2 h3 nx ny nz nr w hx hy hz hr
theorem laidOut : laidOutB Try.prog = true := by kernel_rfl
set_option maxRecDepth 100000 in
theorem contract (H : Type) (enc : TypeId × Value → H) (W : World) (base : Nat) (args : Array Value) (ds gs : List (DataW H)) (before : List MemPlace)
    (hval : ∀ (j : Nat) t v, Try.f7.params[j]? = some t → args[j]? = some v → Value.okWide Try.prog W .any base t v)
    (hW : DataW.Whole enc Try.prog Try.f7.params.toList Rows.schemaGrowsSpec.vars false W args.toList ds gs before) :
    Calls Try.prog 7 args W fun e W' => ∃ v, e = .returned v ∧ Rows.schemaGrowsSpec.post enc Try.prog Try.f7 false true false false W args v W' := by
  have hW' := hW
  obtain ⟨p, q, hA0, hV, rfl, hfz, hnd⟩ := hW
  have hA : DataW.TrodAll enc Try.prog W 0 (fun _ => true) true Try.f7.params.toList args.toList ds p := hA0
  rw [Try.params7] at hA hval
  obtain ⟨v0, vs0, d0, ds0, p0, q0, hargs, rfl, rfl, h0, r0⟩ := trodAll_cons hA
  obtain ⟨v1, vs1, d1, ds1, p1, q1, rfl, rfl, rfl, h1, r1⟩ := trodAll_cons r0
  obtain ⟨rfl, rfl, rfl⟩ := trodAll_nil r1
  obtain rfl : args = #[v0, v1] := by cases args; simp_all
  obtain ⟨rfl, rfl⟩ := trodVars_none hV
  obtain ⟨xa, sxa, xb, sxb, xc, sxc, rfl, hcxa, hcxb, hcxc, hnxa, hnxb, hnxc⟩ := open_schema3 (hval 0 42 v0 rfl rfl) h0
  obtain ⟨r, hcr, hir, hnr⟩ := open_row (hval 1 32 v1 rfl rfl) h1
  clear hA0
  simp only [List.append_nil] at hW'
  have hlt : ∀ x ∈ p0 ++ p1, x.block < W.heap.size := fun x hx => hW'.lt x (by simpa using hx)
  have walk := law_any xa sxa xb sxb xc sxc r v1 hnxa hnxb hnxc hnr W hcxa hcxb hcxc hcr
  refine walk.mono fun e W' ⟨he, hg⟩ => ?_
  subst he
  refine ⟨_, rfl, Fr.post_made (pa := p0 ++ p1) (pv := []) hW' (fun _ _ _ => trodAll_cons_mk (shut_bool Try.underlying4 _) trodAll_mk0) (fun sp hsp => ?_) (fun _ _ => rfl) (by simp) hg (ok_one (by kernel_rfl) rfl (okWide_bool_mk Try.underlying4 _))⟩
  have g0 : DataW.Trod enc Try.prog W' 0 sp true 42 _ d0 p0 := WideElems.Trod_stays laidOut (by kernel_rfl) (of_decide_eq_true (by kernel_rfl)) h0 (fun x hx => hg.same (hlt x (by simp [hx]))) (fun x hx => hsp x (by simp [hx]))
  have g1 : DataW.Trod enc Try.prog W' 0 sp true 32 _ d1 p1 := WideElems.Trod_stays laidOut (by kernel_rfl) (of_decide_eq_true (by kernel_rfl)) h1 (fun x hx => hg.same (hlt x (by simp [hx]))) (fun x hx => hsp x (by simp [hx]))
  have hT := (trodAll_cons_mk g0 (trodAll_cons_mk g1 trodAll_mk0))
  simp only [List.append_nil] at hT
  exact hT
set_option maxRecDepth 100000 in
theorem lifted (os : Os) (started : os.Started) (H : Type) (enc : TypeId × Value → H) :
    ReturnsInHanded {} Try.checked os 7 .any (Rows.schemaGrowsSpec.pre6 enc Try.prog Try.f7 Rows.schemaGrowsRow.domain false) (Rows.schemaGrowsSpec.post enc Try.prog Try.f7 false true false false) := by
  refine returnsInHanded_of_change (C := Try.checked) Fr.own started (by kernel_rfl) Try.func7
    (ChangeSpec.witness6 (enc := enc) (C := Try.checked) false ⟨#[], #[.agg #[.string ⟨#[]⟩, .slice none 0 0, .int .i64 0, .string ⟨#[]⟩, .slice none 0 0, .int .i64 0, .string ⟨#[]⟩, .slice none 0 0, .int .i64 0], .slice none 0 0], []⟩ 8 (by kernel_rfl) (by kernel_rfl) (by kernel_rfl) (by kernel_rfl)) ?_
  intro W base args ds gs before hval hW _ _
  exact contract H enc W base args ds gs before hval hW
theorem said : Rows.SchemaGrowsSaid :=
  OpenClaim.holds_of_wide 7 Try.f7 rfl rfl rfl rfl rfl rfl rfl ⟨rfl, rfl, rfl, rfl, rfl⟩ rfl rfl rfl rfl rfl (by kernel_rfl) Try.func7 (by kernel_rfl)
    (of_decide_eq_true (by kernel_rfl)) (by unfold Func.isWrapper; first | (rw [if_pos (by decide +kernel)]; kernel_rfl) | (rw [if_neg (by decide +kernel)]; exact ⟨rfl, rfl⟩))
    (fun os started H enc _ => lifted os started H enc)
end LaSchemaGrows
end Go.Proofs.Ytkgiomdjihcfoaa
