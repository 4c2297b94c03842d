/- valueOf and read of package key. Conditions: the text has at most a million bytes; bytealg's MaxLen holds some number. -/
import Derived.Test.YtppdebhcaodcnaaDoorYj
namespace Go.Proofs.YtppdebhcaodcnaaDoor
open Go.RowKit Cod
namespace Ky
theorem valof_any (k : Int) (hk0 : -1 ≤ k) (hk1 : k ≤ 254) (s : ByteArray) (hs : s.size ≤ 1000000) (h1 : k = 1 → 0 < s.size) (h8 : k = 2 ∨ k = 3 → s.size = 8) (w : World) (hm : ML w) :
    Calls Tryd.prog 78 #[.int .i64 k, .string s] w (ValOut k s w) := by
  by_cases g1 : k = 1
  · subst g1; exact valof_bool s w (h1 rfl)
  by_cases g2 : k = 2
  · subst g2; exact valof_int s w (h8 (.inl rfl))
  by_cases g3 : k = 3
  · subst g3; exact valof_float s w (h8 (.inr rfl))
  by_cases g4 : k = 4
  · subst g4; exact valof_text4 s w hs hm
  by_cases g5 : k = 5
  · subst g5; exact valof_text5 s w hs hm
  exact valof_none k hk0 hk1 s w (by simpa using g1) (by simpa using g2) (by simpa using g3) (by simpa using g4) (by simpa using g5)
theorem one_head {u : V} (hr : u.right = true) : ∃ c : UInt8, c ≠ 0 ∧ (c.toNat : Int) - 1 = u.k ∧ one u = c :: rest u := by
  have h := (right_kind hr).1
  have hk := kb hr
  refine ⟨_, fun e => ?_, ?_, rfl⟩
  · rw [e] at hk
    have : (0 : UInt8).toNat = 0 := rfl
    omega
  · rw [hk]; omega
/-- A slice that owns these values. -/
def Own (base : Nat) (vs : List V) (v : Value) (w : World) : Prop := w.ownsRow base 25 4 v vs.length (flat vs)
def strLen : Value → Nat
  | .string s => s.size
  | _ => 0
/-- What is a key, with numbers that fit. -/
def Good (us : List V) : Prop := isK us = true ∧ ∀ x ∈ us, x.inn
theorem Good.right {us : List V} (h : Good us) : ∀ x ∈ us, x.right = true := by
  have h1 := h.1
  unfold isK at h1
  rw [Bool.and_eq_true] at h1
  exact fun v hv => List.all_eq_true.1 h1.2 v hv
theorem Good.len {us : List V} (h : Good us) : us.length ≤ 8 := by
  have h1 := h.1
  unfold isK at h1
  rw [Bool.and_eq_true] at h1
  exact of_decide_eq_true h1.1
theorem Good.both {us : List V} (h : Good us) : ∀ x ∈ us, x.right = true ∧ x.inn := fun x hx => ⟨h.right x hx, h.2 x hx⟩
theorem body_nil_head : body [] = [0] := rfl
/-- Where the key's bytes have been read as far as the values vs: what stands there. -/
def Sofar (s0 s : ByteArray) (vs : List V) : Prop := ∀ us, Good us → body us = s0.data.toList → vs = us.take vs.length ∧ s.data.toList = body (us.drop vs.length)
theorem Sofar.start (s0 : ByteArray) : Sofar s0 s0 [] := fun us _ h => ⟨rfl, by simpa using h.symm⟩
/-- At the end all values are read. -/
theorem Sofar.all {s0 s : ByteArray} {vs : List V} (h : Sofar s0 s vs) (he : s.data.toList = [] ∨ (∃ t, s.data.toList = 0 :: t) ∨ 8 ≤ vs.length) : ∀ us, Good us → body us = s0.data.toList → vs = us := by
  intro us hg hb
  obtain ⟨h1, h2⟩ := h us hg hb
  have hnil : us.drop vs.length = [] := by
    rcases hd : us.drop vs.length with _ | ⟨u, r⟩
    · rfl
    · exfalso
      have hu : u ∈ us := by
        have : u ∈ us.drop vs.length := by rw [hd]; simp
        exact List.mem_of_mem_drop this
      obtain ⟨c, hc0, _, hc⟩ := one_head (hg.right u hu)
      rw [hd, body_cons, hc] at h2
      rcases he with he | ⟨t, he⟩ | he
      · rw [he] at h2; cases h2
      · rw [he] at h2
        simp only [List.cons_append, List.cons.injEq] at h2
        exact hc0 h2.1.symm
      · have := hg.len
        rw [List.drop_of_length_le (by omega)] at hd
        cases hd
  have hl := List.drop_eq_nil_iff.1 hnil
  rw [h1, List.take_of_length_le hl]
/-- One value more. -/
theorem Sofar.next {s0 s : ByteArray} {vs : List V} (h : Sofar s0 s vs) (c : UInt8) (r : List UInt8) (hs : s.data.toList = c :: r) (hc : c ≠ 0) (us : List V) (hg : Good us) (hb : body us = s0.data.toList) :
    ∃ u X, u.right = true ∧ u.inn ∧ (c.toNat : Int) - 1 = u.k ∧ r = rest u ++ X ∧ vs ++ [u] = us.take (vs.length + 1) ∧ X = body (us.drop (vs.length + 1)) := by
  obtain ⟨h1, h2⟩ := h us hg hb
  have hl : vs.length < us.length := by
    rcases Nat.lt_or_ge vs.length us.length with q | q
    · exact q
    · exfalso
      rw [List.drop_of_length_le q, body_nil_head, hs] at h2
      simp only [List.cons.injEq] at h2
      exact hc h2.1
  have hu : us[vs.length] ∈ us := List.getElem_mem hl
  obtain ⟨d, _, hd, hd2⟩ := one_head (hg.right _ hu)
  rw [List.drop_eq_getElem_cons hl, body_cons, hd2, hs] at h2
  simp only [List.cons_append, List.cons.injEq] at h2
  obtain ⟨rfl, h3⟩ := h2
  refine ⟨us[vs.length], _, hg.right _ hu, hg.2 _ hu, hd, h3, ?_, rfl⟩
  rw [List.take_succ_eq_append_getElem hl, ← h1]
theorem str_tail (s : ByteArray) : (s.extract 1 s.size).data.toList = s.data.toList.drop 1 := by
  have := Lib.extract_toList s 1 s.size
  rw [ByteArray.toList_eq] at this
  rw [this, List.take_of_length_le (by simp)]
def ReadOut (s0 : ByteArray) (w : World) (e : Ending) (w' : World) : Prop := ∃ (vs : List V) (v : Value) (ok : Bool), e = .returned (.tuple #[v, .bool ok]) ∧ (Own w.heap.size vs v w' ∧ (∀ x ∈ vs, x.inn) ∧ vs.length ≤ 8 ∧ (s0.size = 0 → vs = []) ∧ (∀ us, Good us → body us = s0.data.toList → ok = true ∧ vs = us)) ∧ Below w.heap.size w w'
set_option maxRecDepth 100000 in
set_option maxHeartbeats 4000000 in
theorem read_any (s0 : ByteArray) (hs0 : s0.size ≤ 1000000) (w : World) (hm : ML w) :
    Calls Tryd.prog 49 #[.string s0] w (ReadOut s0 w) := by
  obtain ⟨i0, hi, hz0, hz1, hz2⟩ : ∃ i, Tryd.prog.info? 25 = some i ∧ i.zero = some (.agg #[.int .i64 0, .int .i64 0, .int .u64 0, .string ⟨#[]⟩]) ∧ i.size = 4 ∧ i.bytes = 40 := by
    have h := infoV
    cases hi : Tryd.prog.info? 25 with
    | none => rw [hi] at h; cases h
    | some i => rw [hi] at h; simp only [Option.map_some, Option.some.injEq, Prod.mk.injEq] at h; exact ⟨i, rfl, h.1, h.2.1, h.2.2⟩
  have HM := Lib.hid hm
  have H0 := Lib.hid hs0
  clear hm
  go_enter Tryd.func49, Tryd.ntmps49
  go_wp2_with fail
  go_loopw [0, 4] (fun sv lv wr => ∃ (s : ByteArray) (vs : List V), sv = .string s ∧ s.size ≤ 1000000 ∧ vs.length ≤ 8 ∧ Hid (s.size ≤ s0.size ∧ (s0.size = 0 → vs = [])) ∧ Hid (∀ x ∈ vs, x.inn) ∧ Hid (Own w.heap.size vs lv wr) ∧ Hid (Below w.heap.size w wr) ∧ Hid (Sofar s0 s vs)) (fun sv _ _ => strLen sv)
  case atStart => exact ⟨s0, [], rfl, H0.out, by simp, Lib.hid ⟨Nat.le_refl _, fun _ => rfl⟩, Lib.hid (by simp), Lib.hid (World.ownsRow_nil _ _ _ _), Lib.hid (Below.refl _ _), Lib.hid (Sofar.start s0)⟩
  case round =>
    obtain ⟨s, vs, rfl, hs, hv8, HE, HI, HO, HB, HS⟩ := hrel
    obtain ⟨ao, n', cap, rfl, hn'⟩ : ∃ ao n' cap, u4 = .slice ao n' cap ∧ n' = vs.length := by
      rcases HO.out.2 with ⟨hv, h0⟩ | ⟨g, cap, cur, hv, _⟩
      · exact ⟨_, _, _, hv, h0.symm⟩
      · exact ⟨_, _, _, hv, rfl⟩
    subst hn'
    rcases hsl : s.data.toList with _ | ⟨c, r⟩
    · have g : s.toList.isEmpty = true := by rw [ByteArray.toList_eq, hsl]; rfl
      have HX : Hid (∀ us, Good us → body us = s0.data.toList → vs = us) := Lib.hid (HS.out.all (.inl hsl))
      clear hsl
      go_wp2_with fail
      go_ret2
      exact ⟨vs, _, true, rfl, ⟨HO.out, HI.out, hv8, HE.out.2, fun us h1 h2 => ⟨rfl, HX.out us h1 h2⟩⟩, HB.out⟩
    · obtain ⟨h0, hc, hsz⟩ := Rd.list_of s hsl
      have g : s.toList.isEmpty = false := by rw [ByteArray.toList_eq, hsl]; rfl
      have hpos : (0 : Int) < s.size := by omega
      rcases Decidable.em (c = 0) with hc0 | hc0
      · have g2 : ((s[0].toNat : Int) != 0) = false := by rw [hc, hc0]; rfl
        have HX : Hid (∀ us, Good us → body us = s0.data.toList → vs = us) := Lib.hid (HS.out.all (.inr (.inl ⟨r, by rw [hsl, hc0]⟩)))
        clear hsl hc hc0
        go_wp2_with fail
        go_ret2
        exact ⟨vs, _, true, rfl, ⟨HO.out, HI.out, hv8, HE.out.2, fun us h1 h2 => ⟨rfl, HX.out us h1 h2⟩⟩, HB.out⟩
      · have g2 : ((s[0].toNat : Int) != 0) = true := by
          rw [hc, bne_iff_ne]; intro q
          exact hc0 (UInt8.toNat_inj.1 (by have e9 : (0 : UInt8).toNat = 0 := rfl; omega))
        rcases Nat.lt_or_ge vs.length 8 with h8 | h8
        · have f8 : (vs.length : Int) < 8 := by omega
          have hclt := s[0].toNat_lt
          have hw1 : IntKind.i64.wrap (s[0].toNat : Int) = (s[0].toNat : Int) := by rw [IntKind.wrap_i64]; omega
          have hw2 : IntKind.i64.wrap ((s[0].toNat : Int) - 1) = (s[0].toNat : Int) - 1 := by rw [IntKind.wrap_i64]; omega
          have hc1 : 1 ≤ s[0].toNat := by rcases Nat.eq_zero_or_pos s[0].toNat with q | q; rw [q] at g2; cases g2; exact q
          have h1s : 1 ≤ s.size := h0
          have h1s' : (1 : Int) ≤ s.size := by omega
          have HNX : Hid (∀ us, Good us → body us = s0.data.toList → ∃ u X, u.right = true ∧ u.inn ∧ (s[0].toNat : Int) - 1 = u.k ∧ r = rest u ++ X ∧ vs ++ [u] = us.take (vs.length + 1) ∧ X = body (us.drop (vs.length + 1))) := Lib.hid (by
            rw [hc]; exact HS.out.next c r hsl hc0)
          have HSZ := Lib.hid hsz
          have hRl : (s.extract 1 s.size).data.toList = r := by rw [str_tail, hsl]; rfl
          have HRL := Lib.hid hRl
          clear hc hsl hc0 hsz hRl
          go_wp2_with fail
          go_quiet (fail)
          go_wp2_with fail
          generalize hRR : s.extract 1 s.size = R
          obtain ⟨k, hk⟩ : ∃ k : Int, k = (s[0].toNat : Int) - 1 := ⟨_, rfl⟩
          rw [← hk]
          have hRl : R.data.toList = r := by rw [← hRR]; exact HRL.out
          have hRs : R.size = r.length := by rw [← hRl]; simp
          have hRs2 : R.size < s.size := by have := HSZ.out; omega
          have hk0 : 0 ≤ k := by omega
          have hk1 : k ≤ 254 := by omega
          have HK := Lib.hid hk
          have HRl := Lib.hid hRl
          have HRs := Lib.hid hRs
          have HBD : Hid (Below w.heap.size w (wr.drewN nq)) := Lib.hid (below_drewN HB.out _)
          have HOD : Hid (Own w.heap.size vs (.slice ao vs.length cap) (wr.drewN nq)) := Lib.hid (owns_later HO.out (below_drewN (Below.refl _ _) _))
          have HMD := Lib.hid (HM.out.later HBD.out)
          have hN := size_any k R (by omega) (wr.drewN nq) HMD.out
          obtain ⟨N, hNN⟩ : ∃ N, N = sizeI k R.data.toList := ⟨_, rfl⟩
          rw [← hNN] at hN
          have HNN := Lib.hid hNN
          clear hk hRl hRs hNN hRR
          generalize wr.drewN nq = W at *
          refine hN.mono ?_
          rintro e w1 ⟨rfl, rfl⟩
          clear hN
          rcases Int.lt_or_le N 0 with hneg | hnn
          · have f9 : N < 0 := hneg
            have HX : Hid (∀ us, Good us → body us = s0.data.toList → False) := Lib.hid (fun us h1 h2 => by
              obtain ⟨u, X, hr, _, hku, hru, _⟩ := HNX.out us h1 h2
              have := rest_size hr X
              rw [← hru, ← hku, ← HRl.out, ← HK.out, ← HNN.out] at this
              omega)
            go_wp2_with fail
            go_ret2
            exact ⟨[], _, false, rfl, ⟨World.ownsRow_nil _ _ _ _, by simp, by simp, fun _ => rfl, fun us h1 h2 => (HX.out us h1 h2).elim⟩, HBD.out⟩
          · have f9 : ¬ N < 0 := by omega
            obtain ⟨n, hn⟩ := Int.eq_ofNat_of_zero_le hnn
            subst hn
            clear hnn
            rcases Nat.lt_or_ge R.size n with hbig | hfit
            · have f10 : (R.size : Int) < (n : Int) := by omega
              have HX : Hid (∀ us, Good us → body us = s0.data.toList → False) := Lib.hid (fun us h1 h2 => by
                obtain ⟨u, X, hr, _, hku, hru, _⟩ := HNX.out us h1 h2
                have := rest_size hr X
                rw [← hru, ← hku, ← HRl.out, ← HK.out, ← HNN.out] at this
                have h3 := congrArg List.length hru
                rw [List.length_append, ← HRs.out] at h3
                omega)
              go_wp2_with fail
              go_ret2
              exact ⟨[], _, false, rfl, ⟨World.ownsRow_nil _ _ _ _, by simp, by simp, fun _ => rfl, fun us h1 h2 => (HX.out us h1 h2).elim⟩, HBD.out⟩
            · have f10 : ¬ (R.size : Int) < (n : Int) := by omega
              have f11 : (n : Int) ≤ R.size := by omega
              have hTs : (R.extract 0 n).size = n := by simp; omega
              have hTl : (R.extract 0 n).data.toList = R.data.toList.take n := by
                have := Lib.extract_toList R 0 n
                rw [ByteArray.toList_eq] at this
                rw [this]; simp
              have hVl : (R.extract n R.size).data.toList = R.data.toList.drop n := by
                have := Lib.extract_toList R n R.size
                rw [ByteArray.toList_eq] at this
                rw [this, List.take_of_length_le (by simp)]
              have hVs : (R.extract n R.size).size = R.size - n := by simp
              have hk1' : k = 1 → n = 1 := fun q => by have := HNN.out; rw [q] at this; unfold sizeI at this; simp at this; omega
              have hk8' : k = 2 ∨ k = 3 → n = 8 := fun q => by have := HNN.out; unfold sizeI at this; rw [if_neg (by omega), if_neg (by omega), if_pos q] at this; omega
              have hvo := fun u hu => valof_any k (by omega) hk1 (R.extract 0 n) (by omega) (fun q => by have := hk1' q; omega) (fun q => by have := hk8' q; omega) u hu
              have HTs := Lib.hid hTs
              have HTl := Lib.hid hTl
              have HVl := Lib.hid hVl
              have HVs := Lib.hid hVs
              clear hTs hTl hVl hVs hk1' hk8'
              go_wp2_with fail
              refine (hvo _ HMD.out).mono ?_
              rintro e w2 ⟨v, rfl, ⟨hvi, hvu⟩, hb2⟩
              have HVI := Lib.hid hvi
              have HVU := Lib.hid hvu
              have HB2 := Lib.hid (HBD.out.trans (hb2.mono HBD.out.size))
              have HO2 := owns_later HOD.out hb2
              have hsz2 := HB2.out.size
              clear hvi hvu hb2 hvo
              simp only [V.agg]
              go_wp2_with (at_builtin; refine wpList_append_own _ rfl _ _ 30 rfl w.heap.size 25 i0 (.agg #[.int .i64 0, .int .i64 0, .int .u64 0, .string ⟨#[]⟩]) 4 40 Tryd.underlying30 hi hz0 hz1 hz2 rfl (by decide) _ _ _ rfl (HO2.alloc _) ⟨w2.heap.size, 0, none⟩ 1 1 [.int .i64 v.k, .int .i64 v.n, .int .u64 v.b, .string (S v.s)] rfl rfl ?c1 ?c2 ?c3 ?c4 ?c5 ?_)
              case c1 =>
                intro j y hj
                rcases cell_four _ _ _ _ j y hj with ⟨rfl, rfl⟩ | ⟨rfl, rfl⟩ | ⟨rfl, rfl⟩ | ⟨rfl, rfl⟩
                · exact (Ref.Vb.new w2 v.k v.n v.b (S v.s)).c0
                · exact (Ref.Vb.new w2 v.k v.n v.b (S v.s)).c1
                · exact (Ref.Vb.new w2 v.k v.n v.b (S v.s)).c2
                · exact (Ref.Vb.new w2 v.k v.n v.b (S v.s)).c3
              case c2 => intro y hy; simp at hy; rcases hy with rfl | rfl | rfl | rfl <;> rfl
              case c3 => unfold maxLen; omega
              case c4 => omega
              case c5 => simp; omega
              intro v' w3 hown' hgrow _
              have hlt2 := World.ownsRow.lt HO2
              have HB3 := Lib.hid ((HB2.out.alloc hsz2 (.cells #[.int .i64 v.k, .int .i64 v.n, .int .u64 v.b, .string (S v.s)] 25)).grown hgrow (by simp; omega) (fun k hk => (hlt2 k hk).1))
              have HO3 : Hid (Own w.heap.size (vs ++ [v]) v' w3) := Lib.hid (by
                unfold Own
                rw [List.length_append, flat_snoc]
                exact hown')
              have HI3 : Hid (∀ x ∈ vs ++ [v], x.inn) := Lib.hid (by
                intro x hx
                rcases List.mem_append.1 hx with hx | hx
                · exact HI.out x hx
                · rw [List.mem_singleton.1 hx]; exact HVI.out)
              have HS3 : Hid (Sofar s0 (R.extract n R.size) (vs ++ [v])) := Lib.hid (by
                intro us h1 h2
                obtain ⟨u, X, hr, hiu, hku, hru, htk, hX⟩ := HNX.out us h1 h2
                have hsz := rest_size hr X
                rw [← hru, ← hku, ← HRl.out, ← HK.out, ← HNN.out] at hsz
                have hnl : n = (rest u).length := by omega
                have hv : v = u := HVU.out u hr hiu (by rw [← hku, HK.out]) (by rw [HTl.out, HRl.out, hru, hnl, List.take_left])
                rw [hv, List.length_append, List.length_singleton]
                exact ⟨htk, by rw [HVl.out, HRl.out, hru, hnl, List.drop_left, hX]⟩)
              have HVS2 : (R.extract n R.size).size ≤ 1000000 := by rw [HVs.out]; omega
              have HVS3 : (R.extract n R.size).size < s.size := by rw [HVs.out]; omega
              have HE3 : Hid ((R.extract n R.size).size ≤ s0.size ∧ (s0.size = 0 → vs ++ [v] = [])) := Lib.hid (by have := HE.out.1; exact ⟨by omega, fun q => by omega⟩)
              clear hown' hgrow HO2 hlt2
              go_wp2_with fail
              go_roundw
              case rel => exact ⟨R.extract n R.size, vs ++ [v], rfl, HVS2, by simp; omega, HE3, HI3, HO3, HB3, HS3⟩
              case measure => exact HVS3
        · have f8 : ¬ (vs.length : Int) < 8 := by omega
          have HX : Hid (∀ us, Good us → body us = s0.data.toList → vs = us) := Lib.hid (HS.out.all (.inr (.inr h8)))
          clear hsl hc hc0
          go_wp2_with fail
          go_ret2
          exact ⟨vs, _, true, rfl, ⟨HO.out, HI.out, hv8, HE.out.2, fun us h1 h2 => ⟨rfl, HX.out us h1 h2⟩⟩, HB.out⟩
end Ky
end Go.Proofs.YtppdebhcaodcnaaDoor
