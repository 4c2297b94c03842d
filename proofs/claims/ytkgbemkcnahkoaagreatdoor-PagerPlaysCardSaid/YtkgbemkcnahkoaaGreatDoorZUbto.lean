import Derived.Test.YtkgbemkcnahkoaaGreatDoorZVyto
import Derived.Test.YtkgbemkcnahkoaaGreatDoorZVu
namespace Go.Proofs.YtkgbemkcnahkoaaGreatDoor
open Go.RowKit
namespace Pgr
open Wal
open Cod (uB tB uB_ten)
open Dsk (PD RefIs Only Grow KeepQ upd pad pad_len below_keeps zeros owns_later cell_later)
open Crc (S S_of S_size S_append)
theorem rtextS (t : ByteArray) (ht : t.size ≤ 9223372036854775700) (w : World) :
   Calls Tryz.prog 139 #[.string t] w fun e w' => e = .returned (.string (S (tB t.data.toList))) ∧ Below w.heap.size w w' := Wr.rtext_any t ht w
set_option maxHeartbeats 8000000 in
set_option maxRecDepth 100000 in
theorem rrec_any {N base : Nat} {ch : Ch} {sl : Value} {w : World} (h : Pages base ch sl w) (ho : Ok N ch) (hN : N ≤ 1024) :
   Calls Tryz.prog 90 #[sl] w fun e w' => e = .returned (.string (S (record ch))) ∧ Below w.heap.size w w' := by
 obtain ⟨ao, cap, rfl, hl, hm⟩ := h.form
 have HO := hidm ho
 have hc := ho.count
 have HP := hidm h
 have HNN := hidm hN
 obtain ⟨n, hn⟩ : ∃ n, n = ch.length := ⟨_, rfl⟩
 rw [← hn] at HP hl hc ⊢
 have HN := hidm hn
 have nw : IntKind.u64.wrap (n : Int) = (n : Int) := by simp only [IntKind.wrap_u64]; omega
 have UN := hidm (fun w => ruint_any n (by omega) w)
 have HPL := hidm (fun i => pre_len ho hN i)
 have HP0 := hidm (show S (uB n) = S (pre ch 0) from by unfold pre; rw [← hn]; simp)
 have HN24 := hidm (show n ≤ 1024 from by omega)
 have hlb : n ≤ 9223372036854775807 := by omega
 clear h ho hN hn hc hl hm
 go_enter Tryz.func90, Tryz.ntmps90
 go_wp2_with fail
 refine (UN.out _).mono ?_
 rintro e w1 ⟨rfl, hb1⟩
 rw [HP0.out]
 have HB1 := hidm hb1
 clear hb1 UN
 go_wp2_with fail
 go_loopw [3, 4] (fun ss ii wr => ∃ i : Nat, ss = .string (S (pre ch i)) ∧ ii = .int .i64 (i : Int) ∧ i ≤ n ∧ Hid (Below w.heap.size w wr)) (fun _ ii _ => (n - (intOf ii).toNat))
 case atStart => exact ⟨0, rfl, rfl, Nat.zero_le _, HB1⟩
 case round =>
   rename World => wr
   obtain ⟨i, rfl, rfl, hi, HB⟩ := hrel
   rcases Nat.lt_or_ge i n with hlt | hge
   · have f1 : (i : Int) < (n : Int) := by omega
     have hic : i < ch.length := by rw [← HN.out]; exact hlt
     obtain ⟨gb, cap0, e0, _, hgl, p0, p1⟩ := HP.out.at i hic
     rw [← HN.out] at e0
     simp only [Value.slice.injEq] at e0
     obtain ⟨e0, -, -⟩ := e0
     subst e0
     rw [show 2 * i = i * 2 by omega] at p0 p1
     obtain ⟨k, hk⟩ : ∃ q, q = ch[i].1 := ⟨_, rfl⟩
     obtain ⟨s, hs⟩ : ∃ s, s = ch[i].2 := ⟨_, rfl⟩
     rw [← hk] at p0
     rw [← hs] at p1
     have hmem : (k, s) ∈ ch := by rw [hk, hs]; exact List.getElem_mem hic
     have hk24 : k < 1024 := by have h1 : k < N := HO.out.lt _ hmem; have := HNN.out; omega
     have hsl : s.length = 128 := HO.out.len _ hmem
     have HKP := hidm (fun (u : World) (hb : Below w.heap.size w u) => (show u.cell? ⟨gb, i * 2, none⟩ = some (.int .i64 (k : Int)) ∧ u.cell? ⟨gb, i * 2 + 1, none⟩ = some (.string (S s)) from ⟨cell_later hb p0, cell_later hb p1⟩))
     have kw2 : IntKind.u64.wrap (k : Int) = (k : Int) := by simp only [IntKind.wrap_u64]; omega
     have UK := hidm (fun w => ruint_any k (by omega) w)
     have UB := hidm (fun w => rbare_any (S s) (by rw [S_size]; omega) w)
     have hbs : (S s).data.toList = s := rfl
     rw [hbs] at UB
     have hbl : (bare s).length ≤ 128 := by have := bare_len s; omega
     have UT := hidm (fun w => rtextS (S (bare s)) (by rw [S_size]; omega) w)
     have hbs2 : (S (bare s)).data.toList = bare s := rfl
     rw [hbs2] at UT
     obtain ⟨j, hj⟩ : ∃ j, j = i + 1 := ⟨_, rfl⟩
     have i1 : (i : Int) + 1 = (j : Int) := by omega
     have i1w : IntKind.i64.wrap (j : Int) = (j : Int) := by have := HN24.out; simp only [IntKind.wrap_i64]; omega
     have HJ := hidm hj
     have HJN := hidm (show j ≤ n from by omega)
     obtain ⟨a, ha⟩ : ∃ a, a = S (pre ch i) := ⟨_, rfl⟩
     obtain ⟨b, hb⟩ : ∃ b, b = S (uB k) := ⟨_, rfl⟩
     obtain ⟨c, hc⟩ : ∃ c, c = S (tB (bare s)) := ⟨_, rfl⟩
     have hal : a.size ≤ 140000 := by rw [ha, S_size]; exact HPL.out i
     have hbl2 : b.size ≤ 10 := by rw [hb, S_size]; exact uB_ten k (by omega)
     have hcl : c.size ≤ 200 := by
       rw [hc, S_size]
       have h3 := uB_ten (bare s).length (by omega)
       unfold tB
       simp only [List.length_append]
       omega
     have n1 : ¬ 9223372036854775807 < a.size + b.size := by omega
     have n2 : ¬ 9223372036854775807 < a.size + b.size + c.size := by omega
     have HE := hidm (show a ++ b ++ c = S (pre ch j) from by
       rw [ha, hb, hc, S_append, S_append, hj, pre_succ hic, hk, hs])
     rw [← hb] at UK
     rw [← hc] at UT
     rw [← ha]
     have HBD := hidm (HB.out.trans (((Below.refl wr.heap.size wr).drew).mono HB.out.size))
     clear hj hk hs hmem hk24 hsl hic ha hb hc hal hbl2 hcl hbl p0 p1 hgl hbs hbs2
     go_upto_region 5 with fail
     refine wp_region_held_drew (S := fun u => Below w.heap.size w u) (by kernel_rfl) HBD.out (fun hHeld => ?_)
     refine Man.t1 0 hHeld ?_
     (try simp only [Act.put, Mqa, Mqb, Mqc])
     refine Man.t1 1 hHeld ?_
     (try simp only [Act.put, Mqa, Mqb, Mqc])
     refine Man.t1 2 hHeld ?_
     (try simp only [Act.put, Mqa, Mqb, Mqc])
     refine Man.t1 3 hHeld ?_
     (try simp only [Act.put, Mqa, Mqb, Mqc])
     refine Man.t1 4 hHeld ?_
     (try simp only [Act.put, Mqa, Mqb, Mqc])
     refine Man.take1 (i := 5) (v := ?_) rfl (by kernel_rfl) (by kernel_rfl) (by kernel_rfl) (fun _ _ _ h => h) (by rfl) ?_ hHeld ?_
     rotate_left
     · intro u hSu
       have hcc := HKP.out u hSu
       obtain ⟨hc1, hc2⟩ := hcc
       go_simp
       (try with_reducible rfl)
     (try simp only [Act.put, Mqa, Mqb, Mqc])
     refine Man.t1 6 hHeld ?_
     (try simp only [Act.put, Mqa, Mqb, Mqc])
     refine Man.t1 9 hHeld ?_
     (try simp only [Act.put, Mqa, Mqb, Mqc])
     refine Man.t1 10 hHeld ?_
     (try simp only [Act.put, Mqa, Mqb, Mqc])
     refine Man.t1 11 hHeld ?_
     (try simp only [Act.put, Mqa, Mqb, Mqc])
     refine Man.t1 12 hHeld ?_
     (try simp only [Act.put, Mqa, Mqb, Mqc])
     refine Man.take1 (i := 13) (v := ?_) rfl (by kernel_rfl) (by kernel_rfl) (by kernel_rfl) (fun _ _ _ h => h) (by rfl) ?_ hHeld ?_
     rotate_left
     · intro u hSu
       have hcc := HKP.out u hSu
       obtain ⟨hc1, hc2⟩ := hcc
       go_simp
       (try with_reducible rfl)
     (try simp only [Act.put, Mqa, Mqb, Mqc])
     refine Man.one (i := 7) rfl (by kernel_rfl) (fun K hK => ?_)
     go_simp
     with_reducible refine (UK.out _).mono ?_
     rintro e w5 ⟨rfl, hb5⟩
     refine hK.out _ _ (hHeld.trans (hb5.mono hHeld.size)) (fun hNew => ?_)
     clear hb5
     clear hK K hHeld
     have hHeld := hNew
     clear hNew
     skip
     refine Man.t1 8 hHeld ?_
     (try simp only [Act.put, Mqa, Mqb, Mqc])
     refine Man.one (i := 14) rfl (by kernel_rfl) (fun K hK => ?_)
     go_simp
     with_reducible refine (UB.out _).mono ?_
     rintro e w6 ⟨rfl, rfl⟩
     refine hK.out _ _ hHeld (fun hNew => ?_)
     clear hK K hHeld
     have hHeld := hNew
     clear hNew
     skip
     refine Man.one (i := 15) rfl (by kernel_rfl) (fun K hK => ?_)
     go_simp
     with_reducible refine (UT.out _).mono ?_
     rintro e w7 ⟨rfl, hb7⟩
     refine hK.out _ _ (hHeld.trans (hb7.mono hHeld.size)) (fun hNew => ?_)
     clear hb7
     clear hK K hHeld
     have hHeld := hNew
     clear hNew
     skip
     refine Man.t1 16 hHeld ?_
     (try simp only [Act.put, Mqa, Mqb, Mqc])
     refine Man.t1 17 hHeld ?_
     (try simp only [Act.put, Mqa, Mqb, Mqc])
     refine wpAnyH_done (by kernel_rfl) ?_ _
     have HBE := hidm hHeld
     clear hHeld
     go_wp2_with fail
     go_roundw
     case rel => exact ⟨j, by rw [← HE.out], rfl, HJN.out, HBE⟩
     case measure => have := HJ.out; have := HJN.out; simp [intOf]; omega
   · obtain rfl : i = n := by omega
     have f1 : ¬ (i : Int) < (i : Int) := by omega
     have HE := hidm (show S (pre ch i) = S (record ch) from by rw [HN.out, pre_all])
     obtain ⟨a, ha⟩ : ∃ a, a = S (pre ch i) := ⟨_, rfl⟩
     rw [← ha] at HE ⊢
     clear ha
     go_wp2_with fail
     go_ret
     exact ⟨by rw [← HE.out]; rfl, HB.out⟩
structure HomeI (M R : Nat) (g : DL) (d : PD) (F : Nat → Prop) (B : Nat) (ch : Ch) (w wx : World) (i : Nat) : Prop where
 ex : ∃ F', RL M R g (exec d (wrts (pws B (ch.take i)))) F' wx ∧ To F F' w wx
 ok : run d (wrts (pws B (ch.take i))) = (true, exec d (wrts (pws B (ch.take i))))
set_option maxHeartbeats 8000000 in
set_option maxRecDepth 100000 in
theorem rhome_any {X M R base : Nat} {v : DV} {g : DL} {d : PD} {F : Nat → Prop} {w : World} {ch : Ch} {sl slx : Value} (h : RL M R g d F w) (hX : ¬ F X) (hrow : w.heap[X]? = some (.cells (rpcells R M v slx) 50 (0, 0))) (hp : Pages base ch sl w) (hs : ∀ b, sl.ownBlock = some b → ¬ F b)
   (ho : Ok v.N ch) (hsz : v.N ≤ 1024 ∧ v.n ≤ 998) (hfit : 2 + v.n + v.N = d.n) (hc : d.cs.length ≤ 900000) (hw : d.wr ≤ 900000) :
   Calls Tryz.prog 47 #[.pointer (some ⟨X, 0, none⟩), sl] w fun e w' => Got fun F' => e = .returned (.int .i64 (code (run d (wrts (pws (2 + v.n) ch))).1)) ∧ RL M R g (run d (wrts (pws (2 + v.n) ch))).2 F' w' ∧ To F F' w w' := by
 obtain ⟨ao, cap, rfl, hl, hm⟩ := hp.form
 have HO := hidm ho
 have hcn := ho.count
 have HP := hidm hp
 obtain ⟨n, hn⟩ : ∃ n, n = ch.length := ⟨_, rfl⟩
 obtain ⟨B, hB⟩ : ∃ x, x = 2 + v.n := ⟨_, rfl⟩
 rw [← hn] at HP hl hcn hs ⊢
 rw [← hB] at hfit ⊢
 have HN := hidm hn
 have HN24 := hidm (show n ≤ 1024 ∧ B ≤ 1000 ∧ v.N ≤ 1024 ∧ B + v.N = d.n ∧ d.cs.length ≤ 900000 ∧ d.wr ≤ 900000 from by omega)
 have hXl : X < w.heap.size := lt_of_block hrow
 have HXC := hidm (fun (u : World) (hb : Only F w u) => (show u.cell? ⟨X, 0, none⟩ = some (.pointer (some ⟨R, 0, none⟩)) ∧ u.cell? ⟨X, 2, none⟩ = some (.int .i64 (B : Int)) from by
   have h1 := hb.keeps hX hrow
   exact ⟨by rw [cell_of_row u X 0 _ _ (0, 0) h1]; rfl, by rw [cell_of_row u X 2 _ _ (0, 0) h1, hB]; rfl⟩))
 have HS := hidm hs
 have HR := hidm h
 have hlb : n ≤ 9223372036854775807 := by omega
 clear h hX hrow hp hs ho hsz hfit hc hw hn hB hcn hl hm hXl
 go_enter Tryz.func47, Tryz.ntmps47
 go_wp2_with fail
 go_loopw [5, 6] (fun ii ee wr => ∃ i : Nat, ii = .int .i64 (i : Int) ∧ i ≤ n ∧ Hid (HomeI M R g d F B ch w wr i)) (fun ii _ _ => (n - (intOf ii).toNat))
 case atStart => exact ⟨0, rfl, Nat.zero_le _, hidm ⟨⟨F, HR.out, .refl⟩, rfl⟩⟩
 case round =>
   rename World => wr
   obtain ⟨i, rfl, hi, HI⟩ := hrel
   rcases Nat.lt_or_ge i n with hlt | hge
   · have f1 : (i : Int) < (n : Int) := by omega
     have hic : i < ch.length := by rw [← HN.out]; exact hlt
     obtain ⟨gb, cap0, e0, _, hgl, p0, p1⟩ := HP.out.at i hic
     rw [← HN.out] at e0
     simp only [Value.slice.injEq] at e0
     obtain ⟨e0, -, -⟩ := e0
     subst e0
     rw [show 2 * i = i * 2 by omega] at p0 p1
     obtain ⟨k, hk⟩ : ∃ q, q = ch[i].1 := ⟨_, rfl⟩
     obtain ⟨s, hs⟩ : ∃ s, s = ch[i].2 := ⟨_, rfl⟩
     rw [← hk] at p0
     rw [← hs] at p1
     have hmem : (k, s) ∈ ch := by rw [hk, hs]; exact List.getElem_mem hic
     have hkN : k < v.N := HO.out.lt _ hmem
     have hsl : s.length = 128 := HO.out.len _ hmem
     have HKP := hidm (fun (u : World) (hb : Only F w u) => (show u.cell? ⟨X, 0, none⟩ = some (.pointer (some ⟨R, 0, none⟩)) ∧ u.cell? ⟨X, 2, none⟩ = some (.int .i64 (B : Int)) ∧ u.cell? ⟨gb, i * 2, none⟩ = some (.int .i64 (k : Int)) ∧ u.cell? ⟨gb, i * 2 + 1, none⟩ = some (.string (S s)) from
       have hk0 := hb.block gb hgl (HS.out gb rfl)
       ⟨(HXC.out u hb).1, (HXC.out u hb).2, (World.cell?_of_block (w := w) (a := ⟨gb, i * 2, none⟩) hk0).trans p0, (World.cell?_of_block (w := w) (a := ⟨gb, i * 2 + 1, none⟩) hk0).trans p1⟩))
     obtain ⟨j, hj⟩ : ∃ j, j = i + 1 := ⟨_, rfl⟩
     have i1 : (i : Int) + 1 = (j : Int) := by omega
     have i1w : IntKind.i64.wrap (j : Int) = (j : Int) := by have := HN24.out; simp only [IntKind.wrap_i64]; omega
     have HJ := hidm hj
     have HJN := hidm (show j ≤ n from by omega)
     obtain ⟨kk, hkk⟩ : ∃ x, x = B + k := ⟨_, rfl⟩
     have k1 : (B : Int) + (k : Int) = (kk : Int) := by omega
     have k1w : IntKind.i64.wrap (kk : Int) = (kk : Int) := by have := HN24.out; simp only [IntKind.wrap_i64]; omega
     have HKK := hidm (show wrS kk s = [.wr (B + ch[i].1) ch[i].2] from by rw [hkk, hk, hs]; rfl)
     obtain ⟨F0, hrl, hto⟩ := HI.out.ex
     have HOK := hidm HI.out.ok
     have HRM := hidm (run_more hic HI.out.ok)
     obtain ⟨di, hdi⟩ : ∃ x, x = exec d (wrts (pws B (ch.take i))) := ⟨_, rfl⟩
     rw [← hdi] at hrl HRM
     have hfew := run_few (wrts (pws B (ch.take i))) d
     rw [HOK.out, ← hdi, pws_len, List.length_take] at hfew
     have HK2 := hidm (show kk < di.n from by have := HN24.out; have := hfew.1; simp only at this; omega)
     have HC2 := hidm (show di.cs.length < 1000000 from by have := HN24.out; have := hfew.2.1; simp only at this; omega)
     have HW2 := hidm (show di.wr < 1000000 from by have := HN24.out; have := hfew.2.2.1; simp only at this; omega)
     have HSL := hidm (show (S s).size ≤ 128 from by rw [S_size]; omega)
     have HDRL := hidm (hrl.later ((Below.refl wr.heap.size wr).drew))
     have HDT := hidm (hto.trans (.below ((Below.refl wr.heap.size wr).drew)))
     clear hj hk hs hmem hkN hsl p0 p1 hgl hkk hrl hto hdi hfew HI
     go_upto_region 4 with fail
     refine wp_region_held_drew (S := fun u => Only F w u) (by kernel_rfl) HDT.out.1 (fun hHeld => ?_)
     refine Man.t1 0 hHeld ?_
     (try simp only [Act.put, Mqa, Mqb, Mqc])
     refine Man.t1 1 hHeld ?_
     (try simp only [Act.put, Mqa, Mqb, Mqc])
     refine Man.t1 2 hHeld ?_
     (try simp only [Act.put, Mqa, Mqb, Mqc])
     refine Man.take1 (i := 3) (v := ?_) rfl (by kernel_rfl) (by kernel_rfl) (by kernel_rfl) (fun _ _ _ h => h) (by rfl) ?_ hHeld ?_
     rotate_left
     · intro u hSu
       have hcc := HKP.out u hSu
       obtain ⟨hc1, hc2, hc3, hc4⟩ := hcc
       go_simp
       (try with_reducible rfl)
     (try simp only [Act.put, Mqa, Mqb, Mqc])
     refine Man.t1 4 hHeld ?_
     (try simp only [Act.put, Mqa, Mqb, Mqc])
     refine Man.t1 5 hHeld ?_
     (try simp only [Act.put, Mqa, Mqb, Mqc])
     refine Man.t1 6 hHeld ?_
     (try simp only [Act.put, Mqa, Mqb, Mqc])
     refine Man.take1 (i := 7) (v := ?_) rfl (by kernel_rfl) (by kernel_rfl) (by kernel_rfl) (fun _ _ _ h => h) (by rfl) ?_ hHeld ?_
     rotate_left
     · intro u hSu
       have hcc := HKP.out u hSu
       obtain ⟨hc1, hc2, hc3, hc4⟩ := hcc
       go_simp
       (try with_reducible rfl)
     (try simp only [Act.put, Mqa, Mqb, Mqc])
     refine Man.t1 8 hHeld ?_
     (try simp only [Act.put, Mqa, Mqb, Mqc])
     refine Man.t1 9 hHeld ?_
     (try simp only [Act.put, Mqa, Mqb, Mqc])
     refine Man.t1 10 hHeld ?_
     (try simp only [Act.put, Mqa, Mqb, Mqc])
     refine Man.t1 11 hHeld ?_
     (try simp only [Act.put, Mqa, Mqb, Mqc])
     refine Man.take1 (i := 12) (v := ?_) rfl (by kernel_rfl) (by kernel_rfl) (by kernel_rfl) (fun _ _ _ h => h) (by rfl) ?_ hHeld ?_
     rotate_left
     · intro u hSu
       have hcc := HKP.out u hSu
       obtain ⟨hc1, hc2, hc3, hc4⟩ := hcc
       go_simp
       (try with_reducible rfl)
     (try simp only [Act.put, Mqa, Mqb, Mqc])
     refine Man.t1 13 hHeld ?_
     (try simp only [Act.put, Mqa, Mqb, Mqc])
     refine Man.t1 14 hHeld ?_
     (try simp only [Act.put, Mqa, Mqb, Mqc])
     refine Man.t1 15 hHeld ?_
     (try simp only [Act.put, Mqa, Mqb, Mqc])
     refine Man.t1 16 hHeld ?_
     (try simp only [Act.put, Mqa, Mqb, Mqc])
     refine Man.t1 17 hHeld ?_
     (try simp only [Act.put, Mqa, Mqb, Mqc])
     refine Man.take1 (i := 18) (v := ?_) rfl (by kernel_rfl) (by kernel_rfl) (by kernel_rfl) (fun _ _ _ h => h) (by rfl) ?_ hHeld ?_
     rotate_left
     · intro u hSu
       have hcc := HKP.out u hSu
       obtain ⟨hc1, hc2, hc3, hc4⟩ := hcc
       go_simp
       (try with_reducible rfl)
     (try simp only [Act.put, Mqa, Mqb, Mqc])
     refine Man.one (i := 19) rfl (by kernel_rfl) (fun K hK => ?_)
     go_simp
     with_reducible refine (rl_write HDRL.out kk _ HSL.out HK2.out HC2.out HW2.out).mono ?_
     rintro e w5 ⟨F5, rfl, h5, ht5⟩
     have H5 := hidm h5
     have HT5 := hidm (HDT.out.trans ht5)
     clear h5 ht5
     refine hK.out _ _ HT5.out.1 (fun hNew => ?_)
     clear hK K hHeld
     have hHeld := hNew
     clear hNew
     skip
     refine Man.t1 20 hHeld ?_
     (try simp only [Act.put, Mqa, Mqb, Mqc])
     refine wpAnyH_done (by kernel_rfl) ?_ _
     clear hHeld
     have h5 := H5.out
     change RL M R g (run di (wrS kk s)).2 F5 w5 at h5
     rw [HKK.out] at h5 ⊢
     clear H5
     have H5 := hidm h5
     clear h5
     obtain ⟨d2, hd2⟩ : ∃ x, x = (run di [.wr (B + ch[i].1) ch[i].2]).2 := ⟨_, rfl⟩
     rw [← hd2] at H5
     have HD2 := hidm hd2
     clear hd2 i1 i1w k1 k1w
     rcases hr : (run di [.wr (B + ch[i].1) ch[i].2]).1 with _ | _
     · have e1 : code false = 6 := rfl
       (try rw [e1])
       have HST := hidm (run_stop (x := d2) (HRM.out.trans (Prod.ext hr HD2.out.symm)))
       clear hr e1
       go_wp2_with fail
       go_ret
       exact ⟨⟨F5, by rw [HST.out]; rfl, by rw [HST.out]; exact H5.out, HT5.out⟩⟩
     · have e1 : code true = 0 := rfl
       (try rw [e1])
       have HGO := hidm (HRM.out.trans (Prod.ext hr HD2.out.symm : run di [.wr (B + ch[i].1) ch[i].2] = (true, d2)))
       have HEX := hidm (run_fine HGO.out)
       have HIN := hidm (show HomeI M R g d F B ch w w5 j from by
         rw [HJ.out]
         refine ⟨⟨F5, ?_, HT5.out⟩, ?_⟩
         · rw [← HEX.out]; exact H5.out
         · rw [HGO.out, ← HEX.out])
       have i1 : (i : Int) + 1 = (j : Int) := by have := HJ.out; omega
       have i1w : IntKind.i64.wrap (j : Int) = (j : Int) := by have := HN24.out; have := HJN.out; simp only [IntKind.wrap_i64]; omega
       clear hr e1
       go_wp2_with fail
       go_roundw
       case rel => exact ⟨j, rfl, HJN.out, HIN⟩
       case measure => have := HJ.out; have := HJN.out; simp [intOf]; omega
   · obtain rfl : i = n := by omega
     have f1 : ¬ (i : Int) < (i : Int) := by omega
     have ht : ch.take i = ch := List.take_of_length_le (by rw [← HN.out]; exact Nat.le_refl _)
     have HOK := HI.out.ok
     obtain ⟨F0, hrl, hto⟩ := HI.out.ex
     rw [ht] at HOK hrl
     have HOK := hidm HOK
     have HRL := hidm hrl
     have HTO := hidm hto
     clear hrl hto ht HI
     go_wp2_with fail
     go_ret
     exact ⟨⟨F0, by first | rfl | (rw [HOK.out]; rfl), by first | exact HRL.out | (rw [HOK.out]; exact HRL.out), HTO.out⟩⟩
end Pgr
end Go.Proofs.YtkgbemkcnahkoaaGreatDoor
namespace Go.Proofs.YtkgbemkcnahkoaaGreatDoor
open Go.RowKit
namespace Pgr
open Wal
open Cod (uB tB uB_ten But)
open Rr (Rrd)
open Dsk (PD RefIs Only Grow KeepQ upd pad pad_len below_keeps zeros owns_later cell_later)
open Crc (S S_of S_size S_append)
theorem rnum_at (r : Nat) (s : ByteArray) (p n : Nat) (X : List UInt8) (w : World) (h : Rrd r s p 0 w) (hp : p ≤ s.size) (hs : s.size ≤ 281474976710656) (hn : n < 18446744073709551616) (hd : s.data.toList.drop p = uB n ++ X) :
   Calls Tryz.prog 88 #[.pointer (some ⟨r, 0, none⟩)] w fun e w' => e = .returned (.int .u64 (n : Int)) ∧ ∃ p' : Nat, Rrd r s p' 0 w' ∧ p' ≤ s.size ∧ s.data.toList.drop p' = X ∧ But r w w' := by
 refine (Sch.rnum_uni r s p 0 w h hp hs).mono fun e w' hh => ?_
 obtain ⟨v, p', e', he, h1, h2, h3, h4, h5⟩ := hh
 obtain ⟨rfl, rfl, h6⟩ := h5 n X rfl hd hn
 exact ⟨he, p', h1, h3, h6, h2⟩
theorem rtext_at (r : Nat) (s : ByteArray) (p : Nat) (t X : List UInt8) (w : World) (h : Rrd r s p 0 w) (hp : p ≤ s.size) (hs : s.size ≤ 281474976710656) (ht : t.length ≤ 1000000) (hd : s.data.toList.drop p = tB t ++ X) :
   Calls Tryz.prog 89 #[.pointer (some ⟨r, 0, none⟩)] w fun e w' => e = .returned (.string (S t)) ∧ ∃ p' : Nat, Rrd r s p' 0 w' ∧ p' ≤ s.size ∧ s.data.toList.drop p' = X ∧ But r w w' := by
 refine (Sch.rtext_uni r s p 0 w h hp hs).mono fun e w' hh => ?_
 obtain ⟨l, p', e', he, h1, h2, h3, h4, h5⟩ := hh
 obtain ⟨rfl, rfl, h6⟩ := h5 t X rfl hd ht
 exact ⟨he, p', h1, h3, h6, h2⟩
theorem Pages.but {base r : Nat} {ch : Ch} {sl : Value} {w w' : World} (h : Pages base ch sl w) (hr : r < base) (hb : But r w w') : Pages base ch sl w' :=
 h.of (fun b e => by
   have h1 := h.lt b e
   exact hb.block b h1.2 (by omega))
section
variable {X M R : Nat} {v : DV} {g : DL} {d : PD} {F : Nat → Prop} {w : World}
set_option maxHeartbeats 8000000 in
set_option maxRecDepth 100000 in
theorem rpparse_any {N : Nat} {ch : Ch} {w : World} (hlen : ∀ u, Below w.heap.size w u → Calls Tryz.prog 28 #[.pointer (some ⟨X, 0, none⟩)] u fun e w' => e = .returned (.int .i64 (N : Int)) ∧ Below u.heap.size u w') (hN : N ≤ 1024) (ho : Ok N ch) :
   Calls Tryz.prog 48 #[.pointer (some ⟨X, 0, none⟩), .string (S (record ch))] w fun e w' => ∃ sl, e = .returned sl ∧ Pages w.heap.size ch sl w' ∧ Below w.heap.size w w' := by
 obtain ⟨i0, hi0, hz0, hz1, hz2⟩ := info_parts infoPg
 have HLEN := hidm hlen
 have HO := hidm ho
 have HNN := hidm hN
 have hc := ho.count
 have hrl := record_len ho hN
 obtain ⟨s, hs⟩ : ∃ s, s = S (record ch) := ⟨_, rfl⟩
 have hss : s.size ≤ 281474976710656 := by rw [hs, S_size]; omega
 have HSS := hidm hss
 have HS := hidm hs
 obtain ⟨n, hn⟩ : ∃ n, n = ch.length := ⟨_, rfl⟩
 have HN := hidm hn
 rw [← hs]
 have hd0 : s.data.toList.drop 0 = uB n ++ ch.flatMap rec1 := by rw [hs, hn]; rfl
 have HD0 := hidm hd0
 have HNR := hidm (show n ≤ 1024 ∧ n ≤ N from by omega)
 have kN : IntKind.u64.wrap (N : Int) = (N : Int) := by simp only [IntKind.wrap_u64]; omega
 have NW := hidm (fun w => Rr.new_any s w)
 clear hlen hN ho hc hrl hs hss hn hd0
 go_enter Tryz.func48, Tryz.ntmps48
 go_wp2_with fail
 refine (NW.out w).mono ?_
 rintro e w1 ⟨r, hrge, rfl, hr, hb⟩
 have HR1 := hidm hr
 have HB1 := hidm hb
 have HRS := hidm (show w.heap.size ≤ r ∧ r < w1.heap.size from ⟨hrge, hr.lt⟩)
 clear hrge hr hb NW
 go_wp2_with fail
 refine (rnum_at r s 0 n _ w1 HR1.out (Nat.zero_le _) HSS.out (by have := HNR.out; omega) HD0.out).mono ?_
 rintro e w2 ⟨rfl, p0, hr, hp, hd, hb⟩
 have HR2 := hidm hr
 have HP2 := hidm hp
 have HD2 := hidm (show s.data.toList.drop p0 = (ch.drop 0).flatMap rec1 from hd)
 have HB2 := hidm (But.then HB1.out hb HRS.out.1 HB1.out.size)
 have HS2 := hidm (show w1.heap.size ≤ w2.heap.size from hb.size)
 clear hr hp hd hb
 go_wp2_with fail
 obtain ⟨bs, hbs⟩ : ∃ x, x = w1.heap.size := ⟨_, rfl⟩
 rw [← hbs] at HRS HS2
 have HBS := hidm (show w.heap.size ≤ bs from by have := HRS.out; omega)
 clear hbs
 go_loopw [7, 8, 9, 10] (fun oo ii _ _ wr => ∃ (i p : Nat) (so : Option Addr) (sc : Nat), ii = .int .i64 (i : Int) ∧ oo = .slice so i sc ∧ i ≤ n ∧ Hid (Rrd r s p 0 wr) ∧ Hid (p ≤ s.size) ∧ Hid (s.data.toList.drop p = (ch.drop i).flatMap rec1) ∧ Hid (Pages bs (ch.take i) (.slice so i sc) wr) ∧ Hid (Below w.heap.size w wr) ∧ Hid (bs ≤ wr.heap.size)) (fun _ ii _ _ _ => (n - (intOf ii).toNat))
 case atStart => exact ⟨0, p0, none, 0, rfl, rfl, Nat.zero_le _, HR2, HP2, HD2, hidm (Pages.nil _ _), HB2, HS2⟩
 case round =>
   rename World => wr
   clear HR2 HP2 HD2 HB2 HS2 HR1 HB1
   obtain ⟨i, p, so, sc, rfl, rfl, hi, HR, HP, HD, HO1, HB, HSZ⟩ := hrel
   have iw : IntKind.u64.wrap (i : Int) = (i : Int) := by have := HNR.out; simp only [IntKind.wrap_u64]; omega
   have iw2 : IntKind.i64.wrap (i : Int) = (i : Int) := by have := HNR.out; simp only [IntKind.wrap_i64]; omega
   rcases Nat.lt_or_ge i n with hlt | hge
   · have f1 : (i : Int) < (n : Int) := by omega
     have f2 : (i : Int) < (N : Int) := by have := HNR.out; omega
     have e2 := HR.out.c2
     have hic : i < ch.length := by rw [← HN.out]; exact hlt
     have hd := drop_rec hic
     have hmem : ch[i] ∈ ch := List.getElem_mem hic
     obtain ⟨k, hk⟩ : ∃ k, k = ch[i].1 := ⟨_, rfl⟩
     obtain ⟨t, ht⟩ : ∃ t, t = ch[i].2 := ⟨_, rfl⟩
     rw [← hk, ← ht] at hd
     have hkN : k < N := by rw [hk]; exact HO.out.lt _ hmem
     have htl : t.length = 128 := by rw [ht]; exact HO.out.len _ hmem
     have HDK := hidm (HD.out.trans hd)
     have HKN := hidm hkN
     have HBL := hidm (show (bare t).length ≤ 128 from by have := bare_len t; omega)
     have HPAD := hidm (show ∀ u, Calls Tryz.prog 40 #[.string (S (bare t))] u fun e w' => e = .returned (.string (S t)) ∧ Below u.heap.size u w' from fun u => by
       have h1 := Dsk.rpad_any (S (bare t)) (by rw [S_size]; have := bare_len t; omega) u
       rw [show pad (S (bare t)).data.toList = t from pad_bare htl] at h1
       exact h1)
     have g1 : ¬ (N : Int) ≤ (k : Int) := by omega
     have kw : IntKind.i64.wrap (k : Int) = (k : Int) := by have := HNN.out; simp only [IntKind.wrap_i64]; omega
     obtain ⟨j, hj⟩ : ∃ j, j = i + 1 := ⟨_, rfl⟩
     have i1 : (i : Int) + 1 = (j : Int) := by omega
     have i1w : IntKind.i64.wrap (j : Int) = (j : Int) := by have := HNR.out; simp only [IntKind.wrap_i64]; omega
     have HJ := hidm hj
     have HJN := hidm (show j ≤ n from by omega)
     have HTK := hidm (show flatP (ch.take i) ++ [.int .i64 (k : Int), .string (S t)] = flatP (ch.take j) from by
       rw [hj, List.take_succ_eq_append_getElem hic, flatP_snoc, hk, ht]; rfl)
     have HTL := hidm (show (ch.take i).length = i ∧ (ch.take j).length = j from ⟨by rw [List.length_take]; omega, by rw [List.length_take]; omega⟩)
     have HPREV := hidm (show ∀ a, i = a + 1 → ∃ q, (ch.take i)[a]? = some q ∧ q.1 < k from fun a ha => by
       refine ⟨ch[a]'(by omega), ?_, ?_⟩
       · rw [List.getElem?_take_of_lt (by omega), List.getElem?_eq_getElem (by omega)]
       · rw [hk]; exact List.pairwise_iff_getElem.1 HO.out.rise a i (by omega) hic (by omega))
     have hbs : (S (bare t)).size ≤ 128 := by rw [S_size]; have := bare_len t; omega
     have g3 : ¬ (128 : Int) < ((S (bare t)).size : Int) := by omega
     obtain ⟨tb, htb⟩ : ∃ x, x = S (bare t) := ⟨_, rfl⟩
     rw [← htb] at HPAD g3
     have HTB := hidm htb
     clear hj hd hmem hk ht hkN htl hic hlt hi hbs htb
     go_wp2_with fail
     refine (HLEN.out wr HB.out).mono ?_
     rintro e w3 ⟨rfl, hb⟩
     have HR3 := hidm (HR.out.later hb)
     have HO3 := hidm (HO1.out.later hb)
     have HB3 := hidm (HB.out.trans (hb.mono HB.out.size))
     have HS3 := hidm (Nat.le_trans HSZ.out hb.size)
     clear hb e2
     go_wp2_with fail
     refine (rnum_at r s p k _ w3 HR3.out HP.out HSS.out (by have := HNN.out; have := HKN.out; omega) HDK.out).mono ?_
     rintro e w4 ⟨rfl, p4, hr, hp, hd, hb⟩
     have HR4 := hidm hr
     have HP4 := hidm hp
     have HD4 := hidm hd
     have HO4 := hidm (HO3.out.but HRS.out.2 hb)
     have HB4 := hidm (But.then HB3.out hb HRS.out.1 HB3.out.size)
     have HS4 := hidm (Nat.le_trans HS3.out hb.size)
     clear hr hp hd hb
     go_wp2_with fail
     refine (rtext_at r s p4 (bare t) _ w4 HR4.out HP4.out HSS.out (by have := HBL.out; omega) HD4.out).mono ?_
     rintro e w5 ⟨rfl, p5, hr, hp, hd, hb⟩
     rw [← HTB.out]
     have HR5 := hidm hr
     have HP5 := hidm hp
     have HD5 := hidm (show s.data.toList.drop p5 = (ch.drop j).flatMap rec1 from by rw [HJ.out]; exact hd)
     have HO5 := hidm (HO4.out.but HRS.out.2 hb)
     have HB5 := hidm (But.then HB4.out hb HRS.out.1 HB4.out.size)
     have HS5 := hidm (Nat.le_trans HS4.out hb.size)
     clear hr hp hd hb
     go_wp2_with fail
     refine (HLEN.out w5 HB5.out).mono ?_
     rintro e w6 ⟨rfl, hb⟩
     have HR6 := hidm (HR5.out.later hb)
     have HO6 := hidm (HO5.out.later hb)
     have HB6 := hidm (HB5.out.trans (hb.mono HB5.out.size))
     have HS6 := hidm (Nat.le_trans HS5.out hb.size)
     clear hb
     rcases i with _ | a
     · have g0 : ¬ (0 : Int) < ((0 : Nat) : Int) := by omega
       have HTK : Hid (flatP ([] : Ch) ++ [.int .i64 (k : Int), .string (S t)] = flatP (ch.take j)) := hidm HTK.out
       go_wp2_with fail
       refine (HPAD.out w6).mono ?_
       rintro e w7 ⟨rfl, hb⟩
       have HR7 := hidm (HR6.out.later hb)
       have HO7 := hidm (HO6.out.later hb)
       have HB7 := hidm (HB6.out.trans (hb.mono HB6.out.size))
       have HS7 := hidm (Nat.le_trans HS6.out hb.size)
       clear hb
       have HO8 := HO7.out
       unfold Pages at HO8
       rw [HTL.out.1] at HO8
       have HO8 := hidm HO8
       have hn24 := HNR.out.1
       have hjn := HJN.out
       have hjj := HJ.out
       go_wp2_with (at_builtin; refine wpList_append_own _ rfl _ _ 48 rfl bs 107 i0 (.agg #[.int .i64 0, .string ⟨#[]⟩]) 2 24 Tryz.underlying48 hi0 hz0 hz1 hz2 rfl (by decide) _ _ _ rfl (HO8.out.alloc _) ⟨w7.heap.size, 0, none⟩ 1 1 [.int .i64 (k : Int), .string (S t)] rfl rfl ?CA ?CB ?CC ?CD ?CE ?_)
       case CA => exact two_cells _ _
       case CB => exact two_one _ _
       case CC => unfold maxLen; omega
       case CD => omega
       case CE => have := HS7.out; (try simp); omega
       intro v' w8 hown hgrow _
       rw [HTK.out] at hown
       obtain ⟨so2, sc2, hvv⟩ : ∃ so sc, v' = .slice so j sc := by
         rw [HJ.out]
         rcases hown.2 with ⟨hv, h0⟩ | ⟨g', c', cur, hv, _⟩
         · exact absurd h0 (by omega)
         · exact ⟨_, _, hv⟩
       subst hvv
       have HO9 := hidm (show Pages bs (ch.take j) (.slice so2 j sc2) w8 from by
         unfold Pages
         rw [HTL.out.2]
         rw [HJ.out] at hown ⊢
         exact hown)
       have HB9 := hidm ((HB7.out.alloc HB7.out.size (.cells #[.int .i64 (k : Int), .string (S t)] 107)).grown hgrow (by have := HB7.out.size; simp; omega) (fun q hq => by have := (HO8.out.lt q hq).1; have := HBS.out; omega))
       have HR9 := hidm (show Rrd r s p5 0 w8 from by
         have h1 := HR7.out.past (.cells #[.int .i64 (k : Int), .string (S t)] 107)
         exact (hgrow.block r h1.lt (fun e => by
           have h2 := (HO8.out.lt r e.symm).1
           have := HRS.out
           omega)).trans h1)
       have HS9 := hidm (show bs ≤ w8.heap.size from Nat.le_trans (Nat.le_trans HS7.out (by simp)) hgrow.size)
       clear hown hgrow
       go_wp2_with fail
       go_roundw
       case rel => exact ⟨j, p5, so2, sc2, by first | rfl | (rw [HJ.out]; rfl) | (rw [HJ.out]; go_num) | (rw [HJ.out]; congr 1; omega), by first | rfl | (rw [HJ.out]; rfl), HJN.out, HR9, HP5, HD5, HO9, HB9, HS9⟩
       case measure => have := HJ.out; have := HJN.out; simp [intOf]; omega
     · have g0 : (0 : Int) < ((a + 1 : Nat) : Int) := by omega
       obtain ⟨q, hq1, hq2⟩ := HPREV.out a rfl
       have hql := (List.getElem?_eq_some_iff.1 hq1).1
       obtain ⟨gb, cap0, e0, _, _, p0, _⟩ := HO6.out.at a hql
       have hqe : (ch.take (a + 1))[a].1 = q.1 := by rw [(List.getElem?_eq_some_iff.1 hq1).2]
       rw [hqe] at p0
       rw [HTL.out.1] at e0
       simp only [Value.slice.injEq] at e0
       obtain ⟨e0, -, -⟩ := e0
       subst e0
       rw [show 2 * a = a * 2 by omega] at p0
       obtain ⟨q1, hqq⟩ : ∃ x, x = q.1 := ⟨_, rfl⟩
       rw [← hqq] at p0 hq2
       have g4 : ¬ (k : Int) ≤ (q1 : Int) := by omega
       have a1 : ((a + 1 : Nat) : Int) - 1 = (a : Int) := by omega
       have a1w : IntKind.i64.wrap (a : Int) = (a : Int) := by have := HNR.out; have := HJN.out; have := HJ.out; simp only [IntKind.wrap_i64]; omega
       have HSPL := hidm hqq
       clear hq1 hq2 hqe hqq
       go_wp2_with fail
       refine (HPAD.out w6).mono ?_
       rintro e w7 ⟨rfl, hb⟩
       have HR7 := hidm (HR6.out.later hb)
       have HO7 := hidm (HO6.out.later hb)
       have HB7 := hidm (HB6.out.trans (hb.mono HB6.out.size))
       have HS7 := hidm (Nat.le_trans HS6.out hb.size)
       clear hb
       have HO8 := HO7.out
       unfold Pages at HO8
       rw [HTL.out.1] at HO8
       have HO8 := hidm HO8
       have hn24 := HNR.out.1
       have hjn := HJN.out
       have hjj := HJ.out
       go_wp2_with (at_builtin; refine wpList_append_own _ rfl _ _ 48 rfl bs 107 i0 (.agg #[.int .i64 0, .string ⟨#[]⟩]) 2 24 Tryz.underlying48 hi0 hz0 hz1 hz2 rfl (by decide) _ _ _ rfl (HO8.out.alloc _) ⟨w7.heap.size, 0, none⟩ 1 1 [.int .i64 (k : Int), .string (S t)] rfl rfl ?CA ?CB ?CC ?CD ?CE ?_)
       case CA => exact two_cells _ _
       case CB => exact two_one _ _
       case CC => unfold maxLen; omega
       case CD => omega
       case CE => have := HS7.out; (try simp); omega
       intro v' w8 hown hgrow _
       rw [HTK.out] at hown
       obtain ⟨so2, sc2, hvv⟩ : ∃ so sc, v' = .slice so j sc := by
         rw [HJ.out]
         rcases hown.2 with ⟨hv, h0⟩ | ⟨g', c', cur, hv, _⟩
         · exact absurd h0 (by omega)
         · exact ⟨_, _, hv⟩
       subst hvv
       have HO9 := hidm (show Pages bs (ch.take j) (.slice so2 j sc2) w8 from by
         unfold Pages
         rw [HTL.out.2]
         rw [HJ.out] at hown ⊢
         exact hown)
       have HB9 := hidm ((HB7.out.alloc HB7.out.size (.cells #[.int .i64 (k : Int), .string (S t)] 107)).grown hgrow (by have := HB7.out.size; simp; omega) (fun q hq => by have := (HO8.out.lt q hq).1; have := HBS.out; omega))
       have HR9 := hidm (show Rrd r s p5 0 w8 from by
         have h1 := HR7.out.past (.cells #[.int .i64 (k : Int), .string (S t)] 107)
         exact (hgrow.block r h1.lt (fun e => by
           have h2 := (HO8.out.lt r e.symm).1
           have := HRS.out
           omega)).trans h1)
       have HS9 := hidm (show bs ≤ w8.heap.size from Nat.le_trans (Nat.le_trans HS7.out (by simp)) hgrow.size)
       clear hown hgrow
       go_wp2_with fail
       go_roundw
       case rel => exact ⟨j, p5, so2, sc2, by first | rfl | (rw [HJ.out]; rfl) | (rw [HJ.out]; go_num) | (rw [HJ.out]; congr 1; omega), by first | rfl | (rw [HJ.out]; rfl), HJN.out, HR9, HP5, HD5, HO9, HB9, HS9⟩
       case measure => have := HJ.out; have := HJN.out; simp [intOf]; omega
   · obtain rfl : i = n := by omega
     have f1 : ¬ (i : Int) < (i : Int) := by omega
     have ht : ch.take i = ch := List.take_of_length_le (by rw [← HN.out]; exact Nat.le_refl _)
     rw [ht] at HO1
     have HRC := hidm (rrec_any HO1.out HO.out HNN.out)
     rw [← HS.out] at HRC
     have hself : (s.toList == s.toList) = true := by simp
     clear ht
     go_wp2_with fail
     refine HRC.out.mono ?_
     rintro e w9 ⟨rfl, hb9⟩
     have HP9 := hidm ((HO1.out.later hb9).low HBS.out)
     have HB9 := hidm (HB.out.trans (hb9.mono HB.out.size))
     clear hb9 HRC
     go_wp2_with fail
     go_ret
     exact ⟨_, rfl, HP9.out, HB9.out⟩
end
end Pgr
end Go.Proofs.YtkgbemkcnahkoaaGreatDoor
