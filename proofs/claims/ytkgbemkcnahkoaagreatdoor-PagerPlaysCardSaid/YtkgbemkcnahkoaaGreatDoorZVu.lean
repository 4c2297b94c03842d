import Derived.Test.YtkgbemkcnahkoaaGreatDoorZVt
import Derived.Test.YtkgbemkcnahkoaaGreatDoorZVwto
namespace Go.Proofs.YtkgbemkcnahkoaaGreatDoor
open Go.RowKit
namespace Pgr
open Wal
open Dsk (PD RefIs Only Grow KeepQ upd pad pad_len below_keeps zeros)
open Crc (S S_of S_size four more)
theorem gr_slots (x y : List UInt8) : gr (slotP x) (slotP y) = if (slotP x).1 < (slotP y).1 then slotP y else slotP x := by
 have h := slotP_lt x
 unfold gr
 simp only
 by_cases h0 : 0 < (slotP x).1
 · rw [if_pos h0]
 · rw [if_neg h0]
   have e : slotP x = (0, 0) := by
     have e1 : (slotP x).1 = 0 := by omega
     have e2 : (slotP x).2 = 0 := by omega
     exact Prod.ext e1 e2
   rw [e]
def opG (n t b : Nat) (B : List R) : DL := ⟨n, t, b, tot B, B.map Prod.snd, false⟩
theorem rd_stop {n t b : Nat} {f : Int → List UInt8} {A : List R} (h : Cn 0 n t b f A) : rd (plF 0 f) t (lt b A) (n - tot A) (tot A) none [] = none :=
 rd_go _ _ none [] (fun _ e => by cases e) h.stop
theorem rd_first {n t b t0 : Nat} {f : Int → List UInt8} {s : List UInt8} (h : Cn 0 n t b f [(t0, s)]) : rd (plF 0 f) t b (n - 0) 0 none [] = some (s, np s, t0) := by
 have hm : b ≤ t0 ∧ t0 ≤ t := h.mono
 have hr : np s + 0 ≤ n := h.room
 have := rd_rec (pl := plF 0 f) (top := t) (least := b) (t := t0) (i := 0) (k := n - 0) (s := s) hm.1 hm.2 (fun j hj => by
   rw [Nat.zero_add, h.a1 j (by show j < np s + 0; omega)]
   show (if j < np s then some (prt t0 s j) else _) = _
   rw [if_pos hj]) (by omega)
 rw [Nat.zero_add] at this
 exact this
theorem cell1 {w : World} {t : TypeId} (a : Value) : ∀ j u, ([a] : List Value)[j]? = some u → (w.alloc (.cells #[a] t)).cell? ((⟨w.heap.size, 0, none⟩ : Addr).add j) = some u := by
 intro j u hu
 rcases j with _ | j
 · simp at hu; subst hu; simp [Addr.add, go_sem]
 · simp at hu
def cellN : Option Value → Nat
 | some (.int _ x) => x.toNat
 | _ => 0
structure OpI (M R n t b : Nat) (A B : List Wal.R) (d : PD) (T : Nat → Prop) (w wx : World) : Prop where
 out : B = A ∨ (B = [] ∧ ∃ t0 s, A = [(t0, s)])
 room : tot B ≤ n
 ex : ∃ F', RL M R (opG n t b B) d F' wx ∧ To T F' w wx
section
variable {R : Nat} {d : PD} {T : Nat → Prop} {w : World}
theorem RL.made {n : Nat} (h : RD R d T w) (hn : n ≤ 998) (hfit : 2 + n ≤ d.n) : RL w.heap.size R ⟨n, 0, 0, 0, [], false⟩ d (fun k => T k ∨ k = w.heap.size) (w.alloc (.cells (dlcells R ⟨n, 0, 0, 0, [], false⟩ (.slice none 0 0)) 92)) :=
 ⟨⟨T, .slice none 0 0, h.later ((Below.refl _ w).alloc (Nat.le_refl _) _), heap_alloc_new w _, World.ownsRow_nil _ _ _ _, fun k hk => ⟨.inl hk, fun e => by have := h.is.lt k hk; omega, fun e => by cases e⟩, fun b e => by cases e⟩, .inr rfl, fun k hk => by
   rw [World.size_alloc]
   rcases hk with e | e
   · have := h.is.lt k e; omega
   · omega, ⟨by show n ≤ 1000; omega, by show 0 ≤ _; omega, by show 0 ≤ _; omega, Nat.zero_le _, by simp⟩, hfit⟩
theorem To.made (o : Obj) : To T (fun k => T k ∨ k = w.heap.size) w (w.alloc o) :=
 ⟨(Only.refl T w).alloc o, fun k hk => .inl hk, fun k hk => hk.imp id (fun e => ⟨by omega, by rw [World.size_alloc]; omega⟩)⟩
set_option maxHeartbeats 16000000 in
set_option maxRecDepth 100000 in
theorem rlopen_any {n t b : Nat} {A : List Wal.R} (h : RD R d T w) (hcn : Cn 0 n t b d.f A) (hA : A = [] ∨ ∃ t0 s, A = [(t0, s)]) (hn : 2 ≤ n ∧ n ≤ 998) (hfit : 2 + n ≤ d.n) (hdn : d.n ≤ 4096) (hbt : b ≤ t) (ht : t < 1099511627776) (hfu : d.fu = false) (hc : d.cs.length ≤ 900000) (hw : d.wr ≤ 900000) (hf : d.fl ≤ 900000) (lg : Nat) (hlg : lg = 2 + n) :
   Calls Tryz.prog 46 #[.pointer (some ⟨R, 0, none⟩), .int .i64 0, .int .i64 (lg : Int)] w fun e w' => Got fun F' => ∃ M, e = .returned (.tuple #[.pointer (some ⟨M, 0, none⟩), .int .i64 0]) ∧ RL M R (opG n (t + 1) b A) (run d (nextS (t + 1) b)).2 F' w' ∧ To T F' w w' := by
 obtain ⟨gb, lc, q0⟩ : ∃ gb lc, w.cell? ⟨R, 0, none⟩ = some (.slice (some ⟨gb, 0, none⟩) d.n lc) := by
   obtain ⟨lf, gb, lc, wo, wc, h2, _⟩ := h.is
   exact ⟨gb, lc, h2.c0⟩
 have HMD := hidm (show RL w.heap.size R ⟨n, 0, 0, 0, [], false⟩ d (fun k => T k ∨ k = w.heap.size) (w.alloc (.cells #[.pointer (some ⟨R, 0, none⟩), .int .i64 0, .int .i64 (lg : Int), .int .i64 0, .int .i64 0, .int .i64 0, .slice none 0 0, .bool false] 92)) from by
   have h1 := RL.made h hn.2 hfit
   unfold dlcells at h1
   dsimp only at h1
   rw [← hlg] at h1
   exact h1)
 have HTO := hidm (To.made (T := T) (w := w) (.cells #[.pointer (some ⟨R, 0, none⟩), .int .i64 0, .int .i64 (lg : Int), .int .i64 0, .int .i64 0, .int .i64 0, .slice none 0 0, .bool false] 92))
 have HCN := hidm hcn
 have HAA := hidm hA
 obtain ⟨dn, hdn2⟩ : ∃ x, x = d.n := ⟨_, rfl⟩
 rw [← hdn2] at q0 hfit hdn
 have HDN := hidm hdn2
 have HFIT := hidm (show 2 + n ≤ dn ∧ dn ≤ 4096 ∧ 2 ≤ n ∧ n ≤ 998 ∧ lg = 2 + n from ⟨hfit, hdn, hn.1, hn.2, hlg⟩)
 have HCW := hidm (show d.cs.length ≤ 900000 ∧ d.wr ≤ 900000 ∧ d.fl ≤ 900000 ∧ t < 1099511627776 ∧ b ≤ t from ⟨hc, hw, hf, ht, hbt⟩)
 have HFU := hidm hfu
 have a1 : ¬ (lg : Int) < 4 := by omega
 have a2 : ¬ (1000 : Int) < (lg : Int) := by omega
 have a3 : ¬ (dn : Int) < 0 := by omega
 have a4 : (dn : Int) - 0 = (dn : Int) := by omega
 have a4w : IntKind.i64.wrap (dn : Int) = (dn : Int) := by simp only [IntKind.wrap_i64]; omega
 have a5 : ¬ (dn : Int) < (lg : Int) := by omega
 have q0b := Dsk.cell_later ((Below.refl w.heap.size w).alloc (Nat.le_refl _) (.cells #[.pointer (some ⟨R, 0, none⟩), .int .i64 0, .int .i64 (lg : Int), .int .i64 0, .int .i64 0, .int .i64 0, .slice none 0 0, .bool false] 92)) q0
 clear h hcn hA hdn2 hfit hdn hn hlg hc hw hf ht hbt hfu q0
 go_enter Tryz.func46, Tryz.ntmps46
 go_upto_region 4 with fail
 obtain ⟨M, hM⟩ : ∃ M, M = w.heap.size := ⟨_, rfl⟩
 rw [← hM] at HMD HTO ⊢
 clear hM
 obtain ⟨w0, hw0⟩ : ∃ x, x = w.alloc (.cells #[.pointer (some ⟨R, 0, none⟩), .int .i64 0, .int .i64 (lg : Int), .int .i64 0, .int .i64 0, .int .i64 0, .slice none 0 0, .bool false] 92) := ⟨_, rfl⟩
 rw [← hw0] at HMD HTO q0b ⊢
 clear hw0 q0b
 have RD0 := hidm (show ∀ (u : World) (_ : Below w0.heap.size w0 u), Calls Tryz.prog 66 #[.pointer (some ⟨R, 0, none⟩), .int .i64 0] u fun e w' => e = .returned (.tuple #[.string (S (d.f 0)), .int .i64 0]) ∧ Below u.heap.size u w' from fun u hb => rl_read (HMD.out.later hb) 0 (by have := HFIT.out; have := HDN.out; omega))
 have RD1 := hidm (show ∀ (u : World) (_ : Below w0.heap.size w0 u), Calls Tryz.prog 66 #[.pointer (some ⟨R, 0, none⟩), .int .i64 1] u fun e w' => e = .returned (.tuple #[.string (S (d.f 1)), .int .i64 0]) ∧ Below u.heap.size u w' from fun u hb => rl_read (HMD.out.later hb) 1 (by have := HFIT.out; have := HDN.out; omega))
 have hf0 : (S (d.f 0)).size ≤ 1000 := by rw [S_size, HMD.out.flen]; decide
 have hf1 : (S (d.f 1)).size ≤ 1000 := by rw [S_size, HMD.out.flen]; decide
 have UT0 := hidm (fun w => rtells_any (S (d.f 0)) hf0 w)
 have UT1 := hidm (fun w => rtells_any (S (d.f 1)) hf1 w)
 have hgr : (if (slotP (d.f 0)).1 < (slotP (d.f 1)).1 then slotP (d.f 1) else slotP (d.f 0)) = (t, b) := by
   rw [← gr_slots]; exact HCN.out.slots
 have hl0 := slotP_lt (d.f 0)
 have hl1 := slotP_lt (d.f 1)
 obtain ⟨s0, hs0⟩ : ∃ x, x = S (d.f 0) := ⟨_, rfl⟩
 obtain ⟨s1, hs1⟩ : ∃ x, x = S (d.f 1) := ⟨_, rfl⟩
 have e0 : s0.data.toList = d.f 0 := by rw [hs0]
 have e1 : s1.data.toList = d.f 1 := by rw [hs1]
 rw [← hs0] at RD0 UT0
 rw [← hs1] at RD1 UT1
 rw [e0] at UT0
 rw [e1] at UT1
 obtain ⟨t0, ht0⟩ : ∃ x, x = (slotP (d.f 0)).1 := ⟨_, rfl⟩
 obtain ⟨b0, hb0⟩ : ∃ x, x = (slotP (d.f 0)).2 := ⟨_, rfl⟩
 obtain ⟨t1, ht1⟩ : ∃ x, x = (slotP (d.f 1)).1 := ⟨_, rfl⟩
 obtain ⟨b1, hb1⟩ : ∃ x, x = (slotP (d.f 1)).2 := ⟨_, rfl⟩
 rw [← ht0, ← hb0] at UT0 hl0
 rw [← ht1, ← hb1] at UT1 hl1
 have HGR := hidm (show (t0 < t1 ∧ t1 = t ∧ b1 = b) ∨ (¬ t0 < t1 ∧ t0 = t ∧ b0 = b) from by
   by_cases hh : (slotP (d.f 0)).1 < (slotP (d.f 1)).1
   · rw [if_pos hh] at hgr
     exact .inl ⟨by rw [ht0, ht1]; exact hh, by rw [ht1, hgr], by rw [hb1, hgr]⟩
   · rw [if_neg hh] at hgr
     exact .inr ⟨by rw [ht0, ht1]; exact hh, by rw [ht0, hgr], by rw [hb0, hgr]⟩)
 have HLL := hidm (show (t0 ≤ 1099511627776 ∧ b0 ≤ 1099511627776) ∧ (t1 ≤ 1099511627776 ∧ b1 ≤ 1099511627776) from ⟨⟨hl0.1, by omega⟩, hl1.1, by omega⟩)
 have ok1 := HMD.out.ok
 clear hf0 hf1 hgr hl0 hl1 hs0 hs1 e0 e1 ht0 hb0 ht1 hb1 a1 a2 a3 a4 a4w a5
 go_wp2_with fail
 refine (RD0.out w0 (Below.refl _ _)).mono ?_
 rintro e w1 ⟨rfl, hB1⟩
 have HB1 := hidm hB1
 clear hB1 RD0
 go_wp2_with fail
 refine (RD1.out w1 HB1.out).mono ?_
 rintro e w2 ⟨rfl, hB2⟩
 have HB2 := hidm (HB1.out.trans (hB2.mono HB1.out.size))
 clear hB2 RD1
 go_wp2_with fail
 refine (UT0.out w2).mono ?_
 rintro e w3 ⟨rfl, hB3⟩
 have HB3 := hidm (HB2.out.trans (hB3.mono HB2.out.size))
 clear hB3 UT0
 go_wp2_with fail
 refine (UT1.out w3).mono ?_
 rintro e w4 ⟨rfl, hB4⟩
 have HB4 := hidm (HB3.out.trans (hB4.mono HB3.out.size))
 clear hB4 UT1
 have H4 := hidm (HMD.out.later HB4.out)
 have HT4 := hidm (HTO.out.trans (.below HB4.out))
 clear HMD HTO HB1 HB2 HB3 HB4
 have z3 := H4.out.z 3
 have HP5 := hidm (H4.out.put 3 (.int .i64 (t0 : Int)) { n := n, turn := t0, base := 0, used := 0, recs := [], halted := false } (fun _ => rfl) rfl ⟨ok1.1, HLL.out.1.1, ok1.2.2.1, ok1.2.2.2.1, ok1.2.2.2.2⟩ rfl)
 have c3 := H4.out.c3
 go_upto_region 9 with fail
 obtain ⟨w5, hw5⟩ : ∃ x, x = w4.setCell ⟨M, 3, none⟩ (.int .i64 (t0 : Int)) := ⟨_, rfl⟩
 rw [← hw5] at HP5 ⊢
 clear hw5 z3 c3
 have z4 := HP5.out.1.z 4
 have c4 := HP5.out.1.c4
 have HP6 := hidm (HP5.out.1.put 4 (.int .i64 (b0 : Int)) { n := n, turn := t0, base := b0, used := 0, recs := [], halted := false } (fun _ => rfl) rfl ⟨ok1.1, HLL.out.1.1, HLL.out.1.2, ok1.2.2.2.1, ok1.2.2.2.2⟩ rfl)
 go_upto_region 10 with fail
 obtain ⟨w6, hw6⟩ : ∃ x, x = w5.setCell ⟨M, 4, none⟩ (.int .i64 (b0 : Int)) := ⟨_, rfl⟩
 rw [← hw6] at HP6 ⊢
 clear hw6 z4 c4
 have HT6 := hidm (HT4.out.trans (HP5.out.2.trans HP6.out.2))
 have H6 := hidm HP6.out.1
 clear HP5 HP6 HT4 H4
 go_upto_if 90 with fail
 go_cut [8] (fun s8 wx => s8 = .pointer (some ⟨M, 0, none⟩) ∧ Hid (RL M R (opG n t b []) d (fun k => T k ∨ k = M) wx) ∧ Hid (To T (fun k => T k ∨ k = M) w wx))
 case first =>
   rcases HGR.out with ⟨h1, rfl, rfl⟩ | ⟨h1, rfl, rfl⟩
   · have g1 : (t0 : Int) < (t1 : Int) := by omega
     have z3 := H6.out.z 3
     have c3 := H6.out.c3
     have HP7 := hidm (H6.out.put 3 (.int .i64 (t1 : Int)) { n := n, turn := t1, base := b0, used := 0, recs := [], halted := false } (fun _ => rfl) rfl ⟨ok1.1, HLL.out.2.1, HLL.out.1.2, ok1.2.2.2.1, ok1.2.2.2.2⟩ rfl)
     go_upto_region 12 with fail
     obtain ⟨w7, hw7⟩ : ∃ x, x = w6.setCell ⟨M, 3, none⟩ (.int .i64 (t1 : Int)) := ⟨_, rfl⟩
     rw [← hw7] at HP7 ⊢
     clear hw7 z3 c3
     have z4 := HP7.out.1.z 4
     have c4 := HP7.out.1.c4
     have HP8 := hidm (HP7.out.1.put 4 (.int .i64 (b1 : Int)) { n := n, turn := t1, base := b1, used := 0, recs := [], halted := false } (fun _ => rfl) rfl ⟨ok1.1, HLL.out.2.1, HLL.out.2.2, ok1.2.2.2.1, ok1.2.2.2.2⟩ rfl)
     go_wp2_with fail
     go_meet
     exact ⟨by trivial, HP8.out.1, HT6.out.trans (HP7.out.2.trans HP8.out.2)⟩
   · have g1 : ¬ (t0 : Int) < (t1 : Int) := by omega
     go_wp2_with fail
     go_meet
     exact ⟨by trivial, H6, HT6⟩
 case rest =>
 obtain ⟨rfl, H7, HT7⟩ := hcut
 clear H6 HT6 ok1 HGR HLL
 have c4 := H7.out.c4
 have HCW2 := HCW.out
 have HRR := hidm (show ∀ (u : World) (Fu : Nat → Prop) (B : List Wal.R), RL M R (opG n t b B) d Fu u → tot B ≤ n → lt b B ≤ t → Calls Tryz.prog 84 #[.pointer (some ⟨M, 0, none⟩), .int .i64 (tot B : Int), .int .i64 (lt b B : Int)] u fun e w' => e = .returned (recV (tot B) (rd (plF 0 d.f) t (lt b B) (n - tot B) (tot B) none [])) ∧ Below u.heap.size u w' from fun u Fu B hu hB hl => rrecord_any hu (tot B) (lt b B) hB (by
   have h1 : t < 1099511627776 := HCW.out.2.2.2.1
   omega))
 have HNX := hidm (show ∀ (u : World) (Fu : Nat → Prop), RL M R (opG n t b A) d Fu u → Calls Tryz.prog 85 #[.pointer (some ⟨M, 0, none⟩), .int .i64 (b : Int)] u fun e w' => Got fun F' => e = .returned (.int .i64 0) ∧ RL M R (opG n (t + 1) b A) (run d (nextS (t + 1) b)).2 F' w' ∧ To Fu F' u w' from fun u Fu hu => by
   have h1 := HCW.out
   have h2 := rnext_any hu b (by show b ≤ t + 1; omega) (by show t < _; omega) h1.1 h1.2.1 h1.2.2.1
   rw [show (run d (nextS ((opG n t b A).turn + 1) b)).1 = true from by rw [run_open _ d HFU.out]] at h2
   exact h2)
 have HLT := hidm (show lt b A ≤ t from HCN.out.mono.lt_le)
 have HROOM := hidm (show tot A ≤ n from HCN.out.room)
 have l2 : (lg : Int) - 2 = (n : Int) := by have := HFIT.out; omega
 have l2w : IntKind.i64.wrap (n : Int) = (n : Int) := by have := HFIT.out; simp only [IntKind.wrap_i64]; omega
 clear HCW2
 go_wp2_with fail
 go_loopw [17, 18, 19, 20] (fun ll _ _ _ wr => ∃ B : List Wal.R, ll = .int .i64 (lt b B : Int) ∧ Hid (OpI M R n t b A B d T w wr)) (fun _ _ _ _ wr => (n - cellN (wr.cell? ⟨M, 5, none⟩)))
 case atStart => exact ⟨[], rfl, hidm ⟨HAA.out.elim (fun e => .inl e.symm) (fun e => .inr ⟨rfl, e⟩), Nat.zero_le _, _, H7.out, HT7.out⟩⟩
 case round =>
   rename World => wr
   clear H7 HT7 c4
   obtain ⟨B, rfl, HI⟩ := hrel
   obtain ⟨hB, hroom, F1, hrl, hto⟩ := HI.out
   have HRL := hidm hrl
   have HTO := hidm hto
   have HRB := hidm hroom
   have c4 : wr.cell? ⟨M, 4, none⟩ = some (.int .i64 (b : Int)) := hrl.c4
   have c5 : wr.cell? ⟨M, 5, none⟩ = some (.int .i64 (tot B : Int)) := hrl.c5
   clear hrl hto HI
   rcases hB with rfl | ⟨rfl, t0, s, hA⟩
   · obtain ⟨us, hus⟩ : ∃ x, x = tot B := ⟨_, rfl⟩
     obtain ⟨ls, hls⟩ : ∃ x, x = lt b B := ⟨_, rfl⟩
     have HRC := hidm (HRR.out wr F1 B HRL.out HRB.out HLT.out)
     rw [rd_stop HCN.out, ← hus, ← hls] at HRC
     have HRC2 : Hid (Calls Tryz.prog 84 #[.pointer (some ⟨M, 0, none⟩), .int .i64 (us : Int), .int .i64 (ls : Int)] wr fun e w' => e = .returned (.tuple #[.string ⟨#[]⟩, .int .i64 0, .int .i64 0]) ∧ Below wr.heap.size wr w') := HRC
     rw [← hus] at c5 hroom
     rw [← hls]
     clear HRC hus hls
     rcases Nat.lt_or_ge us n with hlt | hge
     · have f1 : (us : Int) < (n : Int) := by omega
       go_wp2_with fail
       refine HRC2.out.mono ?_
       rintro e w1 ⟨rfl, hb⟩
       have H1 := hidm (HRL.out.later hb)
       have HT1 := hidm (HTO.out.trans (.below hb))
       have c4 : w1.cell? ⟨M, 4, none⟩ = some (.int .i64 (b : Int)) := H1.out.c4
       clear hb HRC2
       go_wp2_with fail
       refine (HNX.out w1 F1 H1.out).mono ?_
       rintro e w2 ⟨⟨F2, rfl, h2, ht2⟩⟩
       have H2 := hidm h2
       have HT2 := hidm (HT1.out.trans ht2)
       clear h2 ht2
       go_wp2_with fail
       go_ret2
       exact ⟨⟨F2, M, rfl, H2.out, HT2.out⟩⟩
     · have f1 : ¬ (us : Int) < (n : Int) := by omega
       go_wp2_with fail
       refine (HNX.out wr F1 HRL.out).mono ?_
       rintro e w2 ⟨⟨F2, rfl, h2, ht2⟩⟩
       have H2 := hidm h2
       have HT2 := hidm (HTO.out.trans ht2)
       clear h2 ht2
       go_wp2_with fail
       go_ret2
       exact ⟨⟨F2, M, rfl, H2.out, HT2.out⟩⟩
   · subst hA
     have f1 : (0 : Int) < (n : Int) := by have := HFIT.out; omega
     have f1n : 0 < n := by have := HFIT.out; omega
     have hbt : lt b ([] : List Wal.R) ≤ t := HCW.out.2.2.2.2
     have HRC := hidm (HRR.out wr F1 [] HRL.out HRB.out hbt)
     obtain ⟨np0, hnp⟩ : ∃ x, x = np s := ⟨_, rfl⟩
     have HRC2 : Hid (Calls Tryz.prog 84 #[.pointer (some ⟨M, 0, none⟩), .int .i64 0, .int .i64 (b : Int)] wr fun e w' => e = .returned (.tuple #[.string (S s), .int .i64 (np0 : Int), .int .i64 (t0 : Int)]) ∧ Below wr.heap.size wr w') := hidm (by
       have h1 := HRC.out
       change Calls Tryz.prog 84 #[.pointer (some ⟨M, 0, none⟩), .int .i64 0, .int .i64 (b : Int)] wr (fun e w' => e = .returned (recV 0 (rd (plF 0 d.f) t b (n - 0) 0 none [])) ∧ Below wr.heap.size wr w') at h1
       rw [rd_first HCN.out] at h1
       rw [hnp]
       exact h1)
     have hnp1 : 1 ≤ np0 := by rw [hnp]; exact np_pos s
     have hnpn : np0 ≤ n := by have h9 := HROOM.out; rw [hnp]; exact Nat.le_trans (Nat.le_add_right _ 0) h9
     have g1 : ((np0 : Int) == 0) = false := by rw [beq_eq_false_iff_ne]; omega
     have g1b : ¬ (np0 : Int) = 0 := by omega
     have g1c : ¬ np0 = 0 := by omega
     have npw : IntKind.i64.wrap (np0 : Int) = (np0 : Int) := by have := HFIT.out; simp only [IntKind.wrap_i64]; omega
     have c5 : wr.cell? ⟨M, 5, none⟩ = some (.int .i64 0) := c5
     have C5 := hidm c5
     have HNP := hidm (show np0 = np s ∧ np0 ≤ n ∧ 1 ≤ np0 from ⟨hnp, hnpn, hnp1⟩)
     have HLB : Hid (lt b ([] : List Wal.R) = b) := hidm rfl
     rw [HLB.out]
     clear HRC hnp hnp1 hnpn hbt hroom
     go_wp2_with fail
     refine HRC2.out.mono ?_
     rintro e w1 ⟨rfl, hb⟩
     have H1 := hidm (HRL.out.later hb)
     have HT1 := hidm (HTO.out.trans (.below hb))
     clear hb HRC2 c4 c5 HRL HTO
     obtain ⟨Td, sl, q1, q2, q3, q4, q5⟩ := H1.out.ex
     have Q1 := hidm q1
     have Q2 := hidm q2
     have Q3 : Hid (w1.ownsRow 0 9 1 sl 0 []) := hidm q3
     have Q4 := hidm q4
     have Q5 := hidm q5
     have c6 : w1.cell? ⟨M, 6, none⟩ = some sl := by rw [cell_of_row w1 M 6 _ _ (0, 0) q2]; rfl
     obtain ⟨i0, hi0, hz0, hz1, hz2⟩ := info_parts Dsk.infoS
     have HBA := hidm ((Below.refl w1.heap.size w1).alloc (Nat.le_refl _) (.cells #[.string (S s)] 9))
     clear q1 q2 q3 q4 q5
     go_wp2_with (at_builtin; refine wpList_append_lies _ rfl _ _ 57 rfl 0 9 i0 (.string ⟨#[]⟩) 1 16 Tryz.underlying57 hi0 hz0 hz1 hz2 rfl (by decide) sl 0 ([] : List Value) rfl (Dsk.owns_later Q3.out HBA.out) ⟨w1.heap.size, 0, none⟩ 1 1 [.string (S s)] rfl rfl ?CA ?CB (by decide) ?CC ?CD ?CE _ rfl ?_)
     case CA => exact cell1 _
     case CB => intro u hu; simp at hu; rw [hu]; rfl
     case CC => unfold maxLen; decide
     case CD => decide
     case CE => exact Nat.zero_le _
     intro bk cap w7 hown hgrow hg hlt7
     have hrow7 : w7.heap[M]? = some (.cells (dlcells R (opG n t b []) sl) 92 (0, 0)) := by
       have hb2 := below_keeps HBA.out Q2.out
       exact (hgrow.block M (lt_of_block hb2) (fun e => row_ne Q2.out Q3.out M e.symm rfl)).trans hb2
     have c67 : w7.cell? ⟨M, 6, none⟩ = some sl := by rw [cell_of_row w7 M 6 _ _ (0, 0) hrow7]; rfl
     have z67 := frozen_of_row w7 M 6 _ _ hrow7
     obtain ⟨F7, h7, ht7⟩ := RL.grew (n := 1) (rs := [s]) (H := w1.heap.size + 1) (Q1.out.later HBA.out) (below_keeps HBA.out Q2.out) (Dsk.owns_later Q3.out HBA.out) Q4.out Q5.out H1.out.fM (fun k hk => Nat.lt_of_lt_of_le (H1.out.lt k hk) HBA.out.size) H1.out.ok H1.out.fit hgrow rfl (by simp) hown hg (by simp) hlt7
     have H7 := hidm h7
     have HT7 := hidm (HT1.out.trans ((To.below HBA.out).trans ht7))
     clear hown hgrow hg hlt7 hrow7 h7 ht7 Q1 Q2 Q3 Q4 Q5 c6 HBA
     go_upto_region 20 with fail
     obtain ⟨w8, hw8⟩ : ∃ w8, w8 = w7.setCell ⟨M, 6, none⟩ (.slice (some ⟨bk, 0, none⟩) 1 cap) := ⟨_, rfl⟩
     rw [← hw8] at H7 HT7 ⊢
     have c5 : w8.cell? ⟨M, 5, none⟩ = some (.int .i64 0) := H7.out.c5
     have z5 := H7.out.z 5
     have hok7 := H7.out.ok
     have HP := hidm (H7.out.put 5 (.int .i64 (np0 : Int)) (opG n t b [(t0, s)]) (fun sl => by
       have : (np0 : Int) = ((np s + 0 : Nat) : Int) := by rw [HNP.out.1]; rfl
       rw [this]; rfl) rfl ⟨hok7.1, hok7.2.1, hok7.2.2.1, HROOM.out, by show [s].length ≤ 1001; simp⟩ rfl)
     clear hw8 c67 z67 hok7
     have HC9 := hidm (show (w8.setCell ⟨M, 5, none⟩ (.int .i64 (np0 : Int))).cell? ⟨M, 5, none⟩ = some (.int .i64 (np0 : Int)) from by
       have h1 : (w8.setCell ⟨M, 5, none⟩ (.int .i64 (np0 : Int))).cell? ⟨M, 5, none⟩ = some (Value.int .i64 ((np s + 0 : Nat) : Int)) := HP.out.1.c5
       rw [h1, HNP.out.1]; rfl)
     have HC0 := hidm (show wr.cell? ⟨M, 5, none⟩ = some (.int .i64 0) from C5.out)
     go_wp2_with fail
     go_roundw
     case rel => exact ⟨[(t0, s)], rfl, hidm ⟨.inl rfl, HROOM.out, F7, HP.out.1, HT7.out.trans HP.out.2⟩⟩
     case measure =>
       rw [HC9.out, HC0.out]
       show n - (np0 : Int).toNat < n - (0 : Int).toNat
       have := HNP.out
       have := HFIT.out
       omega
end
end Pgr
end Go.Proofs.YtkgbemkcnahkoaaGreatDoor
