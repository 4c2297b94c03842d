/- Keys' bytes have the order of the keys, and one key has one row of bytes: plain lemmas over values. Conditions: the values are right, their numbers fit their kinds. -/
import Derived.Test.YtppdebhcaodcnaaDoorYo
import Derived.Test.YtppdebhcaodcnaaDoorTa
import Derived.Test.YtppdebhcaodcnaaDoorTb
namespace Go.Proofs.YtppdebhcaodcnaaDoor
open Go.RowKit Cod
namespace Ky
theorem lx_cmpL : ∀ s t : List UInt8, Ref.cmpL s t = lx s t
  | [], [] => Ref.cmpL_nil
  | [], d :: t => Ref.cmpL_short d t
  | c :: s, [] => Ref.cmpL_long c s
  | c :: s, d :: t => by
    simp only [lx]
    rcases Nat.lt_trichotomy c.toNat d.toNat with h | h | h
    · rw [if_pos h]; exact Ref.cmpL_less (UInt8.lt_iff_toNat_lt.2 h) s t
    · have e : c = d := UInt8.toNat_inj.1 h
      subst e
      rw [if_neg (Nat.lt_irrefl _), if_neg (Nat.lt_irrefl _), Ref.cmpL_same]; exact lx_cmpL s t
    · rw [if_neg (by omega), if_pos h]; exact Ref.cmpL_more (UInt8.lt_iff_toNat_lt.2 h) s t
theorem lx_cmpS (s t : List UInt8) : Val.cmpS (S s) (S t) = lx s t := by
  rw [← lx_cmpL]
  unfold Val.cmpS Ref.cmpL
  rw [ByteArray.toList_eq, ByteArray.toList_eq]
/-- A float's bits, turned. -/
def turn (b : Nat) : Nat := if b < 9223372036854775808 then b + 9223372036854775808 else 18446744073709551615 - b
def top (n : Int) : Nat := (n + 9223372036854775808).toNat
def rest (v : V) : List UInt8 := if v.k = 1 then [v.n.toNat.toUInt8] else if v.k = 2 then be 8 (top v.n) else if v.k = 3 then be 8 (turn v.b) else if v.k = 4 ∨ v.k = 5 then esc v.s ++ [0, 1] else []
/-- A value's bytes in a key. -/
def one (v : V) : List UInt8 := (v.k + 1).toNat.toUInt8 :: rest v
/-- A key's bytes. -/
def body (l : List V) : List UInt8 := l.flatMap one ++ [0]
def cmp (a b : V) : Int := Val.cmpV a.k a.n a.b (S a.s) b.k b.n b.b (S b.s)
theorem cmp_right {a b : V} (ha : a.right = true) (hb : b.right = true) : cmp a b = if a.k ≠ b.k then Val.cmpI a.k b.k else if a.k = 3 then Val.cmpF a.b b.b else if a.k = 4 ∨ a.k = 5 then lx a.s b.s else Val.cmpI a.n b.n := by
  unfold cmp Val.cmpV
  have e1 : Val.rightB a.k a.n a.b (S a.s) = true := ha
  have e2 : Val.rightB b.k b.n b.b (S b.s) = true := hb
  rw [e1, e2, if_neg (by decide), if_neg (by decide), lx_cmpS]
theorem kb {v : V} (h : v.right = true) : ((v.k + 1).toNat.toUInt8).toNat = (v.k + 1).toNat := by
  have := (right_kind h).1
  show (v.k + 1).toNat % 256 = _
  omega
theorem canon_right {n : Int} {b : Nat} {s : List UInt8} (h : V.right ⟨3, n, b, s⟩ = true) : Flo.canon b = b := Ref.right_float h
theorem flo_key {b : Nat} (hb : b < 18446744073709551616) : Flo.key b = if b < 9223372036854775808 then (b : Int) else -((b - 9223372036854775808 : Nat) : Int) := by
  unfold Flo.key Flo.isNeg Flo.rung Flo.sgn
  by_cases h : b < 9223372036854775808
  · rw [if_pos h, if_neg (by simp; omega)]; omega
  · rw [if_neg h, if_pos (by simp; omega)]; omega
theorem flo_small {b : Nat} (hn : Flo.nanB b = false) : b % 9223372036854775808 ≤ 9218868437227405312 := by
  unfold Flo.nanB Flo.inf Flo.rung Flo.sgn at hn
  have := of_decide_eq_false hn
  omega
/-- The turned bits have the order of the floats. -/
theorem turn_order {a b : Nat} (ha : a < 18446744073709551616) (hb : b < 18446744073709551616) (ca : Flo.canon a = a) (cb : Flo.canon b = b) :
    Val.cmpF a b = if turn a < turn b then -1 else if turn b < turn a then 1 else 0 := by
  unfold Val.cmpF
  rcases Ref.canon_form ca with ⟨ea, na⟩ | ⟨ea, na, za⟩
  · rcases Ref.canon_form cb with ⟨eb, nb⟩ | ⟨eb, nb, zb⟩
    · rw [if_pos na, if_pos nb, ea, eb]; decide
    · rw [if_pos na, if_neg (by simp [nb])]
      have := flo_small nb
      unfold turn
      rw [if_neg (by split <;> split <;> omega), if_pos (by split <;> split <;> omega)]
  · rcases Ref.canon_form cb with ⟨eb, nb⟩ | ⟨eb, nb, zb⟩
    · rw [if_neg (by simp [na]), if_pos nb]
      have := flo_small na
      unfold turn
      rw [if_pos (by split <;> split <;> omega)]
    · rw [if_neg (by simp [na]), if_neg (by simp [nb]), flo_key ha, flo_key hb]
      unfold Val.cmpI turn
      by_cases h1 : a < 9223372036854775808 <;> by_cases h2 : b < 9223372036854775808 <;> simp only [h1, h2, if_true, if_false] <;> (repeat' split) <;> omega
theorem turn_lt {b : Nat} (hb : b < 18446744073709551616) : turn b < 18446744073709551616 := by unfold turn; split <;> omega
theorem ite3 (a b : Int) (c d : Nat) (z : Int) (h : a < b ↔ c < d) (h2 : b < a ↔ d < c) : (if c < d then -1 else if d < c then 1 else z) = if Val.cmpI a b = 0 then z else Val.cmpI a b := by
  unfold Val.cmpI
  by_cases g1 : a < b
  · rw [if_pos g1, if_pos (h.1 g1), if_neg (by decide)]
  · rw [if_neg g1, if_neg (fun x => g1 (h.2 x))]
    by_cases g2 : b < a
    · rw [if_pos g2, if_pos (h2.1 g2), if_neg (by decide)]
    · rw [if_neg g2, if_neg (fun x => g2 (h2.2 x)), if_pos rfl]
theorem pick_other (k : Int) (h3 : k ≠ 3) (h4 : ¬ (k = 4 ∨ k = 5)) {x y z : Int} : (if k = 3 then x else if k = 4 ∨ k = 5 then y else z) = z := by rw [if_neg h3, if_neg h4]
theorem pick_float {x y z : Int} : (if (3 : Int) = 3 then x else if (3 : Int) = 4 ∨ (3 : Int) = 5 then y else z) = x := if_pos rfl
theorem pick_text (k : Int) (h3 : k ≠ 3) (h4 : k = 4 ∨ k = 5) {x y z : Int} : (if k = 3 then x else if k = 4 ∨ k = 5 then y else z) = y := by rw [if_neg h3, if_pos h4]
theorem one_lx {a b : V} (ha : a.right = true) (hb : b.right = true) (ia : a.inn) (ib : b.inn) (X Y : List UInt8) :
    lx (one a ++ X) (one b ++ Y) = if cmp a b = 0 then lx X Y else cmp a b := by
  have e : lx (one a ++ X) (one b ++ Y) = if (a.k + 1).toNat < (b.k + 1).toNat then -1 else if (b.k + 1).toNat < (a.k + 1).toNat then 1 else lx (rest a ++ X) (rest b ++ Y) := by
    unfold one
    simp only [List.cons_append, lx, kb ha, kb hb]
  have ra := (right_kind ha).1
  have rb := (right_kind hb).1
  rw [e, cmp_right ha hb]
  by_cases hk : a.k = b.k
  · rw [if_neg (by omega), if_neg (by omega), if_neg (show ¬ (a.k ≠ b.k) from fun h => h hk)]
    have fa := right_form ha
    have fb := right_form hb
    rcases fa with rfl | ⟨n, rfl, hn⟩ | ⟨n, rfl⟩ | ⟨x, rfl⟩ | ⟨s, rfl, _⟩ | ⟨s, rfl, _⟩ <;> rcases fb with rfl | ⟨n', rfl, hn'⟩ | ⟨n', rfl⟩ | ⟨x', rfl⟩ | ⟨s', rfl, _⟩ | ⟨s', rfl, _⟩ <;> first | (exfalso; simp at hk; done) | skip
    · simp [rest, Val.cmpI]
    · dsimp only
      rw [pick_other 1 (by decide) (by decide)]
      have e1 : rest ⟨1, n, 0, []⟩ = [n.toNat.toUInt8] := rfl
      have e2 : rest ⟨1, n', 0, []⟩ = [n'.toNat.toUInt8] := rfl
      rw [e1, e2]
      simp only [List.cons_append, List.nil_append, lx]
      refine ite3 n n' _ _ _ ?_ ?_ <;> (rcases hn with rfl | rfl <;> rcases hn' with rfl | rfl <;> decide)
    · have h1 := ia.n0; have h2 := ia.n1; have h3 := ib.n0; have h4 := ib.n1
      dsimp only at h1 h2 h3 h4 ⊢
      rw [pick_other 2 (by decide) (by decide)]
      have e1 : rest ⟨2, n, 0, []⟩ = be 8 (top n) := rfl
      have e2 : rest ⟨2, n', 0, []⟩ = be 8 (top n') := rfl
      rw [e1, e2, be8_lx _ _ _ _ (by unfold top; omega) (by unfold top; omega)]
      refine ite3 n n' _ _ _ ?_ ?_ <;> (unfold top; omega)
    · have h1 := ia.b; have h2 := ib.b
      dsimp only at h1 h2 ⊢
      rw [pick_float]
      have e1 : rest ⟨3, 0, x, []⟩ = be 8 (turn x) := rfl
      have e2 : rest ⟨3, 0, x', []⟩ = be 8 (turn x') := rfl
      rw [e1, e2, be8_lx _ _ _ _ (turn_lt h1) (turn_lt h2), turn_order h1 h2 (canon_right ha) (canon_right hb)]
      by_cases g1 : turn x < turn x'
      · rw [if_pos g1, if_pos g1, if_neg (by decide)]
      · rw [if_neg g1, if_neg g1]
        by_cases g2 : turn x' < turn x
        · rw [if_pos g2, if_pos g2, if_neg (by decide)]
        · rw [if_neg g2, if_neg g2, if_pos rfl]
    · have e1 : rest ⟨4, 0, 0, s⟩ = esc s ++ [0, 1] := rfl
      have e2 : rest ⟨4, 0, 0, s'⟩ = esc s' ++ [0, 1] := rfl
      dsimp only
      rw [pick_text 4 (by decide) (by decide), e1, e2, List.append_assoc, List.append_assoc]
      exact esc_lx X Y s s'
    · have e1 : rest ⟨5, 0, 0, s⟩ = esc s ++ [0, 1] := rfl
      have e2 : rest ⟨5, 0, 0, s'⟩ = esc s' ++ [0, 1] := rfl
      dsimp only
      rw [pick_text 5 (by decide) (by decide), e1, e2, List.append_assoc, List.append_assoc]
      exact esc_lx X Y s s'
  · rw [if_pos hk]
    unfold Val.cmpI
    by_cases g1 : a.k < b.k
    · rw [if_pos (show (a.k + 1).toNat < (b.k + 1).toNat by omega), if_pos g1, if_neg (by decide)]
    · rw [if_neg (show ¬ (a.k + 1).toNat < (b.k + 1).toNat by omega), if_pos (show (b.k + 1).toNat < (a.k + 1).toNat by omega), if_neg g1, if_pos (show b.k < a.k by omega), if_neg (by decide)]
/-- Which key is ahead. -/
def cmpK : List V → List V → Int
  | [], [] => 0
  | [], _ :: _ => -1
  | _ :: _, [] => 1
  | a :: l, b :: m => if cmp a b = 0 then cmpK l m else cmp a b
theorem body_cons (a : V) (l : List V) : body (a :: l) = one a ++ body l := by simp [body]
theorem body_lx : ∀ a b : List V, (∀ x ∈ a, x.right = true ∧ x.inn) → (∀ x ∈ b, x.right = true ∧ x.inn) → lx (body a) (body b) = cmpK a b
  | [], [], _, _ => rfl
  | [], b :: m, _, hb => by
    have h := hb b (by simp)
    have := (right_kind h.1).1
    rw [body_cons]
    unfold one
    show lx [0] (_ :: _) = -1
    have z : (0 : UInt8).toNat = 0 := rfl
    simp only [lx, kb h.1, z]
    rw [if_pos (by omega)]
  | a :: l, [], ha, _ => by
    have h := ha a (by simp)
    have := (right_kind h.1).1
    rw [body_cons]
    unfold one
    show lx (_ :: _) [0] = 1
    have z : (0 : UInt8).toNat = 0 := rfl
    simp only [lx, kb h.1, z]
    rw [if_neg (by omega), if_pos (by omega)]
  | a :: l, b :: m, ha, hb => by
    have h := ha a (by simp)
    have g := hb b (by simp)
    rw [body_cons, body_cons, one_lx h.1 g.1 h.2 g.2, body_lx l m (fun x hx => ha x (by simp [hx])) (fun x hx => hb x (by simp [hx]))]
    rfl
theorem cmp_zero {a b : V} (ha : a.right = true) (hb : b.right = true) (ia : a.inn) (ib : b.inn) (h : cmp a b = 0) : a = b := by
  rw [cmp_right ha hb] at h
  have hi : ∀ m n : Int, Val.cmpI m n = 0 → m = n := by intro m n g; unfold Val.cmpI at g; split at g; omega; split at g <;> omega
  by_cases hk : a.k = b.k
  · rw [if_neg (show ¬ (a.k ≠ b.k) from fun x => x hk)] at h
    rcases right_form ha with rfl | ⟨n, rfl, hn⟩ | ⟨n, rfl⟩ | ⟨x, rfl⟩ | ⟨s, rfl, _⟩ | ⟨s, rfl, _⟩ <;> rcases right_form hb with rfl | ⟨n', rfl, hn'⟩ | ⟨n', rfl⟩ | ⟨x', rfl⟩ | ⟨s', rfl, _⟩ | ⟨s', rfl, _⟩ <;> first | (exfalso; simp at hk; done) | skip
    · rfl
    · dsimp only at h; rw [pick_other 1 (by decide) (by decide)] at h; rw [hi _ _ h]
    · dsimp only at h; rw [pick_other 2 (by decide) (by decide)] at h; rw [hi _ _ h]
    · have h1 := ia.b; have h2 := ib.b
      dsimp only at h1 h2 h
      rw [pick_float, turn_order h1 h2 (canon_right ha) (canon_right hb)] at h
      have e : turn x = turn x' := by
        split at h
        · omega
        · split at h
          · omega
          · omega
      have : x = x' := by unfold turn at e; split at e <;> split at e <;> omega
      rw [this]
    · dsimp only at h; rw [pick_text 4 (by decide) (by decide)] at h; rw [lx_zero _ _ h]
    · dsimp only at h; rw [pick_text 5 (by decide) (by decide)] at h; rw [lx_zero _ _ h]
  · rw [if_pos hk] at h; exact absurd (hi _ _ h) hk
theorem cmp_self {a : V} (ha : a.right = true) (ia : a.inn) : cmp a a = 0 := by
  have h := one_lx ha ha ia ia [0] []
  have e : lx (one a ++ [0]) (one a ++ []) = 1 := by rw [lx_app]; rfl
  rw [e] at h
  by_cases g : cmp a a = 0
  · exact g
  · rw [if_neg g] at h
    have h2 := one_lx ha ha ia ia [] [0]
    have e2 : lx (one a ++ []) (one a ++ [0]) = -1 := by rw [lx_app]; rfl
    rw [e2, if_neg g] at h2
    omega
theorem cmpK_zero : ∀ a b : List V, (∀ x ∈ a, x.right = true ∧ x.inn) → (∀ x ∈ b, x.right = true ∧ x.inn) → cmpK a b = 0 → a = b
  | [], [], _, _, _ => rfl
  | [], _ :: _, _, _, h => by simp [cmpK] at h
  | _ :: _, [], _, _, h => by simp [cmpK] at h
  | a :: l, b :: m, ha, hb, h => by
    simp only [cmpK] at h
    have h1 := ha a (by simp)
    have h2 := hb b (by simp)
    split at h
    · rename_i hc
      rw [cmp_zero h1.1 h2.1 h1.2 h2.2 hc, cmpK_zero l m (fun x hx => ha x (by simp [hx])) (fun x hx => hb x (by simp [hx])) h]
    · rename_i hc; exact absurd h hc
/-- One key has one row of bytes. -/
theorem body_inj {a b : List V} (ha : ∀ x ∈ a, x.right = true ∧ x.inn) (hb : ∀ x ∈ b, x.right = true ∧ x.inn) (h : body a = body b) : a = b :=
  cmpK_zero a b ha hb (by rw [← body_lx a b ha hb, h, lx_self])
/-- No key's bytes begin with another one's. -/
theorem body_pre {a b : List V} (ha : ∀ x ∈ a, x.right = true ∧ x.inn) (hb : ∀ x ∈ b, x.right = true ∧ x.inn) {t : List UInt8} (h : body b = body a ++ t) : t = [] := by
  induction a generalizing b with
  | nil =>
    cases b with
    | nil => simpa [body] using h
    | cons b m =>
      exfalso
      have g := hb b (by simp)
      have := (right_kind g.1).1
      rw [body_cons] at h
      unfold one at h
      have e : ((b.k + 1).toNat.toUInt8) = 0 := by have := congrArg List.head? h; simpa [body] using this
      have z := kb g.1
      rw [e] at z
      have : (0 : UInt8).toNat = 0 := rfl
      omega
  | cons a l ih =>
    have g1 := ha a (by simp)
    have k1 := (right_kind g1.1).1
    cases b with
    | nil =>
      exfalso
      rw [body_cons] at h
      unfold one at h
      have e : (0 : UInt8) = ((a.k + 1).toNat.toUInt8) := by have := congrArg List.head? h; simpa [body] using this
      have z := kb g1.1
      rw [← e] at z
      have : (0 : UInt8).toNat = 0 := rfl
      omega
    | cons b m =>
      have g2 := hb b (by simp)
      have e := one_lx g1.1 g2.1 g1.2 g2.2 (body l ++ t) (body m)
      rw [body_cons, body_cons, List.append_assoc] at h
      rw [h, lx_self] at e
      have hc : cmp a b = 0 := by
        by_cases q : cmp a b = 0
        · exact q
        · rw [if_neg q] at e; exact e.symm
      have := cmp_zero g1.1 g2.1 g1.2 g2.2 hc
      subst this
      have h2 := List.append_cancel_left h
      exact ih (fun x hx => ha x (by simp [hx])) (fun x hx => hb x (by simp [hx])) h2
end Ky
end Go.Proofs.YtppdebhcaodcnaaDoor
