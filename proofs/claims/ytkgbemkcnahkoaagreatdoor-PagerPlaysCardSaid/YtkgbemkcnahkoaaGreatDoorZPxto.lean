import Derived.Test.YtkgbemkcnahkoaaGreatDoorZPpto
import Derived.Test.YtkgbemkcnahkoaaGreatDoorZFrdto
namespace Go.Proofs.YtkgbemkcnahkoaaGreatDoor
open Go.RowKit
namespace Pgr
open Wal (Pair PL strs strs_snoc strs_one infoS)
open Dsk (PD Mine KeepQ Only below_keeps cell_later sec vals pad zeros upd IntsAt ints BoolsAt owns_later Opv)
open Crc (S S_of S_size)
section
variable {W : World} {Q : Nat → Prop} {P L D : Nat} {v : PV} {g : PL} {d : PD} {w w' : World}
def opV (x : Opv) : Value := .agg #[.int .i64 x.kind, .int .i64 x.pos, .string x.s, .slice x.ko x.ks.length x.kc]
end
end Pgr
end Go.Proofs.YtkgbemkcnahkoaaGreatDoor
namespace Go.Proofs.YtkgbemkcnahkoaaGreatDoor
open Go.RowKit
namespace Pgr
open Wal (Pair PL R np)
open Dsk (PD Mine KeepQ Only below_keeps cell_later sec vals pad zeros upd IntsAt ints BoolsAt Opv)
open Crc (S S_of S_size)
def fused (d : PD) (k : Int) : PD := { d with fu := true, lf := k.toNat }
section
variable {W : World} {Q : Nat → Prop} {P L D n N K : Nat} {u : Bool} {ch : Ch} {V V' : Nat → List UInt8} {v : PV} {g : PL} {d : PD} {w w' : World}
theorem Pg.fuse (h : Pg W Q P L D v g d w) (k : Int) (hk : k ≤ 9223372036854775807) : Calls Tryz.prog 14 #[.pointer (some ⟨D, 0, none⟩), .int .i64 k] w fun e w' => e = .returned (.tuple #[]) ∧ Pg W Q P L D v g (fused d k) w' ∧ KeepQ Q w w' := by
 obtain ⟨M, hl, hp, h1, h2⟩ := h.ex
 obtain ⟨U, sl, ⟨⟨T, hT, hq⟩, hB, hql⟩, hlg, hu⟩ := hl.ex
 refine (Dsk.fuse_any k hk w hT).mono fun e w' h3 => ?_
 obtain ⟨he, hd, ho⟩ := h3
 obtain ⟨hm, hkq⟩ := Mine.same hq hB hql hd ho
 obtain ⟨hp2, hkq2⟩ := Wal.Pair.disk hlg hu hm hkq
 obtain ⟨h4, h5⟩ := Pg.log hp h1 h2 hp2 hkq2 h.fit
 exact ⟨he, h4, h5⟩
theorem Calm.fuse {t b : Nat} (h : Calm n N K t b d V) (k : Int) : Calm n N K t b (fused d k) V :=
 ⟨⟨⟨h.life.bd.one, h.life.bd.slots, h.life.bd.a1, h.life.bd.cs, h.life.bd.old, h.life.bd.stop, h.life.bd.mono, h.life.bd.all, h.life.bd.room⟩, h.life.cur⟩, h.cs, h.bt, h.tT, h.pgs⟩
end
end Pgr
end Go.Proofs.YtkgbemkcnahkoaaGreatDoor
namespace Go.Proofs.YtkgbemkcnahkoaaGreatDoor
open Go.RowKit
namespace Pgr
open Wal (Pair PL R np)
open Dsk (PD Mine KeepQ Only below_keeps cell_later sec vals pad zeros upd IntsAt ints BoolsAt Opv)
open Crc (S S_of S_size)
section
variable {W : World} {Q : Nat → Prop} {P L D K : Nat} {a b l : List (List UInt8)} {va vb vl : Value} {w w' : World}
end
end Pgr
end Go.Proofs.YtkgbemkcnahkoaaGreatDoor
