/- Facts: their contents, what is required of them, and their cells in memory. -/
import Derived.Test.YtdmaopfaeigelaaGreatDoorFacKit
namespace Go.Proofs.YtdmaopfaeigelaaGreatDoor
set_option linter.unusedSimpArgs false
set_option linter.unusedVariables false
open Go.RowKit

structure Gm where
  s : Int
  c : Int
  h : Int
  a : Int
structure Cd where
  p : Int
  red : Bool
structure En where
  s : Int
  c : Int
  clubs : List Int
  rules : ByteArray
structure Sh where
  g : Gm
  rf : Int
  hg : Int
  ag : Int
  hp : Int
  ap : Int
  hs : List Int
  as_ : List Int
  hc : List Cd
  ac : List Cd
structure Ru where
  cas : Int
  ins : Int
  kind : Int
  g : Gm
  club : Int
  player : Int
  s : Int
  c : Int
  points : Int
  amount : Int
  hg : Int
  ag : Int
  from_ : Int
  to_ : Int
structure Fc where
  kind : Int
  day : Int
  known : Int
  e : En
  xg : Gm
  venue : Int
  sh : Sh
  r : Ru
  ac : Int
  ai : Int
  susp : Bool
  mp : Int
  mt : Int
  ls : Int
  lc : Int
  order : List Int
  void : List Int

/-- where the lists of a fact lie, and their capacities -/
structure Ad where
  cl : Option Addr
  ncl : Nat
  hs : Option Addr
  nhs : Nat
  as_ : Option Addr
  nas : Nat
  hc : Option Addr
  nhc : Nat
  ac : Option Addr
  nac : Nat
  od : Option Addr
  nod : Nat

def gC (g : Gm) : List Value := [.int .i64 g.s, .int .i64 g.c, .int .i64 g.h, .int .i64 g.a]
def eC (e : En) (A : Option Addr) (k : Nat) : List Value := [.int .i64 e.s, .int .i64 e.c, .slice A e.clubs.length k, .string e.rules]
def xC (g : Gm) (v : Int) : List Value := gC g ++ [.int .i64 v]
def sC (s : Sh) (a : Ad) : List Value := gC s.g ++ [.int .i64 s.rf, .int .i64 s.hg, .int .i64 s.ag, .int .i64 s.hp, .int .i64 s.ap, .slice a.hs s.hs.length a.nhs, .slice a.as_ s.as_.length a.nas, .slice a.hc s.hc.length a.nhc, .slice a.ac s.ac.length a.nac]
def rC (r : Ru) : List Value := [.int .i64 r.cas, .int .i64 r.ins, .int .i64 r.kind] ++ gC r.g ++ [.int .i64 r.club, .int .i64 r.player, .int .i64 r.s, .int .i64 r.c, .int .i64 r.points, .int .i64 r.amount, .int .i64 r.hg, .int .i64 r.ag, .int .i64 r.from_, .int .i64 r.to_]
def lC (s c : Int) (l : List Int) (A : Option Addr) (k : Nat) : List Value := [.int .i64 s, .int .i64 c, .slice A l.length k]
def fC (f : Fc) (a : Ad) : List Value :=
  [.int .i64 f.kind, .int .i64 f.day, .int .i64 f.known] ++ eC f.e a.cl a.ncl ++ xC f.xg f.venue ++ sC f.sh a ++ rC f.r ++ [.int .i64 f.ac, .int .i64 f.ai, .bool f.susp] ++ [.int .i64 f.mp, .int .i64 f.mt] ++ lC f.ls f.lc f.order a.od a.nod ++ f.void.map (Value.int .u8)

/-- the slice of ints at A reads as the list -/
structure It (w : World) (A : Option Addr) (l : List Int) : Prop where
  at_ : l ≠ [] → ∃ b o, A = some ⟨b, o, none⟩ ∧ ∀ j, j < l.length → w.cell? ⟨b, o + j, none⟩ = some (.int .i64 (l.getD j 0))
theorem It.nil {w : World} {A : Option Addr} : It w A [] := ⟨fun h => absurd rfl h⟩
theorem It.keep {w w' : World} {A : Option Addr} {l : List Int} (h : It w A l) (hg : Below w.heap.size w w') : It w' A l := by
  refine ⟨fun hl => ?_⟩
  obtain ⟨b, o, e, hc⟩ := h.at_ hl
  refine ⟨b, o, e, fun j hj => ?_⟩
  have hj' := hc j hj
  rw [cell_block (hg.block b (lt_of_cell hj'))]
  exact hj'
/-- cards: a player and a colour each -/
structure Ct (w : World) (A : Option Addr) (l : List Cd) : Prop where
  at_ : l ≠ [] → ∃ b o, A = some ⟨b, o, none⟩ ∧ ∀ j (x : Cd), l[j]? = some x → w.cell? ⟨b, o + j * 2, none⟩ = some (.int .i64 x.p) ∧ w.cell? ⟨b, o + j * 2 + 1, none⟩ = some (.bool x.red)
theorem Ct.nil {w : World} {A : Option Addr} : Ct w A [] := ⟨fun h => absurd rfl h⟩
theorem Ct.keep {w w' : World} {A : Option Addr} {l : List Cd} (h : Ct w A l) (hg : Below w.heap.size w w') : Ct w' A l := by
  refine ⟨fun hl => ?_⟩
  obtain ⟨b, o, e, hc⟩ := h.at_ hl
  refine ⟨b, o, e, fun j x hj => ?_⟩
  obtain ⟨h1, h2⟩ := hc j x hj
  rw [cell_block (hg.block b (lt_of_cell h1)), cell_block (hg.block b (lt_of_cell h2))]
  exact ⟨h1, h2⟩
/-- a list's slice -/
structure Sl (w : World) (A : Option Addr) (l : List Int) (k : Nat) : Prop where
  it : It w A l
  cap : l.length ≤ k
  nil : A = none → k = 0
  few : l.length ≤ 1000
theorem Sl.keep {w w' : World} {A : Option Addr} {l : List Int} {k : Nat} (h : Sl w A l k) (hg : Below w.heap.size w w') : Sl w' A l k := ⟨h.it.keep hg, h.cap, h.nil, h.few⟩
structure Sc (w : World) (A : Option Addr) (l : List Cd) (k : Nat) : Prop where
  it : Ct w A l
  cap : l.length ≤ k
  nil : A = none → k = 0
  few : l.length ≤ 1000
theorem Sc.keep {w w' : World} {A : Option Addr} {l : List Cd} {k : Nat} (h : Sc w A l k) (hg : Below w.heap.size w w') : Sc w' A l k := ⟨h.it.keep hg, h.cap, h.nil, h.few⟩
/-- a fact in memory -/
structure FAt (w : World) (f : Fc) (a : Ad) : Prop where
  cl : Sl w a.cl f.e.clubs a.ncl
  hs : Sl w a.hs f.sh.hs a.nhs
  as_ : Sl w a.as_ f.sh.as_ a.nas
  hc : Sc w a.hc f.sh.hc a.nhc
  ac : Sc w a.ac f.sh.ac a.nac
  od : Sl w a.od f.order a.nod
  void : f.void.length = 32
theorem FAt.keep {w w' : World} {f : Fc} {a : Ad} (h : FAt w f a) (hg : Below w.heap.size w w') : FAt w' f a := ⟨h.cl.keep hg, h.hs.keep hg, h.as_.keep hg, h.hc.keep hg, h.ac.keep hg, h.od.keep hg, h.void⟩

/-- a number in a range -/
def inR (n a b : Int) : Bool := decide (a ≤ n) && decide (n ≤ b)
def okGame (g : Gm) : Bool := inR g.s 0 63 && inR g.c 0 15 && inR g.h 0 191 && inR g.a 0 191 && !decide (g.h = g.a)
def incr (l : List Int) : Bool := (List.range l.length).all fun i => decide (i = 0) || decide (l.getD (i - 1) 0 < l.getD i 0)
def isLet (c : Nat) : Bool := decide (97 ≤ c) && decide (c ≤ 122)
def isDig (c : Nat) : Bool := decide (48 ≤ c) && decide (c ≤ 57)
end Go.Proofs.YtdmaopfaeigelaaGreatDoor
