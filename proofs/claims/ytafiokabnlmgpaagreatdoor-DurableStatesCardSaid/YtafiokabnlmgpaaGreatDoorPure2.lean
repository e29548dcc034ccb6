/- Disks as the document has them: a rising list of files; what each call makes of it. Plain mathematics. No condition. -/
import Derived.Test.YtafiokabnlmgpaaGreatDoorPure
namespace Go.Proofs.YtafiokabnlmgpaaGreatDoor

structure PF where
  name : Bs
  data : Bs
  last : Nat
structure PD where
  room : Nat
  left : Int
  down : Bool
  files : List PF
def pfind : List PF → Bs → Option PF
  | [], _ => none
  | f :: t, k => if f.name = k then some f else pfind t k
def ptotal : List PF → Nat
  | [] => 0
  | f :: t => f.data.length + ptotal t
def pins (x : PF) : List PF → List PF
  | [] => [x]
  | y :: r => if Op.bytesLess x.name y.name then x :: y :: r else y :: pins x r
def pset (L : List PF) (k : Bs) (h : PF → PF) : List PF := L.map fun g => if g.name = k then h g else g
def pdel (L : List PF) (k : Bs) : List PF := L.filter fun g => !decide (g.name = k)
def isNm (k : Bs) : Bool := decide (1 ≤ k.length) && decide (k.length ≤ 16)
/-- a change is used up. -/
def pspend (p : PD) : PD := if p.left = 0 then { p with down := true } else if 0 < p.left then { p with left := p.left - 1 } else p
def pspendE (p : PD) : Int := if p.left = 0 then 3 else 0
/-- the files with bytes behind a file's. -/
def pput (L : List PF) (k d : Bs) : List PF := pset (match pfind L k with | some _ => L | none => pins ⟨k, [], 0⟩ L) k fun g => { g with data := g.data ++ d }
def pAppend (p : PD) (k d : Bs) : PD × Int :=
  if p.down then (p, 3)
  else if isNm k = false then (p, 1)
  else if (pfind p.files k = none ∧ 32 ≤ p.files.length) ∨ p.room < ptotal p.files + d.length then (p, 2)
  else (pspend { p with files := pput p.files k d }, pspendE p)
/-- what is asked of a file, and done to it. -/
def pChange (p : PD) (k : Bs) (right : PF → Bool) (act : PF → List PF → List PF) : PD × Int :=
  if p.down then (p, 3)
  else match pfind p.files k with
    | none => (p, 60)
    | some f => if right f = false then (p, 1) else if p.left = 0 then (pspend p, 3) else ({ pspend p with files := act f p.files }, 0)
def pSync (p : PD) (k : Bs) : PD × Int := pChange p k (fun _ => true) fun _ L => pset L k fun g => { g with last := g.data.length }
def pRename (p : PD) (k to : Bs) : PD × Int := pChange p k (fun _ => isNm to) fun f L => pins { f with name := to } (pdel (pdel L k) to)
def pRemove (p : PD) (k : Bs) : PD × Int := pChange p k (fun _ => true) fun _ L => pdel L k
def pCut (p : PD) (k : Bs) (n : Int) : PD × Int := pChange p k (fun f => decide (0 ≤ n) && decide (n ≤ f.data.length)) fun _ L => pset L k fun g => { g with data := g.data.take n.toNat, last := min g.last n.toNat }
def pRead (p : PD) (k : Bs) : Bs × Int :=
  if p.down then ([], 3) else match pfind p.files k with
    | none => ([], 60)
    | some f => (f.data, 0)
/-- how many bytes of a file are kept. -/
def pkeep (f : PF) (k : Int) : Nat := f.last + (k % ((f.data.length - f.last + 1 : Nat) : Int)).toNat
def pcrashF (f : PF) (k : Int) : PF := { f with data := f.data.take (pkeep f k), last := pkeep f k }
def pcrashL : List PF → List Int → List PF
  | [], _ => []
  | f :: t, ks => pcrashF f (ks.headD 0) :: pcrashL t ks.tail
def pCrash (p : PD) (ks : List Int) : PD := ⟨p.room, -1, false, pcrashL p.files ks⟩
def pNew (room : Nat) : PD := ⟨room, -1, false, []⟩
end Go.Proofs.YtafiokabnlmgpaaGreatDoor
