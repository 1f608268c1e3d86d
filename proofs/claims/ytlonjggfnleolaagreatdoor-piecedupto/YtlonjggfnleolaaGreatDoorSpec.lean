/-
  What the first of some bytes come to, in each dialect: in plain words, apart from the program.
-/
import Derived.Test.YtlonjggfnleolaaGreatDoorFrBad
import Derived.Lib.Bytealg
namespace Go.Proofs.YtlonjggfnleolaaGreatDoor
set_option linter.unusedVariables false

/-- A command. -/
structure Cmd where
  kind : Int
  keys : List ByteArray
  val : ByteArray
  word : ByteArray
  fatal : Bool
  id : Int

/-- A command that was read, its bytes, and whether what is behind it is passed over. -/
structure StepR where
  c : Cmd
  used : Nat
  skip : Bool

def mkB (l : List UInt8) : ByteArray := ⟨l.toArray⟩
def noB : ByteArray := ⟨#[]⟩
def formB : ByteArray := ⟨#[102, 111, 114, 109]⟩
def longB : ByteArray := ⟨#[108, 111, 110, 103]⟩
def bigB : ByteArray := ⟨#[98, 105, 103]⟩
def dataB : ByteArray := ⟨#[100, 97, 116, 97]⟩
def wrongC (word : ByteArray) (ft : Bool) : Cmd := ⟨4, [], noB, word, ft, 0⟩

/-- frames -/
def frR (bs : List UInt8) : Option StepR :=
  if bs.length < 7 then none
  else if frHead bs = false then some ⟨wrongC formB true, 7, false⟩
  else if bs.length < 7 + byAt bs 2 + numAt bs 3 then none
  else if keyB (bytesOf bs 7 (byAt bs 2)) = false then some ⟨wrongC formB true, 7 + byAt bs 2 + numAt bs 3, false⟩
  else some ⟨⟨byAt bs 1, [bytesOf bs 7 (byAt bs 2)], bytesOf bs (7 + byAt bs 2) (numAt bs 3), noB, false, numAt bs 5⟩, 7 + byAt bs 2 + numAt bs 3, false⟩

def kindB (s : ByteArray) : Int := if s = ⟨#[103, 101, 116]⟩ then 1 else if s = ⟨#[115, 101, 116]⟩ then 2 else if s = ⟨#[100, 101, 108]⟩ then 3 else 0

/-- words between blanks -/
def splitL : List UInt8 → List (List UInt8)
  | [] => [[]]
  | b :: l => if b = 32 then [] :: splitL l else match splitL l with | h :: t => (b :: h) :: t | [] => [[b]]
def wordsOf (l : List UInt8) : List ByteArray := (splitL l).map mkB

def digsTo (l : List UInt8) : Nat := l.foldl (fun n b => n * 10 + (b.toNat - 48)) 0
def countS (s : ByteArray) : Option Nat :=
  if s.size < 1 ∨ 3 < s.size ∨ (1 < s.size ∧ s.data.toList.getD 0 0 = 48) then none
  else if s.data.toList.all digB then some (digsTo s.data.toList) else none

def setSizeR (ws : List ByteArray) : Option Nat :=
  if ws.length = 3 ∧ kindB (ws.getD 0 noB) = 2 ∧ keyB (ws.getD 1 noB) = true then countS (ws.getD 2 noB) else none

def setR (bs : List UInt8) (frm : Nat) (key : ByteArray) (size : Nat) : Option StepR :=
  if 40 < size then some ⟨wrongC bigB false, frm, false⟩
  else if bs.length ≤ frm + size then none
  else if bs.getD (frm + size) 0 ≠ 10 then some ⟨wrongC dataB false, frm + size, true⟩
  else some ⟨⟨2, [key], bytesOf bs frm size, noB, false, 0⟩, frm + size + 1, false⟩

def lineR (bs : List UInt8) (e : Nat) : Option StepR :=
  match setSizeR (wordsOf (bs.take e)) with
  | some size => setR bs (e + 1) ((wordsOf (bs.take e)).getD 1 noB) size
  | none =>
    if kindB ((wordsOf (bs.take e)).getD 0 noB) = 2 ∨ cmdB (kindB ((wordsOf (bs.take e)).getD 0 noB)) ((wordsOf (bs.take e)).drop 1) noB = false
    then some ⟨wrongC formB false, e + 1, false⟩
    else some ⟨⟨kindB ((wordsOf (bs.take e)).getD 0 noB), (wordsOf (bs.take e)).drop 1, noB, noB, false, 0⟩, e + 1, false⟩

/-- lines -/
def lnR (bs : List UInt8) : Option StepR :=
  if 0 ≤ Go.Lib.indexByte (bs.take 61) 10 then lineR bs (Go.Lib.indexByte (bs.take 61) 10).toNat
  else if 60 < bs.length then some ⟨wrongC longB false, 61, true⟩
  else none

/-- lists: the walk -/
structure WS where
  pos : Nat
  wrong : Bool
  short : Bool

def WS.look (n : Nat) (s : WS) : WS := ⟨s.pos, s.wrong, s.short || decide (s.pos = n)⟩
def expectW (bs : List UInt8) (c : UInt8) (s : WS) : WS :=
  if (s.look bs.length).short || s.wrong then s.look bs.length
  else if bs.getD s.pos 0 = c then ⟨s.pos + 1, false, false⟩ else ⟨s.pos, true, false⟩
def countF (bs : List UInt8) (least most : Nat) : Nat → Nat → Nat → Bool → Nat × WS
  | 0, p, n, first => (0, ⟨p, false, true⟩)
  | f + 1, p, n, first =>
    if first = false ∧ bs.getD p 0 = 10 then (n, ⟨p + 1, false, false⟩)
    else if digB (bs.getD p 0) = false ∨ most < n * 10 + (byAt bs p - 48) ∨ (first = true ∧ byAt bs p - 48 < least) ∨ (first = false ∧ n = 0) then (0, ⟨p, true, false⟩)
    else countF bs least most f (p + 1) (n * 10 + (byAt bs p - 48)) false
def countW (bs : List UInt8) (least most : Nat) (s : WS) : Nat × WS :=
  if (s.look bs.length).short || s.wrong then (0, s.look bs.length) else countF bs least most (bs.length - s.pos) s.pos 0 true
def textW (bs : List UInt8) (n : Nat) (s : WS) : ByteArray × WS :=
  if s.wrong || s.short then (noB, s)
  else if bs.length < s.pos + n then (noB, ⟨s.pos, s.wrong, true⟩)
  else (bytesOf bs s.pos n, ⟨s.pos + n, s.wrong, s.short⟩)
/-- one text of a list -/
def oneW (bs : List UInt8) (s : WS) : ByteArray × WS :=
  let c := countW bs 0 40 (expectW bs 36 s)
  let t := textW bs c.1 c.2
  (t.1, expectW bs 10 t.2)
def textsW (bs : List UInt8) : Nat → WS → List ByteArray → List ByteArray × WS
  | 0, s, acc => (acc, s)
  | k + 1, s, acc => textsW bs k (oneW bs s).2 (acc ++ [(oneW bs s).1])

def textsR (ts : List ByteArray) (used : Nat) : StepR :=
  let k := kindB (ts.getD 0 noB)
  let ks := ts.drop 1
  let keys := if k = 2 then (if ks.length = 2 then ks.take 1 else []) else ks
  let val := if k = 2 ∧ ks.length = 2 then ks.getD 1 noB else noB
  if cmdB k keys val then ⟨⟨k, keys, val, noB, false, 0⟩, used, false⟩ else ⟨wrongC dataB false, used, false⟩

/-- lists -/
def lsR (bs : List UInt8) : Option StepR :=
  let c := countW bs 1 5 (expectW bs 42 ⟨0, false, false⟩)
  let t := textsW bs c.1 c.2 []
  if t.2.wrong then some ⟨wrongC formB true, t.2.pos + 1, false⟩
  else if t.2.short then none
  else some (textsR t.1 t.2.pos)

def readR (d : Int) (bs : List UInt8) : Option StepR := if d = 1 then lnR bs else if d = 2 then frR bs else lsR bs
end Go.Proofs.YtlonjggfnleolaaGreatDoor
