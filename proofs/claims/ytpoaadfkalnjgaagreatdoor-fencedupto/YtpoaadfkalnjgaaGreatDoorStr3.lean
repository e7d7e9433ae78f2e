/- The blocks of a row of lines: plain functions. -/
import Derived.Test.YtpoaadfkalnjgaaGreatDoorStr2
namespace Go.Proofs.YtpoaadfkalnjgaaGreatDoor.S
open Go

/-- Does a line end a paragraph? -/
def endsPar (l : List UInt8) : Bool :=
  blank l || decide (0 < underlineLevel l) || isRule l || decide (0 < titleLevel l) || isQuoted l || (fence l).ok || ((item l).ok && (!(item l).empty && ((item l).number == -1 || (item l).number == 1)))

/-- A block, or an item of a list. -/
inductive Blk where
  | mk (kind : Int) (n : Int) (info text : List UInt8) (loose : Bool) (kids : List Blk)
def Blk.kind : Blk → Int | .mk k _ _ _ _ _ => k
def Blk.n : Blk → Int | .mk _ n _ _ _ _ => n
def Blk.info : Blk → List UInt8 | .mk _ _ i _ _ _ => i
def Blk.text : Blk → List UInt8 | .mk _ _ _ t _ _ => t
def Blk.loose : Blk → Bool | .mk _ _ _ _ l _ => l
def Blk.kids : Blk → List Blk | .mk _ _ _ _ _ k => k

/-- Code by an indent: its text. -/
def codeText (rows : List (List UInt8)) : List UInt8 := (rows.map (fun l => l.drop 4 ++ [10])).flatten
def readIndented (row : List (List UInt8)) : Blk × Nat := (.mk 3 0 [] (codeText (row.take (countDeep 4 row))) false [], countDeep 4 row)
/-- Code between fences: how many lines up to the one that closes; its text. -/
def fencedSize (c : UInt8) (width : Nat) : List (List UInt8) → Nat
  | [] => 0
  | x :: r => if closedBy c width x = true then 0 else fencedSize c width r + 1
def fencedText (ind : Nat) (rows : List (List UInt8)) : List UInt8 := (rows.map (fun l => l.drop (min ind (indent l)) ++ [10])).flatten
def readFenced (f : Fence) (row : List (List UInt8)) : Blk × Nat :=
  (.mk 3 0 f.info (fencedText f.ind (row.tail.take (fencedSize f.mark f.width row.tail))) false [], min (fencedSize f.mark f.width row.tail + 1 + 1) row.length)
/-- A paragraph: how many lines behind the first one; its content. -/
def parSize : List (List UInt8) → Nat
  | [] => 0
  | x :: r => if endsPar x = true then 0 else parSize r + 1
def joinLines : List (List UInt8) → List UInt8
  | [] => []
  | [x] => x.drop (indent x)
  | x :: y :: r => x.drop (indent x) ++ 10 :: joinLines (y :: r)
def readParagraph (row : List (List UInt8)) : Blk × Nat :=
  let size := parSize row.tail + 1
  let text := Lib.trimRightB (joinLines (row.take size)) 32
  match row[size]? with
  | none => (.mk 1 0 [] text false [], size)
  | some l => if 0 < underlineLevel l then (.mk 2 (underlineLevel l) [] text false [], size + 1) else (.mk 1 0 [] text false [], size)
/-- The lines of an item. -/
def itemRow (m : Mark) (row : List (List UInt8)) : List (List UInt8) :=
  if m.empty = true ∧ (row[1]?.map blank) = some true then [[]] else (row.take (countDeep m.margin row)).map (fun l => l.drop m.margin)
def nextItem (kind : UInt8) (row : List (List UInt8)) : Mark :=
  match row with
  | [] => ⟨0, 0, 0, false, false⟩
  | l :: _ => if isRule l = true then ⟨0, 0, 0, false, false⟩ else { item l with ok := (item l).ok && decide ((item l).kind = kind) }
/-- The lines of a quote. -/
def quoteRow : List (List UInt8) → List (List UInt8)
  | [] => []
  | x :: r => if isQuoted x = true then unquoted x :: quoteRow r else []
/-- The items of a list: fuel, the first item's mark, what is read of a row. -/
def listFrom (sub : List (List UInt8) → List Blk × Bool) (kind : UInt8) : Nat → Mark → List (List UInt8) → List Blk × Bool × Nat
  | 0, _, _ => ([], false, 0)
  | f + 1, m, row =>
    let own := itemRow m row
    let (kids, parted) := sub own
    let kid := Blk.mk 7 0 [] [] false kids
    let gap := countBlank (row.drop own.length)
    let next := nextItem kind (row.drop (own.length + gap))
    if next.ok = true then
      let (more, loose, size) := listFrom sub kind f next (row.drop (own.length + gap))
      (kid :: more, parted || decide (0 < gap) || loose, own.length + gap + size)
    else ([kid], parted, own.length)
def readList (sub : List (List UInt8) → List Blk × Bool) (m : Mark) (row : List (List UInt8)) : Blk × Nat :=
  let (items, loose, size) := listFrom sub m.kind row.length m row
  (.mk 6 m.number [] [] loose items, size)
def readBlock (sub : List (List UInt8) → List Blk × Bool) (row : List (List UInt8)) : Blk × Nat :=
  match row with
  | [] => (.mk 0 0 [] [] false [], 1)
  | first :: _ =>
    if 4 ≤ indent first then readIndented row
    else if isRule first = true then (.mk 4 0 [] [] false [], 1)
    else if 0 < titleLevel first then (.mk 2 (titleLevel first) [] (titleContent first) false [], 1)
    else if (fence first).ok = true then readFenced (fence first) row
    else if isQuoted first = true then (.mk 5 0 [] [] false (sub (quoteRow row)).1, (quoteRow row).length)
    else if (item first).ok = true then readList sub (item first) row
    else readParagraph row
/-- The blocks of a row, behind its blank lines: fuel, what is read of a row. -/
def rowFrom (sub : List (List UInt8) → List Blk × Bool) : Nat → List (List UInt8) → List Blk × Bool
  | 0, _ => ([], false)
  | f + 1, row =>
    if row = [] then ([], false) else
    let (b, size) := readBlock sub row
    let gap := countBlank (row.drop size)
    let rest := row.drop (size + gap)
    let (more, parted) := rowFrom sub f rest
    (b :: more, (decide (0 < gap) && !rest.isEmpty) || parted)
/-- readRow, at a depth. -/
def readRow : Nat → List (List UInt8) → List Blk × Bool
  | 0, _ => ([], false)
  | d + 1, row => rowFrom (readRow d) row.length (row.drop (countBlank row))

end Go.Proofs.YtpoaadfkalnjgaaGreatDoor.S
