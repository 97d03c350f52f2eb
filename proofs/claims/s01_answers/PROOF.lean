import PyProof.Rows.All
import PyVahypb
import Wide.All
import OpenK.AllK
import Wide.FinOn
import PyProof.EqAt
import PyProof.EqKinds
import PyProof.TupleCall
import Open.SpecLaws
import KE.OsGo
import KE.KeyNested
import KE.KDictZip
import PyProof.Draws
import HandS.ForSpec
import HandS.ForMost
import HandS.Walk
import HandS.Zip
import HandS.DictTup
import KE.DatumIndex
import KE.DatumOrd
import KE.DataMinMax
import PyProof.SumWalkG
import HandS.SetFor
import HandS.CallLocal
import HandS.TupLen
import HandS.TupAny
import HandS.ExcInit
import HandS.ExcSuper
import HandS.ExcField
import PySem.Challenge.RW_partrounds_s01_answers
import HandS.NoneIn
import HandS.Conv
import HandS.Codes
/-! # The mirror: each def of the program as a total function over lists of whole numbers -/
namespace PM
abbrev Ns := List Int
abbrev Flt := Int × Int
/-! ### signs -/
def isLetter (b : Int) : Bool := decide (97 ≤ b) && decide (b ≤ 122)
def isDigit (b : Int) : Bool := decide (48 ≤ b) && decide (b ≤ 57)
def isChunk (b : Int) : Bool := isLetter b || (isDigit b || (decide (b = 45) || decide (b = 46)))
def isBlank (b : Int) : Bool := decide (b = 32) || (decide (b = 9) || decide (b = 10))
/-! ### dicts as lists of pairs -/
def dget {A B : Type} [DecidableEq A] (d : List (A × B)) (k : A) : Option B := (d.find? fun e => decide (e.1 = k)).map (·.2)
def dput {A B : Type} [DecidableEq A] (d : List (A × B)) (k : A) (v : B) : List (A × B) :=
  if (d.any fun e => decide (e.1 = k)) = true then d.map fun e => if e.1 = k then (e.1, v) else e else d ++ [(k, v)]
/-! ### chunks -/
def marginOf (c : Ns) : Option Int := match c with
  | [b] => if 48 ≤ b ∧ b ≤ 53 then some (b - 48) else none
  | _ => none
def rowOf (l : Ns) : Option Ns := if 2 ≤ l.length ∧ l.length ≤ 16 ∧ l.all isLetter = true then some (46 :: (l ++ [46])) else none
def wordGo : Ns → Ns → Ns → Bool → Option (Ns × Ns × Bool)
  | [], ls, ms, b => some (ls, ms, b)
  | x :: r, ls, ms, b => if x ≠ 45 then wordGo r (ls ++ [x]) ms true else if b = true then wordGo r ls (ms ++ [(ls.length : Int)]) false else none
def wordOf (c : Ns) : Option (Ns × Ns) := match wordGo c [] [] false with
  | none => none
  | some (ls, ms, b) => match rowOf ls with
    | none => none
    | some row => if b = true then some (row, ms) else none
def cutFront (c : Ns) : Ns := if c.take 1 = [46] then c.drop 1 else c
def cutEnd (c : Ns) : Ns := if c.drop (c.length - 1) = [46] then c.dropLast else c
def withoutPoints (c : Ns) : Ns := cutEnd (cutFront c)
/-- letters so far, digits so far but the last, the last digit -/
def patGo : Ns → Ns → Ns → Int → Option (Ns × Ns)
  | [], ls, ds, d => some (ls, ds ++ [d])
  | x :: r, ls, ds, d => if isLetter x = true then patGo r (ls ++ [x]) (ds ++ [d]) 0
    else if isDigit x = true ∧ x ≠ 48 ∧ d = 0 then patGo r ls ds (x - 48) else none
def patternOf (c : Ns) : Option (Ns × Ns) := match patGo (withoutPoints c) [] [] 0 with
  | none => none
  | some (ls, ds) => if ¬ (1 ≤ ls.length ∧ ls.length ≤ 6) ∨ ds.all (fun d => decide (d = 0)) = true then none
    else some (c.filter (fun b => !isDigit b), ds)
def digitBytes (d : Int) : Ns := if d > 0 then [48 + d] else []
/-- the rest of the piece, whether nothing stands ahead of it; the digits left; told so far -/
def pbGo : Ns → Bool → Ns → Ns → Ns × Ns
  | [], _, ds, told => (ds, told)
  | x :: r, first, ds, told => if x ≠ 46 ∨ first = false then pbGo r false ds.tail (told ++ digitBytes (ds.headD 0) ++ [x]) else pbGo r false ds (told ++ [x])
def patternBytes (piece digits : Ns) : Ns := match pbGo piece true digits [] with
  | (ds, told) => match ds with
    | [] => told
    | d :: _ => told ++ digitBytes d
/-! ### tokens -/
abbrev Tk := Int × Ns
def lexGo : Nat → Int → Ns → Except Flt (List Tk)
  | 0, at_, _ => .ok [(at_, [])]
  | _ + 1, at_, [] => .ok [(at_, [])]
  | n + 1, at_, b :: r =>
    if isBlank b = true then lexGo n (at_ + 1) r
    else if b = 35 then lexGo n (at_ + 1 + (r.takeWhile (fun x => decide (x ≠ 10))).length) (r.dropWhile (fun x => decide (x ≠ 10)))
    else
      let k := if b = 59 then 1 else ((b :: r).takeWhile isChunk).length
      if 1 ≤ k ∧ k ≤ 40 then (lexGo n (at_ + k) ((b :: r).drop k)).map fun l => (at_, (b :: r).take k) :: l else .error (2, at_)
def tokensOf (t : Ns) : Except Flt (List Tk) := lexGo (t.length + 1) 0 t
/-! ### lists: the reader's tokens from its spot on -/
def here (l : List Tk) : Int := (l.headD (0, [])).1
def isAt (w : Ns) (l : List Tk) : Bool := decide ((l.headD (0, [])).2 = w)
def passOver (w : Ns) (l : List Tk) : Except Flt (List Tk) := if isAt w l = true then .ok l.tail else .error (3, here l)
def takeChunk (l : List Tk) : Except Flt (Ns × List Tk) := if (l.headD (0, [])).2 = [] ∨ (l.headD (0, [])).2 = [59] then .error (3, here l) else .ok ((l.headD (0, [])).2, l.tail)
def readMargin (l : List Tk) : Except Flt (Int × List Tk) := match takeChunk l with
  | .error f => .error f
  | .ok (c, r) => match marginOf c with
    | none => .error (7, here l)
    | some m => .ok (m, r)
abbrev Dict := List (Ns × Ns)
/-- one entry behind the name -/
def readOne (as : Ns → Option (Ns × Ns)) (known : Dict) (l : List Tk) : Except Flt (Dict × List Tk) := match takeChunk l with
  | .error f => .error f
  | .ok (c, r) => match as c with
    | none => .error (7, here l)
    | some (k, v) => if (dget known k).isSome = true then .error (5, here l) else match passOver [59] r with
      | .error f => .error f
      | .ok r2 => .ok (dput known k v, r2)
def readNamed (w : Ns) (most : Nat) (as : Ns → Option (Ns × Ns)) : Nat → Dict → List Tk → Except Flt (Dict × List Tk)
  | 0, known, l => .ok (known, l)
  | n + 1, known, l => if isAt w l = true then (if known.length = most then .error (4, here l) else match readOne as known l.tail with
      | .error f => .error f
      | .ok (k2, r) => readNamed w most as n k2 r) else .ok (known, l)
structure Held where
  left : Int
  right : Int
  words : Dict
  pats : Dict
def sMargins : Ns := [109, 97, 114, 103, 105, 110, 115]
def sWord : Ns := [119, 111, 114, 100]
def sPattern : Ns := [112, 97, 116, 116, 101, 114, 110]
def parse (l : List Tk) : Except Flt Held := match passOver sMargins l with
  | .error f => .error f
  | .ok l1 => match readMargin l1 with
    | .error f => .error f
    | .ok (a, l2) => match readMargin l2 with
      | .error f => .error f
      | .ok (b, l3) => match passOver [59] l3 with
        | .error f => .error f
        | .ok l4 => match readNamed sWord 24 wordOf l4.length [] l4 with
          | .error f => .error f
          | .ok (ws, l5) => match readNamed sPattern 40 patternOf l5.length [] l5 with
            | .error f => .error f
            | .ok (ps, l6) => if isAt [] l6 = true then .ok ⟨a, b, ws, ps⟩ else .error (3, here l6)
def listOf (t : Ns) : Except Flt Held := if 4096 < t.length then .error (1, 4096) else match tokensOf t with
  | .error f => .error f
  | .ok l => parse l
/-! ### parting -/
def raiseLevels (levels : Ns) (gap : Nat) (digits : Ns) : Ns := (List.range digits.length).foldl (fun l i => l.set (gap + i) (max (l.getD (gap + i) 0) (digits.getD i 0))) levels
def cut (row : Ns) (b e : Nat) : Ns := (row.drop b).take (e - b)
def firstGap (b : Nat) : Nat := b - 1
def levelsAt (row : Ns) (pats : Dict) (b : Nat) (levels : Ns) (k : Nat) : Ns := match dget pats (cut row b (b + 1 + k)) with
  | none => levels
  | some ds => raiseLevels levels (firstGap b) ds
def levelsFrom (row : Ns) (pats : Dict) (levels : Ns) (b : Nat) : Ns := (List.range (min (b + 8) row.length - b)).foldl (levelsAt row pats b) levels
def levelsOf (row : Ns) (pats : Dict) : Ns := (List.range row.length).foldl (levelsFrom row pats) (List.replicate (row.length - 1) 0)
def gapsLo (left : Int) : Int := max left 1
def gapsWithin (row : Ns) (left right : Int) : Ns := (List.range (((row.length : Int) - 2 - max right 1 + 1) - max left 1).toNat).map fun (i : Nat) => max left 1 + (i : Int)
def innerGaps (h : Held) (row : Ns) (pats : Dict) : List (Int × Bool) := (gapsWithin row h.left h.right).map fun g => (g, decide ((levelsOf row pats).getD g.toNat 0 % 2 = 1))
abbrev Gap := Int × Bool × Bool
abbrev Words := List (Ns × List Gap)
def partedWord (h : Held) (pats : Dict) (e : Ns × Ns) : Ns × List Gap := (e.1, (innerGaps h e.1 pats).map fun g => (g.1, decide (g.1 ∈ e.2), g.2))
def partedWords (h : Held) (pats : Dict) : Words := h.words.map (partedWord h pats)
def hitsOf (l : List Gap) : Nat := (l.filter fun g => g.2.2 && g.2.1).length
def faultsOf (l : List Gap) : Nat := (l.filter fun g => g.2.2 && !g.2.1).length
def missesOf (l : List Gap) : Nat := (l.filter fun g => g.2.1 && !g.2.2).length
def scoreStep (s : Ns) (w : Ns × List Gap) : Ns := [s.getD 0 0 + (if faultsOf w.2 + missesOf w.2 = 0 then 1 else 0), s.getD 1 0 + hitsOf w.2, s.getD 2 0 + faultsOf w.2, s.getD 3 0 + missesOf w.2]
def scoreOf (ws : Words) : Ns := ws.foldl scoreStep [0, 0, 0, 0]
/-! ### rounds -/
def goodLevel (v len : Int) : Bool := (decide (1 ≤ v) && decide (v ≤ 9)) && (decide (1 ≤ len) && decide (len ≤ 8))
def isRound (ns : Ns) : Bool := goodLevel (ns.getD 0 0) (ns.getD 1 0) && (ns.drop 2).all fun n => decide (0 ≤ n) && decide (n ≤ 1000)
abbrev Pc := Ns × Int
def lettersIn (piece : Ns) : Nat := piece.length - piece.count 46
def pieceAt (row : Ns) (gap : Int) (len : Nat) (b : Nat) : Option Pc := if len - (cut row b (b + len)).count 46 ≤ 6 then some (cut row b (b + len), gap - (firstGap b : Nat)) else none
def pieceLo (gap : Int) (len : Nat) : Nat := (gap - len + 1).toNat
def pieceHi (row : Ns) (gap : Int) (len : Nat) : Nat := (min (gap + 1) ((row.length : Int) - len) + 1).toNat
def piecesWith (row : Ns) (gap : Int) (len : Nat) : List Pc := (List.range (pieceHi row gap len - pieceLo gap len)).filterMap fun i => pieceAt row gap len (pieceLo gap len + i)
abbrev Tally := List (Pc × Int)
def addOne (t : Tally) (p : Pc) : Tally := dput t p ((dget t p).getD 0 + 1)
def tallyGap (odd : Bool) (row : Ns) (len : Nat) (s : Tally × Tally) (g : Gap) : Tally × Tally :=
  if g.2.2 = odd then s else if g.2.1 = odd then ((piecesWith row g.1 len).foldl addOne s.1, s.2) else (s.1, (piecesWith row g.1 len).foldl addOne s.2)
def tallyWord (odd : Bool) (len : Nat) (s : Tally × Tally) (w : Ns × List Gap) : Tally × Tally := w.2.foldl (tallyGap odd w.1 len) s
def tally (ws : Words) (v : Int) (len : Nat) : Tally × Tally := ws.foldl (tallyWord (decide (v % 2 = 1)) len) ([], [])
def singleDigits (piece : Ns) (gap : Nat) (v : Int) : Ns := (List.replicate (lettersIn piece + 1) 0).set gap v
structure Cand where
  piece : Ns
  digits : Ns
  helped : Int
  hurt : Int
def candOf (v : Int) (hurts : Tally) (e : Pc × Int) : Cand := ⟨e.1.1, singleDigits e.1.1 e.1.2.toNat v, e.2, (dget hurts e.1).getD 0⟩
def candidatesOf (ws : Words) (v : Int) (len : Nat) : List Cand := (tally ws v len).1.map (candOf v (tally ws v len).2)
def putPattern (pats : Dict) (piece digits : Ns) : Dict := dput pats piece ((((dget pats piece).getD digits).zip digits).map fun p => max p.1 p.2)
structure Rnd where
  v : Int
  len : Nat
  g : Int
  b : Int
  t : Int
def takeCand (r : Rnd) (s : Dict × Ns) (c : Cand) : Dict × Ns :=
  if r.t + r.b * c.hurt ≤ r.g * c.helped then (putPattern s.1 c.piece c.digits, [s.2.getD 0 0 + 1, s.2.getD 1 0, s.2.getD 2 0 + c.helped, s.2.getD 3 0 + c.hurt]) else s
def afterRound (h : Held) (pats : Dict) (r : Rnd) : Dict × Ns :=
  let cs := candidatesOf (partedWords h pats) r.v r.len
  cs.foldl (takeCand r) (pats, [0, (cs.length : Int), 0, 0])
/-! ### learning -/
def toRnd (ns : Ns) : Rnd := ⟨ns.getD 0 0, (ns.getD 1 0).toNat, ns.getD 2 0, ns.getD 3 0, ns.getD 4 0⟩
structure L where
  held : Option Held
  pats : Dict
  earlier : List Dict
def fresh : L := ⟨none, [], []⟩
def keep (s : L) (p : Dict) : L := { s with pats := p, earlier := (s.earlier ++ [s.pats]).drop ((s.earlier ++ [s.pats]).length - 20) }
def hold (s : L) (h : Held) : L := ⟨some h, h.pats, []⟩
def load (s : L) (t : Ns) : L × Ns := match listOf t with
  | .error f => (s, [0, f.1, f.2])
  | .ok h => (hold s h, [1, (h.words.length : Int), (h.pats.length : Int)])
def roundCall (s : L) (h : Held) (ns : Ns) : L × Ns :=
  if isRound ns = false then (s, [-4]) else
    let a := afterRound h s.pats (toRnd ns)
    if 200 < a.1.length then (s, [-7]) else (keep s a.1, a.2 ++ [(a.1.length : Int)])
def roundsIn (ns : Ns) : Option (List Ns) :=
  if ns.length ≠ ns.length / 5 * 5 ∨ 10 < ns.length / 5 then none else
    let told := (List.range (ns.length / 5)).map fun i => (ns.drop (5 * i)).take 5
    if told.all isRound = true then some told else none
def roundsGo (h : Held) : List Ns → Dict → Option Dict
  | [], p => some p
  | r :: rs, p => let q := (afterRound h p (toRnd r)).1
    if 200 < q.length then none else roundsGo h rs q
def score (s : L) (h : Held) : Ns := (s.pats.length : Int) :: scoreOf (partedWords h s.pats)
def roundsCall (s : L) (h : Held) (ns : Ns) : L × Ns := match roundsIn ns with
  | none => (s, [-4])
  | some told => match roundsGo h told s.pats with
    | none => (s, [-7])
    | some p =>
      let s2 := if told = [] then s else keep s p
      (s2, score s2 h)
def toldPattern (piece digits : Ns) : Ns := ((patternBytes piece digits).length : Int) :: patternBytes piece digits
def candidatesCall (s : L) (h : Held) (ns : Ns) : Ns :=
  if goodLevel (ns.getD 0 0) (ns.getD 1 0) = false then [-4] else
    let found := candidatesOf (partedWords h s.pats) (ns.getD 0 0) (ns.getD 1 0).toNat
    (found.length : Int) :: (found.take 20).flatMap fun c => toldPattern c.piece c.digits ++ [c.helped, c.hurt]
/-- the greatest of digits, none below 0 -/
def top (ds : Ns) : Int := ds.foldl max 0
def countCall (s : L) (h : Held) (c : Ns) : Ns := match patternOf c with
  | none => [-4]
  | some (piece, ds) => if ds.sum ≠ top ds then [-4] else
    let t := tally (partedWords h s.pats) (top ds) piece.length
    let f : Pc := (piece, ((ds.findIdx fun d => decide (d = top ds)) : Nat))
    [(dget t.1 f).getD 0, (dget t.2 f).getD 0]
def patternsCall (s : L) : Ns := (s.pats.length : Int) :: s.pats.flatMap fun e => toldPattern e.1 e.2
def partCall (s : L) (h : Held) (l : Ns) : Ns := match rowOf l with
  | none => [-4]
  | some row =>
    let gaps := (innerGaps h row s.pats).filterMap fun g => if g.2 = true then some g.1 else none
    (gaps.length : Int) :: gaps
def undoCall (s : L) : L × Ns := match s.earlier.getLast? with
  | none => (s, [-8])
  | some p => ({ s with pats := p, earlier := s.earlier.dropLast }, [(p.length : Int)])
def forgetCall (s : L) (h : Held) : L × Ns := (hold s h, [(h.pats.length : Int)])
/-- one call: its number, its numbers -/
def answerOf (s : L) (p : Int) (ns : Ns) : L × Ns :=
  if p = 0 then load s ns else match s.held with
  | none => (s, [-1])
  | some h =>
    if p = 1 then roundCall s h ns else if p = 2 then roundsCall s h ns else if p = 3 then (s, candidatesCall s h ns) else if p = 4 then (s, countCall s h ns)
    else if p = 5 then (s, patternsCall s) else if p = 6 then (s, score s h) else if p = 7 then (s, partCall s h ns) else if p = 8 then undoCall s else forgetCall s h
/-- how many numbers the call at the head has ahead of its own, and how many own ones -/
def spanOf (l : Ns) : Nat × Nat :=
  let p := l.headD 0
  if p = 0 ∨ p = 2 ∨ p = 4 ∨ p = 7 then (2, (l.getD 1 0).toNat) else (1, if p = 1 then 5 else if p = 3 then 2 else 0)
def answersGo : Nat → L → Ns → Ns
  | 0, _, _ => []
  | _ + 1, _, [] => []
  | n + 1, s, p :: r =>
    let b := (spanOf (p :: r)).1
    let e := (spanOf (p :: r)).2
    let a := answerOf s p (((p :: r).drop b).take e)
    ((a.2.length : Int) :: a.2) ++ answersGo n a.1 ((p :: r).drop (b + e))
def answers (l : Ns) : Ns := answersGo l.length fresh l
end PM
set_option Elab.async false
set_option linter.all false
/-! # Rows, pieces, patterns: what always holds of them -/
namespace PM
def RowOk (row : Ns) : Prop := ∃ ls : Ns, row = 46 :: (ls ++ [46]) ∧ 2 ≤ ls.length ∧ ls.length ≤ 16 ∧ ls.all isLetter = true
def PieceOk (p : Ns) : Prop := p.length ≤ 1000 ∧ (p.count 46 ≤ 1 ∨ (p.count 46 ≤ 2 ∧ p.headD 0 = 46))
def PatOk (e : Ns × Ns) : Prop := e.2.length = lettersIn e.1 + 1 ∧ PieceOk e.1
def PatsOk (d : Dict) : Prop := (∀ e ∈ d, PatOk e) ∧ (d.map (·.1)).Nodup
def HeldOk (h : Held) : Prop := (-1000 ≤ h.left ∧ h.left ≤ 1000) ∧ (-1000 ≤ h.right ∧ h.right ≤ 1000) ∧ h.words.length ≤ 100 ∧ (∀ e ∈ h.words, RowOk e.1) ∧ PatsOk h.pats ∧ h.pats.length ≤ 1000
theorem RowOk.len {row : Ns} (h : RowOk row) : 4 ≤ row.length ∧ row.length ≤ 18 := by
  obtain ⟨ls, rfl, h1, h2, _⟩ := h
  rw [List.length_cons, List.length_append]
  show 4 ≤ ls.length + 1 + 1 ∧ ls.length + 1 + 1 ≤ 18
  omega
theorem letter_ne {x : Int} (h : isLetter x = true) : x ≠ 46 := by
  intro e
  subst e
  exact absurd h (by decide)
theorem count_letters {l : Ns} (h : ∀ x ∈ l, isLetter x = true) : l.count 46 = 0 := List.count_eq_zero.mpr fun z => letter_ne (h _ z) rfl
theorem cut_len (row : Ns) (b e : Nat) : (cut row b e).length = min (e - b) (row.length - b) := by
  unfold cut
  rw [List.length_take, List.length_drop]
theorem cut_count {row ls : Ns} (hr : row = 46 :: (ls ++ [46])) (hl : ls.all isLetter = true) {b e : Nat} (h1 : b < e) (h2 : e ≤ ls.length + 2) :
    (cut row b e).count 46 = (if b = 0 then 1 else 0) + (if e = ls.length + 2 then 1 else 0) := by
  have hl' : ∀ x ∈ ls, isLetter x = true := fun x hx => List.all_eq_true.mp hl x hx
  -- the cut of letters and one point
  have tail : ∀ j k, 0 < k → j + k ≤ ls.length + 1 → (((ls ++ [46]).drop j).take k).count 46 = if j + k = ls.length + 1 then 1 else 0 := fun j k hk hjk => by
    rw [List.drop_append, List.take_append, List.count_append, List.length_drop]
    rw [count_letters (l := (ls.drop j).take k) fun x hx => hl' x (List.mem_of_mem_drop (List.mem_of_mem_take hx))]
    rw [Nat.zero_add]
    by_cases hj : j ≤ ls.length
    · rw [show j - ls.length = 0 from by omega, List.drop_zero]
      by_cases hc : j + k = ls.length + 1
      · rw [if_pos hc, show k - (ls.length - j) = 1 from by omega]
        rfl
      · rw [if_neg hc, show k - (ls.length - j) = 0 from by omega]
        rfl
    · omega
  unfold cut
  subst hr
  cases b with
  | zero =>
    obtain ⟨e, rfl⟩ : ∃ e', e = e' + 1 := ⟨e - 1, by omega⟩
    rw [List.drop_zero, Nat.sub_zero, List.take_succ_cons, List.count_cons_self, if_pos rfl]
    by_cases he : e = 0
    · subst he
      rw [if_neg (by omega)]
      rfl
    · have t := tail 0 e (by omega) (by omega)
      rw [List.drop_zero] at t
      rw [t]
      by_cases hc : e + 1 = ls.length + 2
      · rw [if_pos (by omega), if_pos hc]
      · rw [if_neg (by omega), if_neg hc]
  | succ b =>
    rw [List.drop_succ_cons, if_neg (Nat.succ_ne_zero b), Nat.zero_add]
    rw [tail b (e - (b + 1)) (by omega) (by omega)]
    by_cases hc : e = ls.length + 2
    · rw [if_pos (by omega), if_pos hc]
    · rw [if_neg (by omega), if_neg hc]
theorem cut_head {row ls : Ns} (hr : row = 46 :: (ls ++ [46])) {e : Nat} (he : 0 < e) : (cut row 0 e).headD 0 = 46 := by
  subst hr
  unfold cut
  obtain ⟨e, rfl⟩ : ∃ e', e = e' + 1 := ⟨e - 1, by omega⟩
  rw [List.drop_zero, Nat.sub_zero, List.take_succ_cons]
  rfl
theorem cut_ok {row : Ns} (h : RowOk row) {b e : Nat} (h1 : b < e) (h2 : e ≤ row.length) : PieceOk (cut row b e) := by
  have hlen := h.len
  obtain ⟨ls, hr, h3, h4, hl⟩ := h
  have hrl : row.length = ls.length + 2 := by rw [hr, List.length_cons, List.length_append]; rfl
  have hc := cut_count hr hl h1 (by omega)
  refine ⟨by rw [cut_len]; omega, ?_⟩
  by_cases hb : b = 0
  · subst hb
    right
    rw [if_pos rfl] at hc
    refine ⟨by rw [hc]; split <;> omega, cut_head hr h1⟩
  · left
    rw [hc, if_neg hb]
    split <;> omega
theorem level_ok {row : Ns} (h : RowOk row) {pats : Dict} (hp : ∀ e ∈ pats, e.2.length = lettersIn e.1 + 1) {b e : Nat} {ds : Ns} (h1 : b < e) (h2 : e ≤ row.length) (hg : dget pats (cut row b e) = some ds) : firstGap b + ds.length ≤ row.length - 1 := by
  obtain ⟨ls, hr, h3, h4, hl⟩ := h
  have hrl : row.length = ls.length + 2 := by rw [hr, List.length_cons, List.length_append]; rfl
  have hc := cut_count hr hl h1 (by omega)
  have hlen := cut_len row b e
  unfold dget at hg
  cases hf : pats.find? fun x => decide (x.1 = cut row b e) with
  | none => rw [hf] at hg; cases hg
  | some x =>
    rw [hf] at hg
    have e1 : x.2 = ds := Option.some.inj hg
    have e2 : x.1 = cut row b e := by
      have z := List.find?_some hf
      simpa using z
    have e3 := hp x (List.mem_of_find?_eq_some hf)
    rw [e1, e2] at e3
    unfold lettersIn at e3
    unfold firstGap
    rw [hc, hlen] at e3
    by_cases hb : b = 0
    · rw [if_pos hb] at e3
      by_cases he : e = ls.length + 2
      · rw [if_pos he] at e3; omega
      · rw [if_neg he] at e3; omega
    · rw [if_neg hb] at e3
      by_cases he : e = ls.length + 2
      · rw [if_pos he] at e3; omega
      · rw [if_neg he] at e3; omega
/-- the gaps within a row -/
theorem gap_in {row : Ns} {a b g : Int} (hg : g ∈ gapsWithin row a b) : 1 ≤ g ∧ g + 3 ≤ (row.length : Int) := by
  unfold gapsWithin at hg
  obtain ⟨i, hi, e⟩ := List.mem_map.mp hg
  rw [List.mem_range] at hi
  omega
theorem gaps_count (row : Ns) (a b : Int) : (gapsWithin row a b).length ≤ row.length := by
  unfold gapsWithin
  rw [List.length_map, List.length_range]
  omega
/-- a piece that a gap's tally counts -/
def KeyOk (k : Pc) : Prop := 0 ≤ k.2 ∧ k.2.toNat ≤ lettersIn k.1 ∧ k.1.length ≤ 1000 ∧ PieceOk k.1
theorem piece_ok {row : Ns} (h : RowOk row) {g : Int} (h1 : 1 ≤ g) (h2 : g + 3 ≤ (row.length : Int)) {len : Nat} (hl : 1 ≤ len) {k : Pc} (hk : k ∈ piecesWith row g len) : KeyOk k := by
  have hro := h
  have hrl2 := h.len
  obtain ⟨ls, hr, h3, h4, hll⟩ := h
  have hrl : row.length = ls.length + 2 := by rw [hr, List.length_cons, List.length_append]; rfl
  unfold piecesWith at hk
  obtain ⟨i, hi, hp⟩ := List.mem_filterMap.mp hk
  rw [List.mem_range] at hi
  unfold pieceHi pieceLo at hi
  unfold pieceAt at hp
  split at hp
  · have hp := Option.some.inj hp
    have hb1 : pieceLo g len + i < pieceLo g len + i + len := by omega
    have hb2 : pieceLo g len + i + len ≤ row.length := by unfold pieceLo; omega
    have hc := cut_count hr hll hb1 (by omega)
    have hlen := cut_len row (pieceLo g len + i) (pieceLo g len + i + len)
    rw [← hp]
    unfold KeyOk
    dsimp only
    have ho := cut_ok hro hb1 hb2
    generalize hbb : pieceLo g len + i = b at *
    have hlo : (g - (len : Int) + 1) ≤ (b : Int) := by unfold pieceLo at hbb; omega
    have hhi : (b : Int) ≤ g + 1 := by unfold pieceLo at hbb; omega
    unfold lettersIn firstGap
    rw [hc, hlen]
    refine ⟨by omega, ?_, by omega, ho⟩
    by_cases hb : b = 0
    · rw [if_pos hb]
      by_cases he : b + len = ls.length + 2
      · rw [if_pos he]; omega
      · rw [if_neg he]; omega
    · rw [if_neg hb]
      by_cases he : b + len = ls.length + 2
      · rw [if_pos he]; omega
      · rw [if_neg he]; omega
  · cases hp
/-! ### tallies -/
theorem dput_mem {A B : Type} [DecidableEq A] {d : List (A × B)} {k : A} {v : B} {e : A × B} (h : e ∈ dput d k v) : (∃ e' ∈ d, e'.1 = e.1) ∨ e.1 = k := by
  unfold dput at h
  split at h
  · obtain ⟨e', he, hx⟩ := List.mem_map.mp h
    left
    refine ⟨e', he, ?_⟩
    split at hx
    · rw [← hx]
    · rw [← hx]
  · rcases List.mem_append.mp h with h | h
    · exact .inl ⟨e, h, rfl⟩
    · right
      rw [List.mem_singleton.mp h]
def TallyOk (t : Tally) : Prop := ∀ e ∈ t, KeyOk e.1
theorem addOne_ok {t : Tally} (h : TallyOk t) {k : Pc} (hk : KeyOk k) : TallyOk (addOne t k) := fun e he => by
  unfold addOne at he
  rcases dput_mem he with ⟨e', h1, h2⟩ | h2
  · rw [← h2]
    exact h e' h1
  · rw [h2]
    exact hk
theorem adds_ok {ps : List Pc} : ∀ {t : Tally}, TallyOk t → (∀ k ∈ ps, KeyOk k) → TallyOk (ps.foldl addOne t) := by
  induction ps with
  | nil => exact fun h _ => h
  | cons p r ih => exact fun h hk => ih (addOne_ok h (hk p List.mem_cons_self)) fun k hk' => hk k (List.mem_cons_of_mem _ hk')
theorem gap_ok {odd : Bool} {row : Ns} (h : RowOk row) {len : Nat} (hl : 1 ≤ len) {s : Tally × Tally} (hs : TallyOk s.1 ∧ TallyOk s.2) {g : Gap} (h1 : 1 ≤ g.1) (h2 : g.1 + 3 ≤ (row.length : Int)) : TallyOk (tallyGap odd row len s g).1 ∧ TallyOk (tallyGap odd row len s g).2 := by
  unfold tallyGap
  split
  · exact hs
  · split
    · exact ⟨adds_ok hs.1 fun k hk => piece_ok h h1 h2 hl hk, hs.2⟩
    · exact ⟨hs.1, adds_ok hs.2 fun k hk => piece_ok h h1 h2 hl hk⟩
theorem word_ok {odd : Bool} {row : Ns} (h : RowOk row) {len : Nat} (hl : 1 ≤ len) {gs : List Gap} : ∀ {s : Tally × Tally}, TallyOk s.1 ∧ TallyOk s.2 → (∀ g ∈ gs, 1 ≤ g.1 ∧ g.1 + 3 ≤ (row.length : Int)) →
    TallyOk (gs.foldl (tallyGap odd row len) s).1 ∧ TallyOk (gs.foldl (tallyGap odd row len) s).2 := by
  induction gs with
  | nil => exact fun hs _ => hs
  | cons g r ih => exact fun hs hg => ih (gap_ok h hl hs (hg g List.mem_cons_self).1 (hg g List.mem_cons_self).2) fun g' h' => hg g' (List.mem_cons_of_mem _ h')
/-- the words of a tally -/
def WdsOk (ws : Words) : Prop := ∀ w ∈ ws, RowOk w.1 ∧ ∀ g ∈ w.2, 1 ≤ g.1 ∧ g.1 + 3 ≤ (w.1.length : Int)
theorem tally_ok {ws : Words} (h : WdsOk ws) (v : Int) {len : Nat} (hl : 1 ≤ len) : TallyOk (tally ws v len).1 ∧ TallyOk (tally ws v len).2 := by
  unfold tally
  have key : ∀ (l : Words) (s : Tally × Tally), WdsOk l → TallyOk s.1 ∧ TallyOk s.2 → TallyOk (l.foldl (tallyWord (decide (v % 2 = 1)) len) s).1 ∧ TallyOk (l.foldl (tallyWord (decide (v % 2 = 1)) len) s).2 := fun l => by
    induction l with
    | nil => exact fun s _ hs => hs
    | cons w r ih =>
      intro s hw hs
      rw [List.foldl_cons]
      refine ih _ (fun x hx => hw x (List.mem_cons_of_mem _ hx)) ?_
      have hw1 := hw w List.mem_cons_self
      exact word_ok hw1.1 hl hs hw1.2
  exact key ws ([], []) h ⟨fun _ z => (nomatch z), fun _ z => (nomatch z)⟩
theorem parted_ok {h : Held} (ho : HeldOk h) (pats : Dict) : WdsOk (partedWords h pats) := fun w hw => by
  unfold partedWords at hw
  obtain ⟨e, he, rfl⟩ := List.mem_map.mp hw
  refine ⟨ho.2.2.2.1 e he, fun g hg => ?_⟩
  unfold partedWord at hg
  obtain ⟨x, hx, rfl⟩ := List.mem_map.mp hg
  unfold innerGaps at hx
  obtain ⟨y, hy, rfl⟩ := List.mem_map.mp hx
  exact gap_in hy
/-! ### patterns -/
theorem dput_nodup {A B : Type} [DecidableEq A] {d : List (A × B)} (hn : (d.map (·.1)).Nodup) (k : A) (v : B) : ((dput d k v).map (·.1)).Nodup := by
  unfold dput
  split
  · rw [List.map_map]
    have e : d.map ((·.1) ∘ fun e => if e.1 = k then (e.1, v) else e) = d.map (·.1) := List.map_congr_left fun e _ => by
      show (if e.1 = k then (e.1, v) else e).1 = e.1
      split <;> rfl
    rw [e]
    exact hn
  · rename_i h
    rw [List.map_append]
    refine List.nodup_append.mpr ⟨hn, by simp, fun x hx y hy => ?_⟩
    have hy : y = k := by simpa using hy
    rw [hy]
    intro e
    obtain ⟨q, hq, e2⟩ := List.mem_map.mp hx
    exact h (List.any_eq_true.mpr ⟨q, hq, decide_eq_true (e2.trans e)⟩)
theorem dput_new {A B : Type} [DecidableEq A] {d : List (A × B)} {k : A} {v : B} (h : ∀ e ∈ d, e.1 ≠ k) : dput d k v = d ++ [(k, v)] := by
  unfold dput
  rw [if_neg]
  intro z
  obtain ⟨e, he, h2⟩ := List.any_eq_true.mp z
  exact h e he (of_decide_eq_true h2)
theorem dget_mem {A B : Type} [DecidableEq A] {d : List (A × B)} {k : A} {v : B} (h : dget d k = some v) : (k, v) ∈ d := by
  unfold dget at h
  cases hf : d.find? fun x => decide (x.1 = k) with
  | none => rw [hf] at h; cases h
  | some x =>
    rw [hf] at h
    have e1 : x.2 = v := Option.some.inj h
    have e2 : x.1 = k := by
      have z := List.find?_some hf
      simpa using z
    have := List.mem_of_find?_eq_some hf
    rw [← e1, ← e2]
    exact this
theorem dput_all {d : Dict} {k v : Ns} (h : ∀ e ∈ d, PatOk e) (hv : PatOk (k, v)) : ∀ e ∈ dput d k v, PatOk e := fun e he => by
  unfold dput at he
  split at he
  · obtain ⟨e', h1, hx⟩ := List.mem_map.mp he
    by_cases hk : e'.1 = k
    · rw [if_pos hk] at hx
      rw [← hx, hk]
      exact hv
    · rw [if_neg hk] at hx
      rw [← hx]
      exact h e' h1
  · rcases List.mem_append.mp he with he | he
    · exact h e he
    · rw [List.mem_singleton.mp he]
      exact hv
theorem put_ok {d : Dict} (h : PatsOk d) {piece digits : Ns} (hp : PatOk (piece, digits)) : PatsOk (putPattern d piece digits) := by
  refine ⟨?_, dput_nodup h.2 _ _⟩
  unfold putPattern
  refine dput_all h.1 ⟨?_, hp.2⟩
  show ((((dget d piece).getD digits).zip digits).map fun p => max p.1 p.2).length = _
  rw [List.length_map, List.length_zip]
  have h1 : digits.length = lettersIn piece + 1 := hp.1
  cases hg : dget d piece with
  | none =>
    show min digits.length digits.length = _
    rw [Nat.min_self]
    exact h1
  | some ds =>
    have h2 : ds.length = lettersIn piece + 1 := (h.1 _ (dget_mem hg)).1
    show min ds.length digits.length = _
    rw [h1, h2, Nat.min_self]
theorem put_same_len {d : Dict} (h : PatsOk d) {piece digits : Ns} (hp : PatOk (piece, digits)) : ∀ ds, dget d piece = some ds → ds.length = digits.length := fun ds hg => by
  have h2 : ds.length = lettersIn piece + 1 := (h.1 _ (dget_mem hg)).1
  have h1 : digits.length = lettersIn piece + 1 := hp.1
  rw [h1, h2]
theorem cands_ok {ws : Words} (h : WdsOk ws) (v : Int) {len : Nat} (hl : 1 ≤ len) : ∀ c ∈ candidatesOf ws v len, PatOk (c.piece, c.digits) := fun c hc => by
  unfold candidatesOf at hc
  obtain ⟨e, he, rfl⟩ := List.mem_map.mp hc
  obtain ⟨_, _, _, h4⟩ := (tally_ok h v hl).1 e he
  refine ⟨?_, h4⟩
  show (singleDigits e.1.1 e.1.2.toNat v).length = _
  unfold singleDigits
  rw [List.length_set, List.length_replicate]
  rfl
theorem put_len (d : Dict) (piece digits : Ns) : (putPattern d piece digits).length ≤ d.length + 1 := by
  unfold putPattern dput
  split
  · rw [List.length_map]; omega
  · rw [List.length_append]; exact Nat.le_refl _
theorem takes_ok {r : Rnd} {cs : List Cand} : ∀ {s : Dict × Ns}, PatsOk s.1 → (∀ c ∈ cs, PatOk (c.piece, c.digits)) → PatsOk (cs.foldl (takeCand r) s).1 := by
  induction cs with
  | nil => exact fun h _ => h
  | cons c l ih =>
    intro s h hc
    rw [List.foldl_cons]
    refine ih ?_ fun c' h' => hc c' (List.mem_cons_of_mem _ h')
    unfold takeCand
    split
    · exact put_ok h (hc c List.mem_cons_self)
    · exact h
theorem after_ok {h : Held} (ho : HeldOk h) {pats : Dict} (hp : PatsOk pats) {r : Rnd} (hl : 1 ≤ r.len) : PatsOk (afterRound h pats r).1 := by
  unfold afterRound
  exact takes_ok hp (cands_ok (parted_ok ho pats) r.v hl)
end PM
set_option Elab.async false
set_option linter.all false
/-! # What is read always keeps to it -/
namespace PM
theorem row_ok {l row : Ns} (h : rowOf l = some row) : RowOk row ∧ row = 46 :: (l ++ [46]) := by
  unfold rowOf at h
  split at h
  · rename_i hc
    have h := Option.some.inj h
    exact ⟨⟨l, h.symm, hc.1, hc.2.1, hc.2.2⟩, h.symm⟩
  · cases h
theorem word_row {c row ms : Ns} (h : wordOf c = some (row, ms)) : RowOk row := by
  unfold wordOf at h
  cases hg : wordGo c [] [] false with
  | none => rw [hg] at h; cases h
  | some x =>
    obtain ⟨ls, m, b⟩ := x
    rw [hg] at h
    dsimp only at h
    cases hr : rowOf ls with
    | none => rw [hr] at h; cases h
    | some r =>
      rw [hr] at h
      dsimp only at h
      split at h
      · have h := Option.some.inj h
        injection h with h1 h2
        rw [← h1]
        exact (row_ok hr).1
      · cases h
theorem isd (x : Int) : isDigit x = true ↔ 48 ≤ x ∧ x ≤ 57 := by
  unfold isDigit
  rw [Bool.and_eq_true, decide_eq_true_eq, decide_eq_true_eq]
theorem isl (x : Int) : isLetter x = true ↔ 97 ≤ x ∧ x ≤ 122 := by
  unfold isLetter
  rw [Bool.and_eq_true, decide_eq_true_eq, decide_eq_true_eq]
theorem digit_no_letter {x : Int} (h : isLetter x = true) : isDigit x = false := by
  have h1 := (isl x).mp h
  cases e : isDigit x with
  | false => rfl
  | true => have := (isd x).mp e; omega
/-- what patGo tells -/
theorem patGo_ok : ∀ (w ls ds : Ns) (d : Int) {ls' ds' : Ns}, patGo w ls ds d = some (ls', ds') → (∀ y ∈ ds ++ [d], 0 ≤ y ∧ y ≤ 9) →
    ls' = ls ++ w.filter (fun b => !isDigit b) ∧ ds'.length = ds.length + 1 + (w.filter (fun b => !isDigit b)).length ∧ (∀ x ∈ w, isLetter x = true ∨ isDigit x = true) ∧ ∀ y ∈ ds', 0 ≤ y ∧ y ≤ 9
  | [], ls, ds, d, ls', ds', h, hd => by
    have h := Option.some.inj h
    injection h with h1 h2
    subst h1 h2
    exact ⟨by simp, by simp, fun _ z => (nomatch z), hd⟩
  | x :: r, ls, ds, d, ls', ds', h, hd => by
    unfold patGo at h
    by_cases hx : isLetter x = true
    · rw [if_pos hx] at h
      obtain ⟨e1, e2, e3, e4⟩ := patGo_ok r _ _ _ h fun y hy => by
        rcases List.mem_append.mp hy with hy | hy
        · exact hd y hy
        · rw [List.mem_singleton.mp hy]; omega
      have hf : (x :: r).filter (fun b => !isDigit b) = x :: r.filter (fun b => !isDigit b) := List.filter_cons_of_pos (by rw [digit_no_letter hx]; rfl)
      rw [hf]
      refine ⟨by rw [e1, List.append_assoc]; rfl, ?_, fun y hy => ?_, e4⟩
      · rw [e2]
        simp only [List.length_append, List.length_cons, List.length_nil]
        omega
      · rcases List.mem_cons.mp hy with z | z
        · rw [z]; exact .inl hx
        · exact e3 y z
    · rw [if_neg hx] at h
      by_cases hc : isDigit x = true ∧ x ≠ 48 ∧ d = 0
      · rw [if_pos hc] at h
        have hx9 := (isd x).mp hc.1
        obtain ⟨e1, e2, e3, e4⟩ := patGo_ok r _ _ _ h fun y hy => by
          rcases List.mem_append.mp hy with hy | hy
          · exact hd y (List.mem_append_left _ hy)
          · rw [List.mem_singleton.mp hy]; omega
        have hf : (x :: r).filter (fun b => !isDigit b) = r.filter (fun b => !isDigit b) := List.filter_cons_of_neg (by rw [hc.1]; decide)
        rw [hf]
        refine ⟨e1, e2, fun y hy => ?_, e4⟩
        rcases List.mem_cons.mp hy with z | z
        · rw [z]; exact .inr hc.1
        · exact e3 y z
      · rw [if_neg hc] at h
        cases h
theorem front_split (c : Ns) : ∃ pre, (pre = [] ∨ pre = [46]) ∧ c = pre ++ cutFront c := by
  unfold cutFront
  split
  · rename_i h
    refine ⟨[46], .inr rfl, ?_⟩
    rw [← h, List.take_append_drop]
  · exact ⟨[], .inl rfl, rfl⟩
theorem end_split (c : Ns) : ∃ post, (post = [] ∨ post = [46]) ∧ c = cutEnd c ++ post := by
  unfold cutEnd
  split
  · rename_i h
    refine ⟨[46], .inr rfl, ?_⟩
    rw [List.dropLast_eq_take, ← h, List.take_append_drop]
  · exact ⟨[], .inl rfl, by rw [List.append_nil]⟩
theorem points_split (c : Ns) : ∃ pre post, (pre = [] ∨ pre = [46]) ∧ (post = [] ∨ post = [46]) ∧ c = pre ++ (withoutPoints c ++ post) := by
  obtain ⟨pre, h1, e1⟩ := front_split c
  obtain ⟨post, h2, e2⟩ := end_split (cutFront c)
  refine ⟨pre, post, h1, h2, ?_⟩
  unfold withoutPoints
  rw [← e2, ← e1]
/-- a pattern read: its piece, in three parts -/
theorem pattern_parts {c p ds : Ns} (h : patternOf c = some (p, ds)) : ∃ pre ls post : Ns, (pre = [] ∨ pre = [46]) ∧ (post = [] ∨ post = [46]) ∧ p = pre ++ (ls ++ post) ∧ (∀ x ∈ ls, isLetter x = true) ∧ 1 ≤ ls.length ∧ ls.length ≤ 6 ∧ ds.length = ls.length + 1 ∧ ∀ y ∈ ds, 0 ≤ y ∧ y ≤ 9 := by
  unfold patternOf at h
  cases hg : patGo (withoutPoints c) [] [] 0 with
  | none => rw [hg] at h; cases h
  | some x =>
    obtain ⟨ls', ds'⟩ := x
    rw [hg] at h
    dsimp only at h
    split at h
    · cases h
    · rename_i hc
      have h := Option.some.inj h
      injection h with h1 h2
      obtain ⟨e1, e2, e3, e4⟩ := patGo_ok _ _ _ _ hg (fun y hy => by rw [List.mem_singleton.mp hy]; omega)
      rw [List.nil_append] at e1
      have hn : 1 ≤ ls'.length ∧ ls'.length ≤ 6 := Classical.not_not.mp fun z => hc (.inl z)
      obtain ⟨pre, post, p1, p2, ec⟩ := points_split c
      have fp : ∀ l : Ns, (l = [] ∨ l = [46]) → l.filter (fun b => !isDigit b) = l := fun l hl => by
        rcases hl with z | z
        · rw [z]; rfl
        · rw [z]; rfl
      refine ⟨pre, ls', post, p1, p2, ?_, fun x hx => ?_, hn.1, hn.2, ?_, ?_⟩
      · rw [← h1]
        have : c.filter (fun b => !isDigit b) = (pre ++ (withoutPoints c ++ post)).filter (fun b => !isDigit b) := by rw [← ec]
        rw [this, List.filter_append, List.filter_append, fp pre p1, fp post p2, e1]
      · rw [e1] at hx
        have hm := List.mem_filter.mp hx
        rcases e3 x hm.1 with z | z
        · exact z
        · rw [z] at hm
          exact absurd hm.2 (by decide)
      · rw [← h2, e2, e1]
        show 0 + 1 + _ = _
        omega
      · rw [← h2]
        exact e4
theorem pattern_ok {c p ds : Ns} (h : patternOf c = some (p, ds)) : PatOk (p, ds) ∧ 1 ≤ p.length ∧ p.length ≤ 8 ∧ ∀ y ∈ ds, 0 ≤ y ∧ y ≤ 9 := by
  obtain ⟨pre, ls, post, p1, p2, e, hl, n1, n2, n3, n4⟩ := pattern_parts h
  have hc := count_letters hl
  subst e
  have l1 : (pre = [] ∧ pre.length = 0 ∧ pre.count 46 = 0) ∨ (pre = [46] ∧ pre.length = 1 ∧ pre.count 46 = 1) := by
    rcases p1 with z | z
    · left; rw [z]; exact ⟨rfl, rfl, rfl⟩
    · right; rw [z]; exact ⟨rfl, rfl, rfl⟩
  have l2 : (post.length = 0 ∧ post.count 46 = 0) ∨ (post.length = 1 ∧ post.count 46 = 1) := by
    rcases p2 with z | z
    · left; rw [z]; exact ⟨rfl, rfl⟩
    · right; rw [z]; exact ⟨rfl, rfl⟩
  have el : (pre ++ (ls ++ post)).length = pre.length + (ls.length + post.length) := by rw [List.length_append, List.length_append]
  have ec : (pre ++ (ls ++ post)).count 46 = pre.count 46 + (0 + post.count 46) := by rw [List.count_append, List.count_append, hc]
  refine ⟨⟨?_, ?_, ?_⟩, by omega, by omega, n4⟩
  · show ds.length = lettersIn (pre ++ (ls ++ post)) + 1
    unfold lettersIn
    rw [el, ec]
    omega
  · show (pre ++ (ls ++ post)).length ≤ 1000
    omega
  · show (pre ++ (ls ++ post)).count 46 ≤ 1 ∨ ((pre ++ (ls ++ post)).count 46 ≤ 2 ∧ (pre ++ (ls ++ post)).headD 0 = 46)
    rw [ec]
    rcases l1 with ⟨z1, z2, z3⟩ | ⟨z1, z2, z3⟩
    · left; omega
    · right
      refine ⟨by omega, ?_⟩
      rw [z1]
      rfl
/-! ### lists -/
theorem named_ok {w : Ns} {most : Nat} {as : Ns → Option (Ns × Ns)} {R : Ns × Ns → Prop} (hR : ∀ c e, as c = some e → R e) : ∀ (n : Nat) (known : Dict) (l : List Tk) {d : Dict} {r : List Tk}, readNamed w most as n known l = .ok (d, r) →
    (∀ e ∈ known, R e) → (known.map (·.1)).Nodup → known.length ≤ most → (∀ e ∈ d, R e) ∧ (d.map (·.1)).Nodup ∧ d.length ≤ most
  | 0, known, l, d, r, h, h1, h2, h3 => by
    unfold readNamed at h
    injection h with h
    injection h with e1 e2
    rw [← e1]
    exact ⟨h1, h2, h3⟩
  | n + 1, known, l, d, r, h, h1, h2, h3 => by
    unfold readNamed at h
    split at h
    · split at h
      · cases h
      · rename_i hne
        cases ho : readOne as known l.tail with
        | error f => rw [ho] at h; cases h
        | ok x =>
          obtain ⟨k2, r2⟩ := x
          rw [ho] at h
          dsimp only at h
          -- one entry more
          have hone : ∃ k v c, as c = some (k, v) ∧ k2 = dput known k v ∧ (dget known k).isSome = false := by
            unfold readOne at ho
            cases ht : takeChunk l.tail with
            | error f => rw [ht] at ho; cases ho
            | ok y =>
              obtain ⟨c, r3⟩ := y
              rw [ht] at ho
              dsimp only at ho
              cases ha : as c with
              | none => rw [ha] at ho; cases ho
              | some kv =>
                obtain ⟨k, v⟩ := kv
                rw [ha] at ho
                dsimp only at ho
                split at ho
                · cases ho
                · rename_i hd
                  cases hp : passOver [59] r3 with
                  | error f => rw [hp] at ho; cases ho
                  | ok r4 =>
                    rw [hp] at ho
                    dsimp only at ho
                    injection ho with ho
                    injection ho with e1 e2
                    exact ⟨k, v, c, ha, e1.symm, by simpa using hd⟩
          obtain ⟨k, v, c, ha, rfl, hd⟩ := hone
          have hnew : ∀ e ∈ known, e.1 ≠ k := fun e he z => by
            unfold dget at hd
            rw [Option.isSome_map] at hd
            have hs : (known.find? fun x => decide (x.1 = k)).isSome = true := List.find?_isSome.mpr ⟨e, he, by simpa using z⟩
            rw [hd] at hs
            cases hs
          rw [dput_new hnew] at h
          refine named_ok hR n _ _ h (fun e he => ?_) ?_ ?_
          · rcases List.mem_append.mp he with he | he
            · exact h1 e he
            · rw [List.mem_singleton.mp he]
              exact hR c _ ha
          · have := dput_nodup h2 k v
            rw [dput_new hnew] at this
            exact this
          · rw [List.length_append]
            show known.length + 1 ≤ most
            omega
    · injection h with h
      injection h with e1 e2
      rw [← e1]
      exact ⟨h1, h2, h3⟩
theorem margin_in {c : Ns} {m : Int} (h : marginOf c = some m) : 0 ≤ m ∧ m ≤ 5 := by
  unfold marginOf at h
  split at h
  · split at h
    · have h := Option.some.inj h
      omega
    · cases h
  · cases h
theorem readMargin_in {l r : List Tk} {m : Int} (h : readMargin l = .ok (m, r)) : 0 ≤ m ∧ m ≤ 5 := by
  unfold readMargin at h
  cases ht : takeChunk l with
  | error f => rw [ht] at h; cases h
  | ok y =>
    obtain ⟨c, r3⟩ := y
    rw [ht] at h
    dsimp only at h
    cases hm : marginOf c with
    | none => rw [hm] at h; cases h
    | some k =>
      rw [hm] at h
      dsimp only at h
      injection h with h
      injection h with e1 e2
      rw [← e1]
      exact margin_in hm
theorem parse_ok {l : List Tk} {h : Held} (hp : parse l = .ok h) : HeldOk h ∧ h.pats.length ≤ 40 ∧ h.words.length ≤ 24 ∧ (0 ≤ h.left ∧ h.left ≤ 5) ∧ (0 ≤ h.right ∧ h.right ≤ 5) := by
  unfold parse at hp
  cases h1 : passOver sMargins l with
  | error f => rw [h1] at hp; cases hp
  | ok l1 =>
  rw [h1] at hp; dsimp only at hp
  cases h2 : readMargin l1 with
  | error f => rw [h2] at hp; cases hp
  | ok x2 =>
  obtain ⟨a, l2⟩ := x2
  rw [h2] at hp; dsimp only at hp
  cases h3 : readMargin l2 with
  | error f => rw [h3] at hp; cases hp
  | ok x3 =>
  obtain ⟨b, l3⟩ := x3
  rw [h3] at hp; dsimp only at hp
  cases h4 : passOver [59] l3 with
  | error f => rw [h4] at hp; cases hp
  | ok l4 =>
  rw [h4] at hp; dsimp only at hp
  cases h5 : readNamed sWord 24 wordOf l4.length [] l4 with
  | error f => rw [h5] at hp; cases hp
  | ok x5 =>
  obtain ⟨ws, l5⟩ := x5
  rw [h5] at hp; dsimp only at hp
  cases h6 : readNamed sPattern 40 patternOf l5.length [] l5 with
  | error f => rw [h6] at hp; cases hp
  | ok x6 =>
  obtain ⟨ps, l6⟩ := x6
  rw [h6] at hp; dsimp only at hp
  split at hp
  · injection hp with hp
    have m1 := readMargin_in h2
    have m2 := readMargin_in h3
    obtain ⟨w1, w2, w3⟩ := named_ok (R := fun e => RowOk e.1) (fun c e he => by obtain ⟨r, m⟩ := e; exact word_row he) _ _ _ h5 (fun _ z => (nomatch z)) List.nodup_nil (Nat.zero_le _)
    obtain ⟨p1, p2, p3⟩ := named_ok (R := PatOk) (fun c e he => by obtain ⟨r, m⟩ := e; exact (pattern_ok he).1) _ _ _ h6 (fun _ z => (nomatch z)) List.nodup_nil (Nat.zero_le _)
    rw [← hp]
    refine ⟨⟨?_, ?_, ?_, w1, ⟨p1, p2⟩, ?_⟩, p3, w3, m1, m2⟩
    · show -1000 ≤ a ∧ a ≤ 1000; omega
    · show -1000 ≤ b ∧ b ≤ 1000; omega
    · show ws.length ≤ 100; omega
    · show ps.length ≤ 1000; omega
  · cases hp
theorem listOf_ok {t : Ns} {h : Held} (hl : listOf t = .ok h) : HeldOk h ∧ h.pats.length ≤ 40 ∧ h.words.length ≤ 24 ∧ (0 ≤ h.left ∧ h.left ≤ 5) ∧ (0 ≤ h.right ∧ h.right ≤ 5) := by
  unfold listOf at hl
  split at hl
  · cases hl
  · cases ht : tokensOf t with
    | error f => rw [ht] at hl; cases hl
    | ok l =>
      rw [ht] at hl
      exact parse_ok hl
end PM
set_option Elab.async false
set_option linter.all false
/-! # Well-formed calls -/
namespace PM
def wfc : Nat → Ns → Prop
  | _, [] => True
  | 0, _ :: _ => False
  | n + 1, p :: r => (0 ≤ p ∧ p ≤ 9) ∧ ((spanOf (p :: r)).1 = 2 → 1 < (p :: r).length ∧ 0 ≤ (p :: r).getD 1 0) ∧ (spanOf (p :: r)).1 + (spanOf (p :: r)).2 ≤ (p :: r).length ∧ wfc n ((p :: r).drop ((spanOf (p :: r)).1 + (spanOf (p :: r)).2))
end PM
set_option Elab.async false
set_option linter.all false
/-! # The mirror is the specification, first part: bytes, tokens -/
namespace PM
open VahypBase (Bytes)
def bints (b : Bytes) : Ns := b.map fun c => (c.toNat : Int)
def nint (l : List Nat) : Ns := l.map fun (n : Nat) => (n : Int)
theorem ints_len (b : Bytes) : (bints b).length = b.length := List.length_map ..
theorem u8_eq (c : UInt8) (n : Nat) (hn : n < 256) : ((c.toNat : Int) = (n : Int)) ↔ c = UInt8.ofNat n := by
  rw [← UInt8.toNat_inj]
  have : (UInt8.ofNat n).toNat = n := by
    rw [UInt8.toNat_ofNat']
    exact Nat.mod_eq_of_lt hn
  rw [this]
  omega
theorem u8_dec (c : UInt8) (n : Nat) (hn : n < 256) : decide ((c.toNat : Int) = (n : Int)) = (c == UInt8.ofNat n) := by
  by_cases h : c = UInt8.ofNat n
  · rw [decide_eq_true ((u8_eq c n hn).mpr h), h, beq_self_eq_true]
  · rw [decide_eq_false (fun z => h ((u8_eq c n hn).mp z))]
    symm
    exact beq_eq_false_iff_ne.mpr h
theorem ints_inj {a b : Bytes} (h : bints a = bints b) : a = b := by
  refine (List.map_inj_right (fun x y z => ?_)).mp h
  rw [← UInt8.toNat_inj]
  exact Int.ofNat.inj z
theorem letter_eq (c : UInt8) : isLetter (c.toNat : Int) = VahypBase.isLetter c := by
  unfold isLetter VahypBase.isLetter
  rw [← Bool.decide_and]
  exact decide_eq_decide.mpr ⟨fun z => by omega, fun z => by omega⟩
theorem digit_eq (c : UInt8) : isDigit (c.toNat : Int) = VahypBase.isDigit c := by
  unfold isDigit VahypBase.isDigit
  rw [← Bool.decide_and]
  exact decide_eq_decide.mpr ⟨fun z => by omega, fun z => by omega⟩
theorem blank_eq (c : UInt8) : isBlank (c.toNat : Int) = VahypBase.isBlank c := by
  unfold isBlank VahypBase.isBlank
  rw [show (32 : Int) = ((32 : Nat) : Int) from rfl, show (9 : Int) = ((9 : Nat) : Int) from rfl, show (10 : Int) = ((10 : Nat) : Int) from rfl, u8_dec c 32 (by decide), u8_dec c 9 (by decide), u8_dec c 10 (by decide)]
  rfl
theorem chunk_eq (c : UInt8) : isChunk (c.toNat : Int) = VahypBase.inChunk c := by
  unfold isChunk VahypBase.inChunk
  rw [letter_eq, digit_eq, show (45 : Int) = ((45 : Nat) : Int) from rfl, show (46 : Int) = ((46 : Nat) : Int) from rfl, u8_dec c 45 (by decide), u8_dec c 46 (by decide)]
  rfl
theorem ints_take {p : Int → Bool} {q : UInt8 → Bool} (h : ∀ c : UInt8, p (c.toNat : Int) = q c) : ∀ b : Bytes, (bints b).takeWhile p = bints (b.takeWhile q)
  | [] => rfl
  | c :: r => by
    show ((c.toNat : Int) :: bints r).takeWhile p = bints ((c :: r).takeWhile q)
    rw [List.takeWhile_cons, List.takeWhile_cons, h c, ints_take h r]
    split <;> rfl
theorem ints_drop {p : Int → Bool} {q : UInt8 → Bool} (h : ∀ c : UInt8, p (c.toNat : Int) = q c) : ∀ b : Bytes, (bints b).dropWhile p = bints (b.dropWhile q)
  | [] => rfl
  | c :: r => by
    show ((c.toNat : Int) :: bints r).dropWhile p = bints ((c :: r).dropWhile q)
    rw [List.dropWhile_cons, List.dropWhile_cons, h c]
    split
    · exact ints_drop h r
    · rfl
theorem ints_drp (b : Bytes) (k : Nat) : (bints b).drop k = bints (b.drop k) := List.map_drop.symm
theorem ints_tk (b : Bytes) (k : Nat) : (bints b).take k = bints (b.take k) := List.map_take.symm
/-! ### tokens -/
def tkN : VahypBase.Tok → Ns
  | .chunk w => bints w
  | .sign c => [(c : Int)]
  | .last => []
def tkOf (t : VahypBase.PTok) : Tk := ((t.place : Int), tkN t.tok)
def fltOf (f : VahypBase.Fault) : Flt := ((f.code : Int), (f.place : Int))
def resOf {A B : Type} (g : A → B) : Except VahypBase.Fault A → Except Flt B
  | .error f => .error (fltOf f)
  | .ok a => .ok (g a)
def TokOk : VahypBase.Tok → Prop
  | .chunk w => w ≠ [] ∧ w.all VahypBase.inChunk = true
  | .sign c => c = 59
  | .last => True
theorem takeWhile_take {α : Type} (p : α → Bool) : ∀ l : List α, l.take (l.takeWhile p).length = l.takeWhile p
  | [] => rfl
  | x :: r => by
    rw [List.takeWhile_cons]
    split
    · rw [List.length_cons, List.take_succ_cons, takeWhile_take p r]
    · rfl
theorem lexT {n : Nat} {p b : Int} {r : Ns} (h : isBlank b = false) (h2 : ¬ b = 35) {k : Nat} (hk : (if b = 59 then 1 else ((b :: r).takeWhile isChunk).length) = k) :
    lexGo (n + 1) p (b :: r) = if 1 ≤ k ∧ k ≤ 40 then (lexGo n (p + k) ((b :: r).drop k)).map fun l => (p, (b :: r).take k) :: l else .error (2, p) := by
  subst hk
  exact (if_neg (by rw [h]; exact Bool.false_ne_true)).trans (if_neg h2)
theorem specT {n a : Nat} {c : UInt8} {r : Bytes} (h : ¬ VahypBase.isBlank c = true) (h2 : ¬ c = 35) : VahypBase.lex (n + 1) a (c :: r) = match VahypBase.token (c :: r) with
      | none => .error ⟨2, a⟩
      | some x => (VahypBase.lex n (a + x.2) ((c :: r).drop x.2)).map fun l => ⟨a, x.1⟩ :: l :=
  (if_neg h).trans (if_neg (fun z => h2 (by simpa using z)))
theorem lex_eq : ∀ (n a : Nat) (b : Bytes), lexGo n (a : Int) (bints b) = resOf (fun l => l.map tkOf) (VahypBase.lex n a b)
  | 0, a, b => rfl
  | n + 1, a, [] => rfl
  | n + 1, a, c :: r => by
    by_cases hB : VahypBase.isBlank c = true
    · have e1 : lexGo (n + 1) (a : Int) (bints (c :: r)) = lexGo n ((a : Int) + 1) (bints r) := if_pos (by rw [blank_eq]; exact hB)
      have e2 : VahypBase.lex (n + 1) a (c :: r) = VahypBase.lex n (a + 1) r := if_pos hB
      rw [e1, e2]
      exact lex_eq n (a + 1) r
    · have hB' : isBlank (c.toNat : Int) = false := by rw [blank_eq]; simpa using hB
      by_cases h35 : c = 35
      · have h10 : ∀ d : UInt8, (fun x : Int => decide (x ≠ 10)) (d.toNat : Int) = (d != 10) := fun d => by
          show decide (¬ (d.toNat : Int) = 10) = !(d == 10)
          rw [decide_not, show (10 : Int) = ((10 : Nat) : Int) from rfl, u8_dec d 10 (by decide)]
          rfl
        have e1 : lexGo (n + 1) (a : Int) (bints (c :: r)) = lexGo n ((a : Int) + 1 + ((bints r).takeWhile (fun x => decide (x ≠ 10))).length) ((bints r).dropWhile (fun x => decide (x ≠ 10))) :=
          (if_neg (by rw [hB']; exact Bool.false_ne_true)).trans (if_pos ((u8_eq c 35 (by decide)).mpr h35))
        have e2 : VahypBase.lex (n + 1) a (c :: r) = VahypBase.lex n (a + 1 + (r.takeWhile (· != 10)).length) (r.dropWhile (· != 10)) := (if_neg hB).trans (if_pos (by rw [h35]; rfl))
        rw [e1, e2, ints_take h10, ints_drop h10, ints_len]
        have := lex_eq n (a + 1 + (r.takeWhile (· != 10)).length) (r.dropWhile (· != 10))
        rw [← this]
        congr 1
      · have h35' : ¬ (c.toNat : Int) = 35 := fun z => h35 ((u8_eq c 35 (by decide)).mp z)
        rw [specT hB h35]
        by_cases h59 : c = 59
        · have e2 : (c.toNat : Int) = 59 := (u8_eq c 59 (by decide)).mpr h59
          have e1 := lexT (n := n) (p := (a : Int)) (r := bints r) hB' h35' (k := 1) (if_pos e2)
          have e3 : VahypBase.token (c :: r) = some (.sign 59, 1) := by
            subst h59
            rfl
          rw [e3]
          refine e1.trans ?_
          rw [if_pos (by omega)]
          have ih := lex_eq n (a + 1) r
          show (lexGo n ((a : Int) + ((1 : Nat) : Int)) (bints r)).map (fun l => ((a : Int), [(c.toNat : Int)]) :: l) = resOf _ ((VahypBase.lex n (a + 1) r).map _)
          rw [show (a : Int) + ((1 : Nat) : Int) = ((a + 1 : Nat) : Int) from by omega, ih, e2]
          cases VahypBase.lex n (a + 1) r <;> rfl
        · have e2 : ¬ (c.toNat : Int) = 59 := fun z => h59 ((u8_eq c 59 (by decide)).mp z)
          have e1 := lexT (n := n) (p := (a : Int)) (r := bints r) hB' h35' (k := ((c :: r).takeWhile VahypBase.inChunk).length) ((if_neg e2).trans (by
            show ((bints (c :: r)).takeWhile isChunk).length = _
            rw [ints_take chunk_eq, ints_len]))
          refine (show lexGo (n + 1) (a : Int) (bints (c :: r)) = _ from e1).trans ?_
          by_cases hc : VahypBase.inChunk c = true
          · have hk : 1 ≤ ((c :: r).takeWhile VahypBase.inChunk).length := by
              rw [List.takeWhile_cons, if_pos hc, List.length_cons]
              omega
            by_cases h40 : 40 < ((c :: r).takeWhile VahypBase.inChunk).length
            · have e3 : VahypBase.token (c :: r) = none := (if_pos hc).trans (if_pos h40)
              rw [e3, if_neg (by omega)]
              rfl
            · have e3 : VahypBase.token (c :: r) = some (.chunk ((c :: r).takeWhile VahypBase.inChunk), ((c :: r).takeWhile VahypBase.inChunk).length) := (if_pos hc).trans (if_neg h40)
              rw [e3, if_pos (by omega)]
              have ih := lex_eq n (a + ((c :: r).takeWhile VahypBase.inChunk).length) ((c :: r).drop ((c :: r).takeWhile VahypBase.inChunk).length)
              have ed : ((c.toNat : Int) :: bints r).drop ((c :: r).takeWhile VahypBase.inChunk).length = bints ((c :: r).drop ((c :: r).takeWhile VahypBase.inChunk).length) := ints_drp (c :: r) _
              have et : ((c.toNat : Int) :: bints r).take ((c :: r).takeWhile VahypBase.inChunk).length = bints ((c :: r).takeWhile VahypBase.inChunk) := by
                have : ((c.toNat : Int) :: bints r).take ((c :: r).takeWhile VahypBase.inChunk).length = bints ((c :: r).take ((c :: r).takeWhile VahypBase.inChunk).length) := ints_tk (c :: r) _
                rw [this, takeWhile_take]
              rw [ed, et, show (a : Int) + ((((c :: r).takeWhile VahypBase.inChunk).length : Nat) : Int) = ((a + ((c :: r).takeWhile VahypBase.inChunk).length : Nat) : Int) from by omega, ih]
              dsimp only
              cases VahypBase.lex n (a + ((c :: r).takeWhile VahypBase.inChunk).length) ((c :: r).drop ((c :: r).takeWhile VahypBase.inChunk).length) <;> rfl
          · have hk : ((c :: r).takeWhile VahypBase.inChunk).length = 0 := by
              rw [List.takeWhile_cons, if_neg hc]
              rfl
            have e3 : VahypBase.token (c :: r) = none := (if_neg hc).trans (if_neg (fun z => h59 (by simpa using z)))
            rw [e3, hk, if_neg (by omega)]
            rfl
/-- what the tokens are, and how they end -/
def ToksOk (l : VahypBase.Toks) : Prop := (∃ i p, l = i ++ [⟨p, .last⟩]) ∧ ∀ t ∈ l, TokOk t.tok
theorem lex_ok : ∀ (n a : Nat) (b : Bytes) {l : VahypBase.Toks}, VahypBase.lex n a b = .ok l → ToksOk l
  | 0, a, b, l, h => by
    injection h with h
    subst h
    exact ⟨⟨[], a, rfl⟩, fun t ht => by rw [List.mem_singleton.mp ht]; trivial⟩
  | n + 1, a, [], l, h => by
    injection h with h
    subst h
    exact ⟨⟨[], a, rfl⟩, fun t ht => by rw [List.mem_singleton.mp ht]; trivial⟩
  | n + 1, a, c :: r, l, h => by
    by_cases hB : VahypBase.isBlank c = true
    · have e2 : VahypBase.lex (n + 1) a (c :: r) = VahypBase.lex n (a + 1) r := if_pos hB
      rw [e2] at h
      exact lex_ok n _ _ h
    · by_cases h35 : c = 35
      · have e2 : VahypBase.lex (n + 1) a (c :: r) = VahypBase.lex n (a + 1 + (r.takeWhile (· != 10)).length) (r.dropWhile (· != 10)) := (if_neg hB).trans (if_pos (by rw [h35]; rfl))
        rw [e2] at h
        exact lex_ok n _ _ h
      · rw [specT hB h35] at h
        cases ht : VahypBase.token (c :: r) with
        | none => rw [ht] at h; cases h
        | some x =>
          rw [ht] at h
          dsimp only at h
          have hx : TokOk x.1 := by
            by_cases hc : VahypBase.inChunk c = true
            · have e : VahypBase.token (c :: r) = if VahypBase.CHUNK < ((c :: r).takeWhile VahypBase.inChunk).length then none else some (.chunk ((c :: r).takeWhile VahypBase.inChunk), ((c :: r).takeWhile VahypBase.inChunk).length) := if_pos hc
              rw [e] at ht
              split at ht
              · cases ht
              · have ht := Option.some.inj ht
                rw [← ht]
                refine ⟨?_, List.all_takeWhile⟩
                rw [List.takeWhile_cons, if_pos hc]
                exact List.cons_ne_nil _ _
            · have e : VahypBase.token (c :: r) = if (c == 59) = true then some (.sign 59, 1) else none := if_neg hc
              rw [e] at ht
              split at ht
              · have ht := Option.some.inj ht
                rw [← ht]
                rfl
              · cases ht
          cases hl : VahypBase.lex n (a + x.2) ((c :: r).drop x.2) with
          | error f => rw [hl] at h; cases h
          | ok l' =>
            rw [hl] at h
            have h : Except.ok (({ place := a, tok := x.1 } : VahypBase.PTok) :: l') = Except.ok l := h
            injection h with h
            subst h
            obtain ⟨⟨i, p, e1⟩, e2⟩ := lex_ok n _ _ hl
            refine ⟨⟨⟨a, x.1⟩ :: i, p, by rw [e1]; rfl⟩, fun t ht => ?_⟩
            rcases List.mem_cons.mp ht with z | z
            · rw [z]; exact hx
            · exact e2 t z
end PM
set_option Elab.async false
set_option linter.all false
/-! # The mirror is the specification: chunks -/
namespace PM
open VahypBase (Bytes)
theorem ints_app (a b : Bytes) : bints (a ++ b) = bints a ++ bints b := List.map_append
theorem nint_app (a b : List Nat) : nint (a ++ b) = nint a ++ nint b := List.map_append
theorem nint_len (a : List Nat) : (nint a).length = a.length := List.length_map ..
theorem all_ints (b : Bytes) : (bints b).all isLetter = b.all VahypBase.isLetter := by
  unfold bints
  rw [List.all_map]
  congr 1
  funext c
  exact letter_eq c
/-! ### words -/
theorem wordGo_pre : ∀ (l ls ms : Ns) (b : Bool) {x y : Ns} {z : Bool}, wordGo l ls ms b = some (x, y, z) → ∃ t, x = ls ++ t
  | [], ls, ms, b, x, y, z, h => by
    have h := Option.some.inj h
    injection h with h1 h2
    exact ⟨[], by rw [List.append_nil, h1]⟩
  | c :: r, ls, ms, b, x, y, z, h => by
    unfold wordGo at h
    split at h
    · obtain ⟨t, e⟩ := wordGo_pre r _ _ _ h
      exact ⟨c :: t, by rw [e, List.append_assoc]; rfl⟩
    · split at h
      · exact wordGo_pre r _ _ _ h
      · cases h
/-- what wordOf makes of the scan -/
def wordEnd (r : Option (Ns × Ns × Bool)) : Option (Ns × Ns) := match r with
  | none => none
  | some (ls, ms, b) => match rowOf ls with
    | none => none
    | some row => if b = true then some (row, ms) else none
theorem wordEnd_bad {l ls ms : Ns} {b : Bool} (h : ls.all isLetter = false) : wordEnd (wordGo l ls ms b) = none := by
  unfold wordEnd
  cases e : wordGo l ls ms b with
  | none => rfl
  | some x =>
    obtain ⟨a, m, c⟩ := x
    obtain ⟨t, et⟩ := wordGo_pre l ls ms b e
    have hr : rowOf a = none := by
      unfold rowOf
      rw [if_neg]
      rintro ⟨_, _, z⟩
      rw [et, List.all_append, h, Bool.false_and] at z
      cases z
    dsimp only
    rw [hr]
def encW (w : Vahypa.Word) : Ns × Ns := (46 :: (bints w.x ++ [46]), nint w.cuts)
def cutW (w : Vahypa.Word) : Option Vahypa.Word := if w.x.length < 2 ∨ Vahypa.LETTERS < w.x.length then none else some w
theorem word_end {x : Bytes} {cs : List Nat} (hx : x.all VahypBase.isLetter = true) : wordEnd (some (bints x, nint cs, true)) = (cutW ⟨x, cs⟩).map encW := by
  unfold wordEnd cutW rowOf
  dsimp only
  rw [ints_len, all_ints]
  by_cases h : x.length < 2 ∨ 16 < x.length
  · rw [if_neg (by omega), if_pos (show x.length < 2 ∨ Vahypa.LETTERS < x.length from h)]
    rfl
  · rw [if_pos ⟨by omega, by omega, hx⟩, if_neg (show ¬ (x.length < 2 ∨ Vahypa.LETTERS < x.length) from h)]
    rfl
theorem word_go : ∀ (n : Nat) (l x : Bytes) (cs : List Nat), l.length < n → x.all VahypBase.isLetter = true → (∀ k ∈ cs, k < x.length) →
    wordEnd (wordGo (bints l) (bints x) (nint cs) (!x.isEmpty)) = ((Vahypa.wordBy n l x cs).bind cutW).map encW
  | 0, l, x, cs, hn, _, _ => absurd hn (Nat.not_lt_zero _)
  | n + 1, [], x, cs, hn, hx, hc => by
    show wordEnd (some (bints x, nint cs, !x.isEmpty)) = (cutW ⟨x, cs⟩).map encW
    cases x with
    | nil =>
      unfold wordEnd cutW
      rfl
    | cons a b => exact word_end hx
  | n + 1, b :: r, x, cs, hn, hx, hc => by
    rw [List.length_cons] at hn
    by_cases hb : VahypBase.isLetter b = true
    · have e1 : wordGo (bints (b :: r)) (bints x) (nint cs) (!x.isEmpty) = wordGo (bints r) (bints (x ++ [b])) (nint cs) true := by
        have hne : (b.toNat : Int) ≠ 45 := fun z => by
          rw [(u8_eq b 45 (by decide)).mp z] at hb
          exact absurd hb (by decide)
        rw [ints_app]
        exact if_pos hne
      have e2 : Vahypa.wordBy (n + 1) (b :: r) x cs = Vahypa.wordBy n r (x ++ [b]) cs := if_pos hb
      rw [e1, e2]
      have ih := word_go n r (x ++ [b]) cs (by omega) (by rw [List.all_append, hx]; simpa using hb) (fun k hk => by rw [List.length_append]; have := hc k hk; show k < x.length + 1; omega)
      have hne : (!(x ++ [b]).isEmpty) = true := by cases x <;> rfl
      rw [hne] at ih
      exact ih
    · by_cases h45 : b = 45
      · subst h45
        cases hxe : x with
        | nil =>
          have e1 : wordGo (bints (45 :: r)) (bints []) (nint cs) (!([] : Bytes).isEmpty) = none := (if_neg (fun z => z rfl)).trans (if_neg (by decide))
          have e2 : Vahypa.wordBy (n + 1) (45 :: r) [] cs = none := by
            unfold Vahypa.wordBy
            dsimp only
            rw [if_neg (by decide), if_neg (fun z => z.2.1 rfl)]
          rw [e1, e2]
          rfl
        | cons x0 xr =>
          rw [← hxe]
          have hxn : x ≠ [] := by rw [hxe]; exact List.cons_ne_nil _ _
          have hbx : (!x.isEmpty) = true := by rw [hxe]; rfl
          have e1 : wordGo (bints (45 :: r)) (bints x) (nint cs) (!x.isEmpty) = wordGo (bints r) (bints x) (nint (cs ++ [x.length])) false := by
            rw [nint_app]
            refine (if_neg (fun z => z rfl)).trans ((if_pos hbx).trans ?_)
            rw [ints_len]
            rfl
          have hcon : cs.contains x.length = false := by
            cases e : cs.contains x.length with
            | false => rfl
            | true =>
              have := hc x.length (by simpa using e)
              omega
          rw [e1]
          clear e1
          cases r with
          | nil =>
            have e2 : Vahypa.wordBy (n + 1) [45] x cs = none := by
              unfold Vahypa.wordBy
              dsimp only
              rw [if_neg (show ¬ VahypBase.isLetter 45 = true by decide), if_pos ⟨by decide, hxn, hcon⟩]
            rw [e2]
            show wordEnd (some (bints x, nint (cs ++ [x.length]), false)) = none
            unfold wordEnd
            dsimp only
            cases rowOf (bints x) <;> rfl
          | cons c r2 =>
            rw [List.length_cons] at hn
            have e2 : Vahypa.wordBy (n + 1) (45 :: c :: r2) x cs = if VahypBase.isLetter c = true then Vahypa.wordBy n (c :: r2) x (cs ++ [x.length]) else none := by
              rw [Vahypa.wordBy]
              rw [if_neg (show ¬ VahypBase.isLetter 45 = true by decide), if_pos ⟨by decide, hxn, hcon⟩]
            rw [e2]
            by_cases hcl : VahypBase.isLetter c = true
            · obtain ⟨m, rfl⟩ : ∃ m, n = m + 1 := ⟨n - 1, by omega⟩
              have hne : (c.toNat : Int) ≠ 45 := fun z => by
                rw [(u8_eq c 45 (by decide)).mp z] at hcl
                exact absurd hcl (by decide)
              have e3 : wordGo (bints (c :: r2)) (bints x) (nint (cs ++ [x.length])) false = wordGo (bints r2) (bints (x ++ [c])) (nint (cs ++ [x.length])) true := by
                rw [ints_app]
                exact if_pos hne
              have e4 : Vahypa.wordBy (m + 1) (c :: r2) x (cs ++ [x.length]) = Vahypa.wordBy m r2 (x ++ [c]) (cs ++ [x.length]) := if_pos hcl
              rw [if_pos hcl, e3, e4]
              have ih := word_go m r2 (x ++ [c]) (cs ++ [x.length]) (by omega) (by rw [List.all_append, hx]; simpa using hcl) (fun k hk => by
                rw [List.length_append]
                rcases List.mem_append.mp hk with z | z
                · have := hc k z; show k < x.length + 1; omega
                · rw [List.mem_singleton.mp z]; show x.length < x.length + 1; omega)
              have hne2 : (!(x ++ [c]).isEmpty) = true := by cases x <;> rfl
              rw [hne2] at ih
              exact ih
            · rw [if_neg hcl]
              by_cases hc45 : c = 45
              · subst hc45
                have e3 : wordGo (bints (45 :: r2)) (bints x) (nint (cs ++ [x.length])) false = none := (if_neg (fun z => z rfl)).trans (if_neg (by decide))
                rw [e3]
                rfl
              · have hne : (c.toNat : Int) ≠ 45 := fun z => hc45 ((u8_eq c 45 (by decide)).mp z)
                have e3 : wordGo (bints (c :: r2)) (bints x) (nint (cs ++ [x.length])) false = wordGo (bints r2) (bints (x ++ [c])) (nint (cs ++ [x.length])) true := by
                  rw [ints_app]
                  exact if_pos hne
                rw [e3, wordEnd_bad]
                · rfl
                · rw [all_ints, List.all_append]
                  simp [hcl]
      · have hne : (b.toNat : Int) ≠ 45 := fun z => h45 ((u8_eq b 45 (by decide)).mp z)
        have e1 : wordGo (bints (b :: r)) (bints x) (nint cs) (!x.isEmpty) = wordGo (bints r) (bints (x ++ [b])) (nint cs) true := by
          rw [ints_app]
          exact if_pos hne
        have e2 : Vahypa.wordBy (n + 1) (b :: r) x cs = none := (if_neg hb).trans (if_neg (fun z => h45 (by simpa using z.1)))
        rw [e1, e2, wordEnd_bad]
        · rfl
        · rw [all_ints, List.all_append]
          simp [hb]
theorem word_eq (c : Bytes) : wordOf (bints c) = (Vahypa.wordOf c).map encW := by
  have h := word_go (c.length + 1) c [] [] (Nat.lt_succ_self _) rfl (fun _ z => nomatch z)
  have e : wordOf (bints c) = wordEnd (wordGo (bints c) [] [] false) := rfl
  rw [e]
  refine h.trans ?_
  unfold Vahypa.wordOf
  rfl
end PM
set_option Elab.async false
set_option linter.all false
/-! # The mirror is the specification: patterns read -/
namespace PM
open VahypBase (Bytes)
theorem patBy_nil (n : Nat) (x : Bytes) (vs : List Nat) : Vahypa.patBy (n + 1) [] x vs = some (x, vs ++ [0], []) := rfl
theorem patBy_letter {n : Nat} {b : UInt8} {r x : Bytes} {vs : List Nat} (h : VahypBase.isLetter b = true) : Vahypa.patBy (n + 1) (b :: r) x vs = Vahypa.patBy n r (x ++ [b]) (vs ++ [0]) := by
  have hd : VahypBase.isDigit b = false := by
    have := digit_no_letter (x := (b.toNat : Int)) (by rw [letter_eq]; exact h)
    rw [digit_eq] at this
    exact this
  have hz : (b == 48) = false := by
    cases e : b == 48 with
    | false => rfl
    | true =>
      have : b = 48 := by simpa using e
      rw [this] at h
      exact absurd h (by decide)
  rw [Vahypa.patBy]
  simp only [hd, hz, h, Bool.false_eq_true, ↓reduceIte]
theorem patBy_other {n : Nat} {b : UInt8} {r x : Bytes} {vs : List Nat} (h : VahypBase.isLetter b = false) (hd : VahypBase.isDigit b = false) : Vahypa.patBy (n + 1) (b :: r) x vs = some (x, vs ++ [0], b :: r) := by
  have hz : (b == 48) = false := by
    cases e : b == 48 with
    | false => rfl
    | true =>
      have : b = 48 := by simpa using e
      rw [this] at hd
      exact absurd hd (by decide)
  rw [Vahypa.patBy]
  simp only [hd, hz, h, Bool.false_eq_true, ↓reduceIte]
theorem patBy_zero {n : Nat} {r x : Bytes} {vs : List Nat} : Vahypa.patBy (n + 1) (48 :: r) x vs = none := by
  rw [Vahypa.patBy]
  rfl
theorem patBy_digit_nil {n : Nat} {b : UInt8} {x : Bytes} {vs : List Nat} (hd : VahypBase.isDigit b = true) (h48 : ¬ b = 48) : Vahypa.patBy (n + 1) [b] x vs = some (x, vs ++ [b.toNat - 48], []) := by
  have hz : (b == 48) = false := by simpa using h48
  rw [Vahypa.patBy]
  simp only [hd, hz, if_true]
  rfl
theorem patBy_digit {n : Nat} {b c : UInt8} {r x : Bytes} {vs : List Nat} (hd : VahypBase.isDigit b = true) (h48 : ¬ b = 48) : Vahypa.patBy (n + 1) (b :: c :: r) x vs = if VahypBase.isLetter c = true then Vahypa.patBy n r (x ++ [c]) (vs ++ [b.toNat - 48]) else some (x, vs ++ [b.toNat - 48], c :: r) := by
  have hz : (b == 48) = false := by simpa using h48
  rw [Vahypa.patBy]
  simp only [hd, hz, if_true]
  rfl
/-- what the two scans have in common -/
def PatSame (post : Bytes) (s : Option (Ns × Ns)) (r : Option (Bytes × List Nat × Bytes)) : Prop := match s with
  | some (ls, ds) => ∃ x vs, r = some (x, vs, post) ∧ ls = bints x ∧ ds = nint vs
  | none => r = none ∨ ∃ x vs rest, r = some (x, vs, rest) ∧ rest ≠ [] ∧ rest ≠ [46]
theorem pat_stop {post : Bytes} (hp : post = [] ∨ post = [46]) (n : Nat) (x : Bytes) (vs : List Nat) : Vahypa.patBy (n + 1) post x vs = some (x, vs ++ [0], post) := by
  rcases hp with z | z
  · rw [z]; rfl
  · rw [z]; exact patBy_other (by decide) (by decide)
theorem rest_ok {post u : Bytes} {c : UInt8} (he : post = [] → ∀ v, c :: u ≠ v ++ [46]) (hp : post = [] ∨ post = [46]) : c :: (u ++ post) ≠ [46] := fun z => by
  injection z with z1 z2
  have hu := (List.append_eq_nil_iff.mp z2)
  exact he hu.2 [] (by rw [z1, hu.1]; rfl)
theorem pat_go : ∀ (n : Nat) (w x : Bytes) (vs : List Nat) (post : Bytes), w.length < n → (post = [] ∨ post = [46]) → (post = [] → ∀ v, w ≠ v ++ [46]) →
    PatSame post (patGo (bints w) (bints x) (nint vs) 0) (Vahypa.patBy n (w ++ post) x vs)
  | 0, w, x, vs, post, hn, _, _ => absurd hn (Nat.not_lt_zero _)
  | n + 1, [], x, vs, post, hn, hp, he => by
    rw [List.nil_append, pat_stop hp]
    exact ⟨x, vs ++ [0], rfl, rfl, by rw [nint_app]; rfl⟩
  | n + 1, b :: r, x, vs, post, hn, hp, he => by
    rw [List.length_cons] at hn
    have hr : post = [] → ∀ v, r ≠ v ++ [46] := fun z v e => he z (b :: v) (by rw [e]; rfl)
    rw [List.cons_append]
    by_cases hl : VahypBase.isLetter b = true
    · rw [patBy_letter hl]
      have e : patGo (bints (b :: r)) (bints x) (nint vs) 0 = patGo (bints r) (bints (x ++ [b])) (nint (vs ++ [0])) 0 := by
        rw [ints_app, nint_app]
        exact if_pos (by rw [letter_eq]; exact hl)
      rw [e]
      exact pat_go n r _ _ post (by omega) hp hr
    · have hl' : VahypBase.isLetter b = false := by simpa using hl
      by_cases hd : VahypBase.isDigit b = true
      · by_cases h48 : b = 48
        · subst h48
          rw [patBy_zero]
          have e : patGo (bints (48 :: r)) (bints x) (nint vs) 0 = none := (if_neg (by rw [letter_eq]; exact hl)).trans (if_neg (fun z => z.2.1 rfl))
          rw [e]
          exact .inl rfl
        · have hne : (b.toNat : Int) ≠ 48 := fun z => h48 ((u8_eq b 48 (by decide)).mp z)
          have hbn : (b.toNat : Int) - 48 = ((b.toNat - 48 : Nat) : Int) := by
            have := (isd (b.toNat : Int)).mp (by rw [digit_eq]; exact hd)
            omega
          have hd0 : ¬ (b.toNat : Int) - 48 = 0 := by omega
          have e : patGo (bints (b :: r)) (bints x) (nint vs) 0 = patGo (bints r) (bints x) (nint vs) ((b.toNat : Int) - 48) := (if_neg (by rw [letter_eq]; exact hl)).trans (if_pos ⟨by rw [digit_eq]; exact hd, hne, rfl⟩)
          rw [e]
          cases r with
          | nil =>
            have e2 : patGo (bints []) (bints x) (nint vs) ((b.toNat : Int) - 48) = some (bints x, nint (vs ++ [b.toNat - 48])) := by
              rw [nint_app, hbn]
              rfl
            rw [e2]
            rcases hp with z | z
            · rw [z, List.nil_append, patBy_digit_nil hd h48]
              exact ⟨_, _, rfl, rfl, rfl⟩
            · rw [z, List.nil_append, patBy_digit hd h48, if_neg (by decide)]
              exact ⟨_, _, rfl, rfl, rfl⟩
          | cons c r2 =>
            rw [List.length_cons] at hn
            rw [List.cons_append, patBy_digit hd h48]
            by_cases hc : VahypBase.isLetter c = true
            · rw [if_pos hc]
              have e2 : patGo (bints (c :: r2)) (bints x) (nint vs) ((b.toNat : Int) - 48) = patGo (bints r2) (bints (x ++ [c])) (nint (vs ++ [b.toNat - 48])) 0 := by
                rw [ints_app, nint_app, hbn]
                exact if_pos (by rw [letter_eq]; exact hc)
              rw [e2]
              exact pat_go n r2 _ _ post (by omega) hp (fun z v e => hr z (c :: v) (by rw [e]; rfl))
            · rw [if_neg hc]
              have e2 : patGo (bints (c :: r2)) (bints x) (nint vs) ((b.toNat : Int) - 48) = none := (if_neg (by rw [letter_eq]; exact hc)).trans (if_neg (fun z => hd0 z.2.2))
              rw [e2]
              exact .inr ⟨_, _, _, rfl, List.cons_ne_nil _ _, rest_ok hr hp⟩
      · have hd' : VahypBase.isDigit b = false := by simpa using hd
        rw [patBy_other hl' hd']
        have e : patGo (bints (b :: r)) (bints x) (nint vs) 0 = none := (if_neg (by rw [letter_eq]; exact hl)).trans (if_neg (fun z => hd (by rw [← digit_eq]; exact z.1)))
        rw [e]
        exact .inr ⟨_, _, _, rfl, List.cons_ne_nil _ _, rest_ok he hp⟩
def encP (p : Vahypa.Pat) : Ns × Ns := ((if p.front = true then [46] else []) ++ (bints p.x ++ (if p.halt_ = true then [46] else [])), nint p.levels)
theorem ints_single {c : Bytes} : bints c = [46] ↔ c = [46] := ⟨fun h => ints_inj (h.trans rfl), fun h => by rw [h]; rfl⟩
/-- a chunk in three: a point at its front, what stands between, a point at its end -/
theorem split3 (c : Bytes) : ∃ w post : Bytes, (post = [] ∨ post = [46]) ∧ (post = [] → ∀ v, w ≠ v ++ [46]) ∧ (if (c.head? == some 46) = true then c.drop 1 else c) = w ++ post ∧ withoutPoints (bints c) = bints w := by
  have hf : cutFront (bints c) = bints (if (c.head? == some 46) = true then c.drop 1 else c) := by
    unfold cutFront
    cases c with
    | nil => rfl
    | cons a r =>
      have h1 : (bints (a :: r)).take 1 = [(a.toNat : Int)] := rfl
      have h2 : (bints (a :: r)).drop 1 = bints r := rfl
      rw [h1, h2]
      by_cases ha : a = 46
      · subst ha
        rw [if_pos (show [((46 : UInt8).toNat : Int)] = [46] from rfl)]
        rfl
      · have hn : ¬ [(a.toNat : Int)] = [46] := fun z => ha ((u8_eq a 46 (by decide)).mp (by injection z))
        have hn2 : ¬ ((a :: r).head? == some 46) = true := fun z => ha (by simpa using z)
        rw [if_neg hn, if_neg hn2]
  generalize (if (c.head? == some 46) = true then c.drop 1 else c) = d at hf
  have he : ∀ d : Bytes, ((bints d).drop ((bints d).length - 1) = [46] ↔ ∃ v, d = v ++ [46]) := fun d => by
    rw [ints_len, ints_drp, ints_single]
    constructor
    · intro h
      exact ⟨d.take (d.length - 1), by rw [← h, List.take_append_drop]⟩
    · rintro ⟨v, rfl⟩
      rw [List.length_append]
      exact List.drop_left' (by show v.length = v.length + 1 - 1; omega)
  by_cases h : ∃ v, d = v ++ [46]
  · obtain ⟨v, rfl⟩ := h
    refine ⟨v, [46], .inr rfl, (fun z => nomatch z), rfl, ?_⟩
    unfold withoutPoints cutEnd
    rw [hf, if_pos ((he _).mpr ⟨v, rfl⟩), ints_app]
    exact List.dropLast_concat
  · refine ⟨d, [], .inl rfl, fun _ v e => h ⟨v, e⟩, by rw [List.append_nil], ?_⟩
    unfold withoutPoints cutEnd
    rw [hf, if_neg (fun z => h ((he _).mp z))]
theorem head_pre (c : Bytes) : c = (if (c.head? == some 46) = true then [46] else []) ++ (if (c.head? == some 46) = true then c.drop 1 else c) := by
  cases c with
  | nil => rfl
  | cons a r =>
    by_cases h : ((a :: r).head? == some 46) = true
    · rw [if_pos h, if_pos h]
      have : a = 46 := by simpa using h
      rw [this]
      rfl
    · rw [if_neg h, if_neg h]
      rfl
theorem zeros_all (vs : List Nat) : (nint vs).all (fun d => decide (d = 0)) = vs.all (fun v => v == 0) := by
  unfold nint
  rw [List.all_map]
  congr 1
  funext v
  show decide ((v : Int) = 0) = (v == 0)
  by_cases h : v = 0
  · subst h; rfl
  · rw [decide_eq_false (by omega)]
    symm
    simpa using h
theorem pat_eq (c : Bytes) : patternOf (bints c) = (Vahypa.patOf c).map encP := by
  obtain ⟨w, post, hp, he, h1, h2⟩ := split3 c
  have hpre := head_pre c
  have hlen : w.length ≤ c.length := by
    have := congrArg List.length h1
    rw [List.length_append] at this
    split at this
    · rw [List.length_drop] at this; omega
    · omega
  have h := pat_go (c.length + 1) w [] [] post (by omega) hp he
  have es : Vahypa.patOf c = (Vahypa.patBy (c.length + 1) (w ++ post) [] []).bind fun p =>
      if p.1.length < 1 ∨ Vahypa.PIECE < p.1.length ∨ (p.2.2 ≠ [] ∧ (p.2.2 == [46]) = false) ∨ p.2.1.all (fun v => v == 0) = true then none else some ⟨c.head? == some 46, p.1, p.2.2 == [46], p.2.1⟩ := by
    rw [← h1]
    rfl
  rw [es]
  unfold patternOf
  rw [h2]
  cases hg : patGo (bints w) [] [] 0 with
  | none =>
    rw [show patGo (bints w) (bints []) (nint []) 0 = none from hg] at h
    dsimp only
    rcases h with z | ⟨x, vs, rest, z, z1, z2⟩
    · rw [z]; rfl
    · rw [z]
      show none = (if _ then none else some _ : Option Vahypa.Pat).map encP
      rw [if_pos (.inr (.inr (.inl ⟨z1, by simpa using z2⟩)))]
      rfl
  | some q =>
    obtain ⟨ls, ds⟩ := q
    rw [show patGo (bints w) (bints []) (nint []) 0 = some (ls, ds) from hg] at h
    obtain ⟨x, vs, z, rfl, rfl⟩ := h
    rw [z]
    dsimp only
    have hpost : ¬ (post ≠ [] ∧ (post == [46]) = false) := by
      rcases hp with y | y
      · rw [y]; exact fun q => q.1 rfl
      · rw [y]; exact fun q => absurd q.2 (by decide)
    rw [zeros_all, ints_len]
    show _ = (if x.length < 1 ∨ Vahypa.PIECE < x.length ∨ (post ≠ [] ∧ (post == [46]) = false) ∨ vs.all (fun v => v == 0) = true then none else some (⟨c.head? == some 46, x, post == [46], vs⟩ : Vahypa.Pat) : Option Vahypa.Pat).map encP
    by_cases hb : ¬ (1 ≤ x.length ∧ x.length ≤ 6) ∨ vs.all (fun v => v == 0) = true
    · rw [if_pos hb]
      have hb2 : x.length < 1 ∨ Vahypa.PIECE < x.length ∨ (post ≠ [] ∧ (post == [46]) = false) ∨ vs.all (fun v => v == 0) = true := by
        rcases hb with y | y
        · by_cases y1 : x.length < 1
          · exact .inl y1
          · right; left
            show 6 < x.length
            omega
        · exact .inr (.inr (.inr y))
      rw [if_pos hb2]
      rfl
    · rw [if_neg hb]
      have hb2 : ¬ (x.length < 1 ∨ Vahypa.PIECE < x.length ∨ (post ≠ [] ∧ (post == [46]) = false) ∨ vs.all (fun v => v == 0) = true) := by
        rintro (y | y | y | y)
        · exact hb (.inl (by omega))
        · have y : 6 < x.length := y
          exact hb (.inl (by omega))
        · exact hpost y
        · exact hb (.inr y)
      rw [if_neg hb2]
      show some ((bints c).filter (fun b => !isDigit b), nint vs) = some (encP _)
      congr 1
      unfold encP
      dsimp only
      congr 1
      -- the piece
      have hls := (patGo_ok (bints w) [] [] 0 hg (fun y hy => by rw [List.mem_singleton.mp hy]; omega)).1
      rw [List.nil_append] at hls
      have e1 : bints c = bints (if (c.head? == some 46) = true then [46] else []) ++ (bints w ++ bints post) := by
        rw [← ints_app, ← h1, ← ints_app, ← hpre]
      rw [e1, List.filter_append, List.filter_append, ← hls]
      have f1 : (bints (if (c.head? == some 46) = true then [46] else [])).filter (fun b => !isDigit b) = if (c.head? == some 46) = true then [46] else [] := by split <;> rfl
      have f2 : (bints post).filter (fun b => !isDigit b) = if (post == [46]) = true then [46] else [] := by
        rcases hp with y | y
        · rw [y]; rfl
        · rw [y]; rfl
      rw [f1, f2]
end PM
set_option Elab.async false
set_option linter.all false
/-! # The mirror is the specification: a list read -/
namespace PM
open VahypBase (Bytes Toks)
/-! ### what a read pattern is -/
def PGood (p : Vahypa.Pat) : Prop := p.x.all VahypBase.isLetter = true ∧ 1 ≤ p.x.length ∧ p.x.length ≤ 6 ∧ p.levels.length = p.x.length + 1 ∧ ∀ v ∈ p.levels, v ≤ 9
theorem patBy_ok : ∀ (n : Nat) (l x : Bytes) (vs : List Nat) {x' : Bytes} {vs' : List Nat} {rest : Bytes}, Vahypa.patBy n l x vs = some (x', vs', rest) → x.all VahypBase.isLetter = true → vs.length = x.length → (∀ v ∈ vs, v ≤ 9) →
    x'.all VahypBase.isLetter = true ∧ vs'.length = x'.length + 1 ∧ ∀ v ∈ vs', v ≤ 9
  | 0, l, x, vs, x', vs', rest, h, _, _, _ => by cases h
  | n + 1, l, x, vs, x', vs', rest, h, hx, hl, hv => by
    have fin : ∀ (v : Nat), v ≤ 9 → (vs ++ [v]).length = x.length + 1 ∧ ∀ u ∈ vs ++ [v], u ≤ 9 := fun v hv9 => by
      refine ⟨by rw [List.length_append, hl]; rfl, fun u hu => ?_⟩
      rcases List.mem_append.mp hu with z | z
      · exact hv u z
      · rw [List.mem_singleton.mp z]; exact hv9
    have ext : ∀ c : UInt8, VahypBase.isLetter c = true → (x ++ [c]).all VahypBase.isLetter = true := fun c hc => by
      rw [List.all_append, hx]
      simpa using hc
    have exl : ∀ c : UInt8, ∀ v : Nat, (vs ++ [v]).length = (x ++ [c]).length := fun c v => by rw [List.length_append, List.length_append, hl]; rfl
    match l, h with
    | [], h =>
      rw [patBy_nil] at h
      have h := Option.some.inj h
      injection h with h1 h2
      injection h2 with h2 h3
      subst h1 h2
      exact ⟨hx, fin 0 (by omega)⟩
    | b :: r, h =>
      by_cases hb : VahypBase.isLetter b = true
      · rw [patBy_letter hb] at h
        exact patBy_ok n r _ _ h (ext b hb) (exl b 0) (fin 0 (by omega)).2
      · by_cases hd : VahypBase.isDigit b = true
        · by_cases h48 : b = 48
          · subst h48
            rw [patBy_zero] at h
            cases h
          · have h9 : b.toNat - 48 ≤ 9 := by
              have := (isd (b.toNat : Int)).mp (by rw [digit_eq]; exact hd)
              omega
            match r, h with
            | [], h =>
              rw [patBy_digit_nil hd h48] at h
              have h := Option.some.inj h
              injection h with h1 h2
              injection h2 with h2 h3
              subst h1 h2
              exact ⟨hx, fin _ h9⟩
            | c :: r2, h =>
              rw [patBy_digit hd h48] at h
              by_cases hc : VahypBase.isLetter c = true
              · rw [if_pos hc] at h
                exact patBy_ok n r2 _ _ h (ext c hc) (exl c _) (fin _ h9).2
              · rw [if_neg hc] at h
                have h := Option.some.inj h
                injection h with h1 h2
                injection h2 with h2 h3
                subst h1 h2
                exact ⟨hx, fin _ h9⟩
        · rw [patBy_other (by simpa using hb) (by simpa using hd)] at h
          have h := Option.some.inj h
          injection h with h1 h2
          injection h2 with h2 h3
          subst h1 h2
          exact ⟨hx, fin 0 (by omega)⟩
theorem pat_good {c : Bytes} {p : Vahypa.Pat} (h : Vahypa.patOf c = some p) : PGood p := by
  have es : Vahypa.patOf c = (Vahypa.patBy (c.length + 1) (if (c.head? == some 46) = true then c.drop 1 else c) [] []).bind fun p =>
      if p.1.length < 1 ∨ Vahypa.PIECE < p.1.length ∨ (p.2.2 ≠ [] ∧ (p.2.2 == [46]) = false) ∨ p.2.1.all (fun v => v == 0) = true then none else some ⟨c.head? == some 46, p.1, p.2.2 == [46], p.2.1⟩ := rfl
  rw [es] at h
  cases e : Vahypa.patBy (c.length + 1) (if (c.head? == some 46) = true then c.drop 1 else c) [] [] with
  | none => rw [e] at h; cases h
  | some q =>
    obtain ⟨x, vs, rest⟩ := q
    rw [e] at h
    have h : (if x.length < 1 ∨ Vahypa.PIECE < x.length ∨ (rest ≠ [] ∧ (rest == [46]) = false) ∨ vs.all (fun v => v == 0) = true then none else some (⟨c.head? == some 46, x, rest == [46], vs⟩ : Vahypa.Pat)) = some p := h
    split at h
    · cases h
    · rename_i hc
      have h := Option.some.inj h
      obtain ⟨h1, h2, h3⟩ := patBy_ok _ _ _ _ e rfl rfl (fun _ z => nomatch z)
      rw [← h]
      have hl1 : ¬ x.length < 1 := fun z => hc (.inl z)
      have hl2 : ¬ 6 < x.length := fun z => hc (.inr (.inl z))
      exact ⟨h1, by show 1 ≤ x.length; omega, by show x.length ≤ 6; omega, h2, h3⟩
/-! ### keys -/
theorem encW_key {v w : Vahypa.Word} : (encW v).1 = (encW w).1 ↔ v.x = w.x := by
  constructor
  · intro h
    injection h with _ h
    exact ints_inj ((List.append_left_inj _).mp h)
  · intro h
    unfold encW
    rw [h]
theorem key_front {x : Bytes} (hx : x.all VahypBase.isLetter = true) (h1 : 1 ≤ x.length) : ∃ a r, bints x = a :: r ∧ a ≠ 46 := by
  cases x with
  | nil => simp at h1
  | cons c r =>
    refine ⟨_, _, rfl, letter_ne (by rw [letter_eq]; exact (List.all_eq_true.mp hx) c List.mem_cons_self)⟩
theorem count_ints {x : Bytes} (hx : x.all VahypBase.isLetter = true) : (bints x).count 46 = 0 := count_letters (fun y hy => by
  rw [← all_ints] at hx
  exact List.all_eq_true.mp hx y hy)
theorem encP_key {p q : Vahypa.Pat} (hp : PGood p) (hq : PGood q) : (encP p).1 = (encP q).1 ↔ (p.front = q.front ∧ p.x = q.x ∧ p.halt_ = q.halt_) := by
  constructor
  · intro h
    unfold encP at h
    dsimp only at h
    obtain ⟨a, r, e1, n1⟩ := key_front hp.1 hp.2.1
    obtain ⟨b, s, e2, n2⟩ := key_front hq.1 hq.2.1
    have hf : p.front = q.front := by
      cases pf : p.front <;> cases qf : q.front
      · rfl
      · rw [pf, qf, e1, e2] at h
        injection h with h _
        exact absurd h n1
      · rw [pf, qf, e1, e2] at h
        injection h with h _
        exact absurd h.symm n2
      · rfl
    rw [hf] at h
    have h := List.append_cancel_left h
    have hh : p.halt_ = q.halt_ := by
      have hc := congrArg (List.count 46) h
      rw [List.count_append, List.count_append, count_ints hp.1, count_ints hq.1] at hc
      cases ph : p.halt_ <;> cases qh : q.halt_
      · rfl
      · rw [ph, qh] at hc; simp at hc
      · rw [ph, qh] at hc; simp at hc
      · rfl
    rw [hh] at h
    exact ⟨hf, ints_inj ((List.append_left_inj _).mp h), hh⟩
  · rintro ⟨h1, h2, h3⟩
    unfold encP
    rw [h1, h2, h3]
/-! ### tokens seen -/
theorem here_eq (l : Toks) : here (l.map tkOf) = ((VahypBase.here l : Nat) : Int) := by cases l <;> rfl
theorem ToksOk.tail {t : VahypBase.PTok} {r : Toks} (h : ToksOk (t :: r)) (hn : t.tok ≠ .last) : ToksOk r := by
  obtain ⟨⟨i, p, e⟩, h2⟩ := h
  refine ⟨?_, fun x hx => h2 x (List.mem_cons_of_mem _ hx)⟩
  cases i with
  | nil =>
    injection e with e1 e2
    rw [e1] at hn
    exact absurd rfl hn
  | cons y ys =>
    injection e with e1 e2
    exact ⟨ys, p, e2⟩
theorem ToksOk.ne {l : Toks} (h : ToksOk l) : l ≠ [] := by
  obtain ⟨⟨i, p, e⟩, _⟩ := h
  rw [e]
  simp
theorem chunk_no {w : Bytes} (h : TokOk (.chunk w)) : bints w ≠ [] ∧ bints w ≠ [59] := by
  obtain ⟨h1, h2⟩ := h
  refine ⟨fun z => h1 (ints_inj (z.trans rfl)), fun z => ?_⟩
  have : w = [59] := ints_inj (z.trans rfl)
  rw [this] at h2
  exact absurd h2 (by decide)
theorem at_word {W : Bytes} (hW : bints W ≠ [] ∧ bints W ≠ [59]) {l : Toks} (h : ∀ t ∈ l, TokOk t.tok) : isAt (bints W) (l.map tkOf) = VahypBase.next (.chunk W) l := by
  cases l with
  | nil =>
    show decide (([] : Ns) = bints W) = false
    exact decide_eq_false (fun z => hW.1 z.symm)
  | cons t r =>
    have ht := h t List.mem_cons_self
    show decide (tkN t.tok = bints W) = VahypBase.tokEq t.tok (.chunk W)
    cases hk : t.tok with
    | chunk w =>
      show decide (bints w = bints W) = (w == W)
      by_cases e : w = W
      · rw [e, decide_eq_true rfl, beq_self_eq_true]
      · rw [decide_eq_false (fun z => e (ints_inj z))]
        symm
        exact beq_eq_false_iff_ne.mpr e
    | sign c =>
      rw [hk] at ht
      have hc : c = 59 := ht
      subst hc
      exact decide_eq_false (fun z => hW.2 z.symm)
    | last => exact decide_eq_false (fun z => hW.1 z.symm)
theorem at_sign {l : Toks} (h : ∀ t ∈ l, TokOk t.tok) : isAt [59] (l.map tkOf) = VahypBase.next (.sign 59) l := by
  cases l with
  | nil => rfl
  | cons t r =>
    have ht := h t List.mem_cons_self
    show decide (tkN t.tok = [59]) = VahypBase.tokEq t.tok (.sign 59)
    cases hk : t.tok with
    | chunk w =>
      rw [hk] at ht
      exact decide_eq_false (chunk_no ht).2
    | sign c =>
      rw [hk] at ht
      have hc : c = 59 := ht
      subst hc
      rfl
    | last => rfl
theorem at_last {l : Toks} (h : ToksOk l) : isAt [] (l.map tkOf) = VahypBase.next .last l := by
  cases l with
  | nil => exact absurd rfl h.ne
  | cons t r =>
    have ht := h.2 t List.mem_cons_self
    show decide (tkN t.tok = []) = VahypBase.tokEq t.tok .last
    cases hk : t.tok with
    | chunk w =>
      rw [hk] at ht
      exact decide_eq_false (chunk_no ht).1
    | sign c => rfl
    | last => rfl
theorem pass_eq {W : Ns} {t : VahypBase.Tok} {l : Toks} (h : isAt W (l.map tkOf) = VahypBase.next t l) : passOver W (l.map tkOf) = resOf (fun r : Toks => r.map tkOf) (VahypBase.taken t l) := by
  unfold passOver VahypBase.taken
  rw [h]
  split
  · cases l <;> rfl
  · show _ = Except.error _
    rw [here_eq]
    rfl
theorem take_eq {l : Toks} (h : ∀ t ∈ l, TokOk t.tok) : takeChunk (l.map tkOf) = resOf (fun x : Nat × Bytes × Toks => (bints x.2.1, x.2.2.map tkOf)) (VahypBase.takeChunk l) := by
  cases l with
  | nil => rfl
  | cons t r =>
    have ht := h t List.mem_cons_self
    obtain ⟨p, k⟩ := t
    unfold takeChunk
    cases k with
    | chunk w =>
      have hn := chunk_no ht
      exact if_neg (fun z => z.elim hn.1 hn.2)
    | sign c =>
      have hc : c = 59 := ht
      subst hc
      exact if_pos (.inr rfl)
    | last => exact if_pos (.inl rfl)
theorem take_place {l : Toks} {p : Nat} {c : Bytes} {r : Toks} (h : VahypBase.takeChunk l = .ok (p, c, r)) : p = VahypBase.here l ∧ ∃ t, l = t :: r ∧ t.tok = .chunk c := by
  unfold VahypBase.takeChunk at h
  split at h
  · injection h with h
    injection h with h1 h2
    injection h2 with h2 h3
    subst h1 h2 h3
    exact ⟨rfl, _, rfl, rfl⟩
  · cases h
theorem taken_ok {t : VahypBase.Tok} {l r : Toks} (h : VahypBase.taken t l = .ok r) (hn : t ≠ .last) : ∃ x, l = x :: r ∧ x.tok ≠ .last := by
  unfold VahypBase.taken at h
  split at h
  · rename_i hx
    injection h with h
    cases l with
    | nil => cases hx
    | cons x y =>
      refine ⟨x, by rw [← h]; rfl, fun z => ?_⟩
      have hx : VahypBase.tokEq x.tok t = true := hx
      rw [z] at hx
      cases t <;> first | exact hn rfl | cases hx
  · cases h
theorem marg_eq {l : Toks} (h : ToksOk l) : readMargin (l.map tkOf) = resOf (fun x : Nat × Toks => ((x.1 : Int), x.2.map tkOf)) (Vahypa.takeMargin l) := by
  unfold readMargin Vahypa.takeMargin
  rw [take_eq h.2]
  cases e : VahypBase.takeChunk l with
  | error f => rfl
  | ok x =>
    obtain ⟨p, c, r⟩ := x
    obtain ⟨hp, _⟩ := take_place e
    show (match marginOf (bints c) with
      | none => Except.error (7, here (l.map tkOf))
      | some m => Except.ok (m, r.map tkOf)) = resOf _ (match c with
      | [b] => if VahypBase.isDigit b = true ∧ b.toNat - 48 ≤ Vahypa.MARGIN then .ok (b.toNat - 48, r) else .error ⟨7, p⟩
      | _ => .error ⟨7, p⟩)
    rw [here_eq, ← hp]
    match c with
    | [] => rfl
    | [b] =>
      show (match (if 48 ≤ (b.toNat : Int) ∧ (b.toNat : Int) ≤ 53 then some ((b.toNat : Int) - 48) else none) with
        | none => Except.error (7, ((p : Nat) : Int))
        | some m => Except.ok (m, r.map tkOf)) = resOf _ (if VahypBase.isDigit b = true ∧ b.toNat - 48 ≤ 5 then .ok (b.toNat - 48, r) else .error ⟨7, p⟩)
      have hiff : (VahypBase.isDigit b = true ∧ b.toNat - 48 ≤ 5) ↔ (48 ≤ (b.toNat : Int) ∧ (b.toNat : Int) ≤ 53) := by
        rw [← digit_eq, isd]
        omega
      by_cases hc : 48 ≤ (b.toNat : Int) ∧ (b.toNat : Int) ≤ 53
      · rw [if_pos hc, if_pos (hiff.mpr hc)]
        show Except.ok _ = Except.ok _
        rw [show (b.toNat : Int) - 48 = ((b.toNat - 48 : Nat) : Int) from by omega]
      · rw [if_neg hc, if_neg (fun z => hc (hiff.mp z))]
        rfl
    | a :: b :: s => rfl
end PM
set_option Elab.async false
set_option linter.all false
/-! # The mirror is the specification: a list read, to its end -/
namespace PM
open VahypBase (Bytes Toks)
theorem marg_ok {l : Toks} (h : ToksOk l) {m : Nat} {r : Toks} (e : Vahypa.takeMargin l = .ok (m, r)) : ToksOk r := by
  unfold Vahypa.takeMargin at e
  cases ht : VahypBase.takeChunk l with
  | error f => rw [ht] at e; cases e
  | ok x =>
    obtain ⟨p, c, r'⟩ := x
    rw [ht] at e
    obtain ⟨_, t, rfl, htc⟩ := take_place ht
    have hr : ToksOk r' := h.tail (by rw [htc]; intro z; cases z)
    simp only [Except.bind] at e
    split at e
    · split at e
      · injection e with e
        injection e with e1 e2
        rw [← e2]
        exact hr
      · cases e
    · cases e
theorem dget_words (ws : List Vahypa.Word) (w : Vahypa.Word) : (dget (ws.map encW) (encW w).1).isSome = ws.any fun v => v.x == w.x := by
  unfold dget
  rw [Option.isSome_map]
  induction ws with
  | nil => rfl
  | cons v r ih =>
    rw [List.map_cons, List.find?_cons, List.any_cons]
    by_cases h : v.x = w.x
    · have h1 : decide ((encW v).1 = (encW w).1) = true := decide_eq_true (encW_key.mpr h)
      rw [h1, h, beq_self_eq_true, Bool.true_or]
      rfl
    · have h1 : decide ((encW v).1 = (encW w).1) = false := decide_eq_false (fun z => h (encW_key.mp z))
      rw [h1, beq_eq_false_iff_ne.mpr h, Bool.false_or]
      exact ih
def samePat (p q : Vahypa.Pat) : Bool := q.x == p.x && (q.front == p.front && q.halt_ == p.halt_)
theorem samePat_iff {p q : Vahypa.Pat} : samePat p q = true ↔ (q.front = p.front ∧ q.x = p.x ∧ q.halt_ = p.halt_) := by
  unfold samePat
  rw [Bool.and_eq_true, Bool.and_eq_true, beq_iff_eq, beq_iff_eq, beq_iff_eq]
  exact ⟨fun ⟨a, b, c⟩ => ⟨b, a, c⟩, fun ⟨a, b, c⟩ => ⟨b, a, c⟩⟩
theorem dget_pats {ps : List Vahypa.Pat} (hps : ∀ q ∈ ps, PGood q) {p : Vahypa.Pat} (hp : PGood p) : (dget (ps.map encP) (encP p).1).isSome = ps.any (samePat p) := by
  unfold dget
  rw [Option.isSome_map]
  induction ps with
  | nil => rfl
  | cons v r ih =>
    have hv := hps v List.mem_cons_self
    have ih := ih fun q hq => hps q (List.mem_cons_of_mem _ hq)
    rw [List.map_cons, List.find?_cons, List.any_cons]
    by_cases h : samePat p v = true
    · have h1 : decide ((encP v).1 = (encP p).1) = true := decide_eq_true ((encP_key hv hp).mpr (samePat_iff.mp h))
      rw [h1, h, Bool.true_or]
      rfl
    · have h1 : decide ((encP v).1 = (encP p).1) = false := decide_eq_false (fun z => h (samePat_iff.mpr ((encP_key hv hp).mp z)))
      have h2 : samePat p v = false := by simpa using h
      rw [h1, h2, Bool.false_or]
      exact ih
theorem dput_fresh {d : Dict} {e : Ns × Ns} (h : (dget d e.1).isSome = false) : dput d e.1 e.2 = d ++ [e] := by
  refine dput_new fun x hx z => ?_
  unfold dget at h
  rw [Option.isSome_map] at h
  have hs : (d.find? fun y => decide (y.1 = e.1)).isSome = true := List.find?_isSome.mpr ⟨x, hx, by simpa using z⟩
  rw [h] at hs
  cases hs
theorem w_word : bints (VahypBase.word "word") = sWord := by decide +kernel
theorem w_pattern : bints (VahypBase.word "pattern") = sPattern := by decide +kernel
theorem w_margins : bints (VahypBase.word "margins") = sMargins := by decide +kernel
theorem no_word : bints (VahypBase.word "word") ≠ [] ∧ bints (VahypBase.word "word") ≠ [59] := by rw [w_word]; decide
theorem no_pattern : bints (VahypBase.word "pattern") ≠ [] ∧ bints (VahypBase.word "pattern") ≠ [59] := by rw [w_pattern]; decide
theorem no_margins : bints (VahypBase.word "margins") ≠ [] ∧ bints (VahypBase.word "margins") ≠ [59] := by rw [w_margins]; decide
theorem words_eq : ∀ (n m : Nat) (ws : List Vahypa.Word) (l : Toks), l.length ≤ n → l.length < m → ToksOk l → ws.length ≤ 24 →
    readNamed sWord 24 wordOf n (ws.map encW) (l.map tkOf) = resOf (fun x : List Vahypa.Word × Toks => (x.1.map encW, x.2.map tkOf)) (Vahypa.takeWords m ws l) ∧ ∀ ws' r, Vahypa.takeWords m ws l = .ok (ws', r) → ToksOk r ∧ r.length ≤ l.length ∧ ws'.length ≤ 24
  | 0, m, ws, l, hn, hm, hl, hw => absurd (List.length_pos_iff.mpr hl.ne) (by omega)
  | n + 1, 0, ws, l, hn, hm, hl, hw => absurd hm (Nat.not_lt_zero _)
  | n + 1, m + 1, ws, l, hn, hm, hl, hw => by
    have hat : isAt sWord (l.map tkOf) = VahypBase.nextWord "word" l := by
      rw [← w_word]
      exact at_word no_word hl.2
    unfold readNamed Vahypa.takeWords
    rw [hat]
    by_cases h1 : VahypBase.nextWord "word" l = true
    · rw [if_pos h1, if_pos h1, List.length_map]
      by_cases h2 : ws.length = 24
      · rw [if_pos h2, if_pos (show Vahypa.WORDS ≤ ws.length by rw [h2]; decide), here_eq]
        exact ⟨rfl, fun _ _ z => by cases z⟩
      · rw [if_neg h2, if_neg (show ¬ Vahypa.WORDS ≤ ws.length from fun z => h2 (by have : 24 ≤ ws.length := z; omega))]
        obtain ⟨x, hx, hxl⟩ := taken_ok (t := .chunk (VahypBase.word "word")) (l := l) (r := l.drop 1) (if_pos h1) (fun z => nomatch z)
        have hl1 : ToksOk (l.drop 1) := (hx ▸ hl).tail hxl
        have htl : (l.map tkOf).tail = (l.drop 1).map tkOf := by rw [hx]; rfl
        have hlen1 : l.length = (l.drop 1).length + 1 := by
          have := congrArg List.length hx
          rw [List.length_cons] at this
          exact this
        rw [htl]
        unfold readOne
        rw [take_eq hl1.2]
        cases ht : VahypBase.takeChunk (l.drop 1) with
        | error f => exact ⟨rfl, fun _ _ z => by cases z⟩
        | ok y =>
          obtain ⟨p, c, r⟩ := y
          obtain ⟨hp, t, ht1, ht2⟩ := take_place ht
          have hr : ToksOk r := by
            rw [ht1] at hl1
            exact hl1.tail (by rw [ht2]; intro z; cases z)
          have hlen2 : (l.drop 1).length = r.length + 1 := by rw [ht1, List.length_cons]
          simp only [resOf, Except.bind]
          rw [word_eq]
          cases hwo : Vahypa.wordOf c with
          | none =>
            simp only [Option.map]
            rw [here_eq, ← hp]
            exact ⟨rfl, fun _ _ z => by cases z⟩
          | some w =>
            simp only [Option.map]
            have hd := dget_words ws w
            by_cases h3 : (ws.any fun v => v.x == w.x) = true
            · rw [if_pos h3, if_pos (by rw [hd]; exact h3), here_eq, ← hp]
              exact ⟨rfl, fun _ _ z => by cases z⟩
            · have h3' : (ws.any fun v => v.x == w.x) = false := by simpa using h3
              rw [if_neg h3, if_neg (by rw [hd]; exact h3)]
              rw [pass_eq (t := .sign 59) (at_sign hr.2)]
              show (match (match resOf (fun r : Toks => r.map tkOf) (VahypBase.taken (.sign 59) r) with
                | .error f => Except.error f
                | .ok r2 => Except.ok (dput (ws.map encW) (encW w).1 (encW w).2, r2)) with
                | .error f => Except.error f
                | .ok (k2, r) => readNamed sWord 24 wordOf n k2 r) = resOf _ ((VahypBase.taken (.sign 59) r).bind fun m' => Vahypa.takeWords m (ws ++ [w]) m') ∧ ∀ ws' r', ((VahypBase.taken (.sign 59) r).bind fun m' => Vahypa.takeWords m (ws ++ [w]) m') = .ok (ws', r') → ToksOk r' ∧ r'.length ≤ l.length ∧ ws'.length ≤ 24
              cases hs : VahypBase.taken (.sign 59) r with
              | error f => exact ⟨rfl, fun _ _ z => by cases z⟩
              | ok r2 =>
                obtain ⟨y, hy, hyl⟩ := taken_ok hs (fun z => nomatch z)
                have hr2 : ToksOk r2 := (hy ▸ hr).tail hyl
                have hlen3 : r.length = r2.length + 1 := by rw [hy, List.length_cons]
                have e4 : dput (ws.map encW) (encW w).1 (encW w).2 = (ws ++ [w]).map encW := by
                  rw [dput_fresh (by rw [hd]; exact h3'), List.map_append]
                  rfl
                show readNamed sWord 24 wordOf n (dput (ws.map encW) (encW w).1 (encW w).2) (r2.map tkOf) = resOf _ (Vahypa.takeWords m (ws ++ [w]) r2) ∧ ∀ ws' r', Vahypa.takeWords m (ws ++ [w]) r2 = .ok (ws', r') → ToksOk r' ∧ r'.length ≤ l.length ∧ ws'.length ≤ 24
                rw [e4]
                have hz := words_eq n m (ws ++ [w]) r2 (by omega) (by omega) hr2 (by rw [List.length_append]; show ws.length + 1 ≤ 24; omega)
                exact ⟨hz.1, fun ws' r' z => ⟨(hz.2 ws' r' z).1, Nat.le_trans (hz.2 ws' r' z).2.1 (by omega), (hz.2 ws' r' z).2.2⟩⟩
    · rw [if_neg h1, if_neg h1]
      exact ⟨rfl, fun ws' r z => by injection z with z; injection z with z1 z2; rw [← z2, ← z1]; exact ⟨hl, Nat.le_refl _, hw⟩⟩
/-- what listOf makes of the patterns' reading -/
def endP (r : Except Flt (Dict × List Tk)) : Except Flt Dict := match r with
  | .error f => .error f
  | .ok (ps, l6) => if isAt [] l6 = true then .ok ps else .error (3, here l6)
theorem pats_eq : ∀ (n m : Nat) (ps : List Vahypa.Pat) (l : Toks), l.length ≤ n → l.length < m → ToksOk l → ps.length ≤ 40 → (∀ q ∈ ps, PGood q) →
    endP (readNamed sPattern 40 patternOf n (ps.map encP) (l.map tkOf)) = resOf (fun x : List Vahypa.Pat => x.map encP) (Vahypa.takePats m ps l) ∧ ∀ ps', Vahypa.takePats m ps l = .ok ps' → ∀ q ∈ ps', PGood q
  | 0, m, ps, l, hn, hm, hl, hw, hg => absurd (List.length_pos_iff.mpr hl.ne) (by omega)
  | n + 1, 0, ps, l, hn, hm, hl, hw, hg => absurd hm (Nat.not_lt_zero _)
  | n + 1, m + 1, ps, l, hn, hm, hl, hw, hg => by
    have hat : isAt sPattern (l.map tkOf) = VahypBase.nextWord "pattern" l := by
      rw [← w_pattern]
      exact at_word no_pattern hl.2
    unfold readNamed Vahypa.takePats
    rw [hat]
    by_cases h0 : VahypBase.next .last l = true
    · have h1 : ¬ VahypBase.nextWord "pattern" l = true := fun z => by
        cases l with
        | nil => cases h0
        | cons t r =>
          have h0 : VahypBase.tokEq t.tok .last = true := h0
          have z : VahypBase.tokEq t.tok (.chunk (VahypBase.word "pattern")) = true := z
          cases hk : t.tok <;> rw [hk] at h0 z <;> first | exact absurd h0 Bool.false_ne_true | exact absurd z Bool.false_ne_true
      rw [if_neg h1, if_pos h0]
      unfold endP
      dsimp only
      rw [if_pos (by rw [at_last hl]; exact h0)]
      exact ⟨rfl, fun ps' z => by injection z with z; rw [← z]; exact hg⟩
    · rw [if_neg h0]
      by_cases h1 : VahypBase.nextWord "pattern" l = true
      · have ht0 : VahypBase.takeWord "pattern" l = .ok (l.drop 1) := if_pos h1
        rw [if_pos h1, ht0, List.length_map]
        show endP _ = resOf _ (if Vahypa.PATS ≤ ps.length then .error ⟨4, VahypBase.here l⟩ else _) ∧ _
        by_cases h2 : ps.length = 40
        · rw [if_pos h2, here_eq]
          simp only [Except.bind]
          rw [if_pos (show Vahypa.PATS ≤ ps.length by rw [h2]; decide)]
          exact ⟨rfl, fun _ z => by cases z⟩
        · rw [if_neg h2]
          simp only [Except.bind]
          rw [if_neg (show ¬ Vahypa.PATS ≤ ps.length from fun z => h2 (by have : 40 ≤ ps.length := z; omega))]
          obtain ⟨x, hx, hxl⟩ := taken_ok (t := .chunk (VahypBase.word "pattern")) (l := l) (r := l.drop 1) (if_pos h1) (fun z => nomatch z)
          have hl1 : ToksOk (l.drop 1) := (hx ▸ hl).tail hxl
          have htl : (l.map tkOf).tail = (l.drop 1).map tkOf := by rw [hx]; rfl
          have hlen1 : l.length = (l.drop 1).length + 1 := by
            have := congrArg List.length hx
            rw [List.length_cons] at this
            exact this
          rw [htl]
          unfold readOne
          rw [take_eq hl1.2]
          cases ht : VahypBase.takeChunk (l.drop 1) with
          | error f => exact ⟨rfl, fun _ z => by cases z⟩
          | ok y =>
            obtain ⟨p, c, r⟩ := y
            obtain ⟨hp, t, ht1, ht2⟩ := take_place ht
            have hr : ToksOk r := by
              rw [ht1] at hl1
              exact hl1.tail (by rw [ht2]; intro z; cases z)
            have hlen2 : (l.drop 1).length = r.length + 1 := by rw [ht1, List.length_cons]
            simp only [resOf]
            rw [pat_eq]
            cases hwo : Vahypa.patOf c with
            | none =>
              simp only [Option.map]
              rw [here_eq, ← hp]
              exact ⟨rfl, fun _ z => by cases z⟩
            | some w =>
              have hwg := pat_good hwo
              simp only [Option.map]
              have hd := dget_pats hg hwg
              by_cases h3 : ps.any (samePat w) = true
              · rw [if_pos (show (ps.any fun q => q.x == w.x && (q.front == w.front && q.halt_ == w.halt_)) = true from h3)]
                have hdd : (if (dget (ps.map encP) (encP w).1).isSome = true then (Except.error (5, here ((l.drop 1).map tkOf)) : Except Flt (Dict × List Tk)) else match passOver [59] (r.map tkOf) with
                  | .error f => .error f
                  | .ok r2 => .ok (dput (ps.map encP) (encP w).1 (encP w).2, r2)) = Except.error (5, here ((l.drop 1).map tkOf)) := if_pos (hd.trans h3)
                show endP (match (if (dget (ps.map encP) (encP w).1).isSome = true then (Except.error (5, here ((l.drop 1).map tkOf)) : Except Flt (Dict × List Tk)) else match passOver [59] (r.map tkOf) with
                  | .error f => .error f
                  | .ok r2 => .ok (dput (ps.map encP) (encP w).1 (encP w).2, r2)) with
                  | .error f => Except.error f
                  | .ok (k2, r) => readNamed sPattern 40 patternOf n k2 r) = _ ∧ _
                rw [hdd, here_eq, ← hp]
                exact ⟨rfl, fun _ z => by cases z⟩
              · have h3' : ps.any (samePat w) = false := by simpa using h3
                rw [if_neg (show ¬ (ps.any fun q => q.x == w.x && (q.front == w.front && q.halt_ == w.halt_)) = true from h3)]
                have hd2 : ¬ (dget (ps.map encP) (encP w).1).isSome = true := by rw [hd]; exact h3
                have hdd : (if (dget (ps.map encP) (encP w).1).isSome = true then (Except.error (5, here ((l.drop 1).map tkOf)) : Except Flt (Dict × List Tk)) else match passOver [59] (r.map tkOf) with
                  | .error f => .error f
                  | .ok r2 => .ok (dput (ps.map encP) (encP w).1 (encP w).2, r2)) = match passOver [59] (r.map tkOf) with
                  | .error f => .error f
                  | .ok r2 => .ok (dput (ps.map encP) (encP w).1 (encP w).2, r2) := if_neg hd2
                show endP (match (if (dget (ps.map encP) (encP w).1).isSome = true then (Except.error (5, here ((l.drop 1).map tkOf)) : Except Flt (Dict × List Tk)) else match passOver [59] (r.map tkOf) with
                  | .error f => .error f
                  | .ok r2 => .ok (dput (ps.map encP) (encP w).1 (encP w).2, r2)) with
                  | .error f => Except.error f
                  | .ok (k2, r) => readNamed sPattern 40 patternOf n k2 r) = resOf _ ((VahypBase.taken (.sign 59) r).bind fun m' => Vahypa.takePats m (ps ++ [w]) m') ∧ ∀ ps', ((VahypBase.taken (.sign 59) r).bind fun m' => Vahypa.takePats m (ps ++ [w]) m') = .ok ps' → ∀ q ∈ ps', PGood q
                rw [hdd, pass_eq (t := .sign 59) (at_sign hr.2)]
                cases hs : VahypBase.taken (.sign 59) r with
                | error f => exact ⟨rfl, fun _ z => by cases z⟩
                | ok r2 =>
                  obtain ⟨y, hy, hyl⟩ := taken_ok hs (fun z => nomatch z)
                  have hr2 : ToksOk r2 := (hy ▸ hr).tail hyl
                  have hlen3 : r.length = r2.length + 1 := by rw [hy, List.length_cons]
                  have e4 : dput (ps.map encP) (encP w).1 (encP w).2 = (ps ++ [w]).map encP := by
                    rw [dput_fresh (by rw [hd]; exact h3'), List.map_append]
                    rfl
                  show endP (readNamed sPattern 40 patternOf n (dput (ps.map encP) (encP w).1 (encP w).2) (r2.map tkOf)) = resOf _ (Vahypa.takePats m (ps ++ [w]) r2) ∧ ∀ ps', Vahypa.takePats m (ps ++ [w]) r2 = .ok ps' → ∀ q ∈ ps', PGood q
                  rw [e4]
                  refine pats_eq n m (ps ++ [w]) r2 (by omega) (by omega) hr2 (by rw [List.length_append]; show ps.length + 1 ≤ 40; omega) fun q hq => ?_
                  rcases List.mem_append.mp hq with z | z
                  · exact hg q z
                  · rw [List.mem_singleton.mp z]; exact hwg
      · have ht0 : VahypBase.takeWord "pattern" l = VahypBase.wrong l := if_neg h1
        rw [if_neg h1, ht0]
        unfold endP
        dsimp only
        rw [if_neg (by rw [at_last hl]; exact h0), here_eq]
        exact ⟨rfl, fun _ z => by cases z⟩
def encL (s : Vahypa.Lst) : Held := ⟨(s.l : Int), (s.r : Int), s.words.map encW, s.pats.map encP⟩
theorem read_eq (b : Bytes) : listOf (bints b) = resOf encL (Vahypa.read b) ∧ ∀ s, Vahypa.read b = .ok s → ∀ q ∈ s.pats, PGood q := by
  unfold listOf Vahypa.read VahypBase.tokens
  rw [ints_len]
  by_cases h0 : 4096 < b.length
  · rw [if_pos h0, if_pos (show VahypBase.TEXT < b.length from h0)]
    exact ⟨rfl, fun _ z => by cases z⟩
  rw [if_neg h0, if_neg (show ¬ VahypBase.TEXT < b.length from h0)]
  have ht : tokensOf (bints b) = resOf (fun l : Toks => l.map tkOf) (VahypBase.lex (b.length + 1) 0 b) := by
    unfold tokensOf
    rw [ints_len]
    exact lex_eq (b.length + 1) 0 b
  rw [ht]
  cases hx : VahypBase.lex (b.length + 1) 0 b with
  | error f => exact ⟨rfl, fun _ z => by cases z⟩
  | ok l =>
  have hl := lex_ok _ _ _ hx
  simp only [resOf, Except.bind]
  unfold parse
  rw [← w_margins, pass_eq (t := .chunk (VahypBase.word "margins")) (at_word no_margins hl.2)]
  show (match resOf (fun r : Toks => r.map tkOf) (VahypBase.takeWord "margins" l) with
    | .error f => _
    | .ok l1 => _) = _ ∧ _
  cases h1 : VahypBase.takeWord "margins" l with
  | error f => exact ⟨rfl, fun _ z => by cases z⟩
  | ok l1 =>
  obtain ⟨x1, hx1, hxl1⟩ := taken_ok h1 (fun z => nomatch z)
  have hl1 : ToksOk l1 := (hx1 ▸ hl).tail hxl1
  simp only [resOf]
  rw [marg_eq hl1]
  cases h2 : Vahypa.takeMargin l1 with
  | error f => exact ⟨rfl, fun _ z => by cases z⟩
  | ok a =>
  obtain ⟨a, l2⟩ := a
  have hl2 := marg_ok hl1 h2
  simp only [resOf]
  rw [marg_eq hl2]
  cases h3 : Vahypa.takeMargin l2 with
  | error f => exact ⟨rfl, fun _ z => by cases z⟩
  | ok z =>
  obtain ⟨z, l3⟩ := z
  have hl3 := marg_ok hl2 h3
  simp only [resOf]
  rw [pass_eq (t := .sign 59) (at_sign hl3.2)]
  show (match resOf (fun r : Toks => r.map tkOf) (VahypBase.takeSign 59 l3) with
    | .error f => _
    | .ok l1 => _) = _ ∧ _
  cases h4 : VahypBase.takeSign 59 l3 with
  | error f => exact ⟨rfl, fun _ z => by cases z⟩
  | ok l4 =>
  obtain ⟨x4, hx4, hxl4⟩ := taken_ok h4 (fun z => nomatch z)
  have hl4 : ToksOk l4 := (hx4 ▸ hl3).tail hxl4
  simp only [resOf]
  have hw := words_eq l4.length (l4.length + 1) [] l4 (Nat.le_refl _) (Nat.lt_succ_self _) hl4 (Nat.zero_le _)
  rw [List.length_map, show ([] : Dict) = ([] : List Vahypa.Word).map encW from rfl, hw.1]
  cases h5 : Vahypa.takeWords (l4.length + 1) [] l4 with
  | error f => exact ⟨rfl, fun _ z => by cases z⟩
  | ok ws =>
  obtain ⟨ws, l5⟩ := ws
  have hl5 := hw.2 ws l5 h5
  simp only [resOf]
  have hp := pats_eq l5.length (l4.length + 1) [] l5 (Nat.le_refl _) (by have := hl5.2.1; omega) hl5.1 (Nat.zero_le _) (fun _ z => nomatch z)
  rw [List.length_map]
  have hp1 := hp.1
  unfold endP at hp1
  show (match readNamed sPattern 40 patternOf l5.length [] (l5.map tkOf) with
    | .error f => Except.error f
    | .ok (ps, l6) => if isAt [] l6 = true then Except.ok (⟨(a : Int), (z : Int), ws.map encW, ps⟩ : Held) else .error (3, here l6)) = resOf encL ((Vahypa.takePats (l4.length + 1) [] l5).map fun ps => ⟨a, z, ws, ps⟩) ∧ ∀ s, ((Vahypa.takePats (l4.length + 1) [] l5).map fun ps => (⟨a, z, ws, ps⟩ : Vahypa.Lst)) = .ok s → ∀ q ∈ s.pats, PGood q
  rw [show ([] : List Vahypa.Pat).map encP = ([] : Dict) from rfl] at hp1
  have hp2 := hp.2
  cases hq : Vahypa.takePats (l4.length + 1) [] l5 with
  | error f =>
    rw [hq] at hp1
    refine ⟨?_, fun _ y => by cases y⟩
    cases hm : readNamed sPattern 40 patternOf l5.length [] (l5.map tkOf) with
    | error g => rw [hm] at hp1; injection hp1 with e; rw [e]; rfl
    | ok y =>
      obtain ⟨ps, l6⟩ := y
      rw [hm] at hp1
      dsimp only at hp1 ⊢
      by_cases hz : isAt [] l6 = true
      · rw [if_pos hz] at hp1; cases hp1
      · rw [if_neg hz] at hp1 ⊢; injection hp1 with e; rw [e]; rfl
  | ok qs =>
    rw [hq] at hp1
    refine ⟨?_, fun s y => by injection y with y; rw [← y]; exact hp2 qs hq⟩
    cases hm : readNamed sPattern 40 patternOf l5.length [] (l5.map tkOf) with
    | error g => rw [hm] at hp1; cases hp1
    | ok y =>
      obtain ⟨ps, l6⟩ := y
      rw [hm] at hp1
      dsimp only at hp1 ⊢
      by_cases hz : isAt [] l6 = true
      · rw [if_pos hz] at hp1 ⊢; injection hp1 with e; rw [e]; rfl
      · rw [if_neg hz] at hp1; cases hp1
end PM
set_option Elab.async false
set_option linter.all false
/-! # The mirror is the specification: the level at a gap -/
namespace PM
open VahypBase (Bytes Toks)
def rowB (x : Bytes) : Ns := 46 :: (bints x ++ [46])
theorem rowB_len (x : Bytes) : (rowB x).length = x.length + 2 := by
  unfold rowB
  rw [List.length_cons, List.length_append, ints_len]
  rfl
theorem no46 {x : Bytes} (hx : x.all VahypBase.isLetter = true) : (46 : Int) ∉ bints x := List.count_eq_zero.mp (count_ints hx)
theorem all_drop {x : Bytes} (hx : x.all VahypBase.isLetter = true) (o : Nat) : (x.drop o).all VahypBase.isLetter = true := List.all_eq_true.mpr fun y hy => List.all_eq_true.mp hx y (List.mem_of_mem_drop hy)
theorem all_take {x : Bytes} (hx : x.all VahypBase.isLetter = true) (o : Nat) : (x.take o).all VahypBase.isLetter = true := List.all_eq_true.mpr fun y hy => List.all_eq_true.mp hx y (List.mem_of_mem_take hy)
def edge (h : Bool) : Ns := if h = true then [46] else []
theorem edge_len (h : Bool) : (edge h).length = if h = true then 1 else 0 := by cases h <;> rfl
theorem encP_fst (p : Vahypa.Pat) : (encP p).1 = edge p.front ++ (bints p.x ++ edge p.halt_) := rfl
theorem fit_tail {x : Bytes} (hx : x.all VahypBase.isLetter = true) {p : Vahypa.Pat} (hp : p.x.all VahypBase.isLetter = true ∧ 1 ≤ p.x.length) {o k : Nat} (ho : o ≤ x.length) (hk : k ≤ x.length + 1 - o) :
    ((bints x ++ [46]).drop o).take k = bints p.x ++ edge p.halt_ ↔ (k = p.x.length + (edge p.halt_).length ∧ o + p.x.length ≤ x.length ∧ (x.drop o).take p.x.length = p.x ∧ (p.halt_ = true → o + p.x.length = x.length)) := by
  rw [List.drop_append_of_le_length (by rw [ints_len]; exact ho), ints_drp]
  have hd : (x.drop o).length = x.length - o := List.length_drop ..
  by_cases h : k ≤ (x.drop o).length
  · rw [List.take_append_of_le_length (by rw [ints_len]; exact h), ints_tk]
    cases hh : p.halt_ with
    | true =>
      constructor
      · intro z
        exact absurd (by rw [z]; exact List.mem_append_right _ (List.mem_singleton.mpr rfl)) (no46 (all_take (all_drop hx o) k))
      · rintro ⟨e1, e2, e3, e4⟩
        have := e4 rfl
        rw [show (edge true).length = 1 from rfl] at e1
        omega
    | false =>
      rw [show edge false = [] from rfl, List.append_nil]
      constructor
      · intro z
        have e := ints_inj z
        have hl : k = p.x.length := by
          rw [← e, List.length_take]
          omega
        refine ⟨hl, ?_, by rw [← hl]; exact e, fun y => by cases y⟩
        omega
      · rintro ⟨e1, e2, e3, e4⟩
        rw [show k = p.x.length from e1, e3]
  · have hk' : k = (x.drop o).length + 1 := by omega
    rw [List.take_of_length_le (by rw [List.length_append, ints_len]; show (x.drop o).length + 1 ≤ k; omega)]
    cases hh : p.halt_ with
    | true =>
      rw [show edge true = [46] from rfl]
      constructor
      · intro z
        have e := ints_inj (List.append_cancel_right z)
        have hl : (x.drop o).length = p.x.length := by rw [e]
        refine ⟨by rw [hk', hl]; rfl, by omega, ?_, fun _ => ?_⟩
        · rw [← hl, List.take_length]; exact e
        · have := hp.2; omega
      · rintro ⟨e1, e2, e3, e4⟩
        have := e4 rfl
        rw [List.take_of_length_le (by omega)] at e3
        rw [e3]
    | false =>
      rw [show edge false = [] from rfl, List.append_nil]
      constructor
      · intro z
        exact absurd (by rw [← z]; exact List.mem_append_right _ (List.mem_singleton.mpr rfl)) (no46 hp.1)
      · rintro ⟨e1, e2, e3, e4⟩
        rw [show ([] : Ns).length = 0 from rfl] at e1
        omega
theorem fits_iff {p : Vahypa.Pat} {x : Bytes} {o : Nat} : Vahypa.fitsAt p x o = true ↔ (o + p.x.length ≤ x.length ∧ (x.drop o).take p.x.length = p.x ∧ (p.front = true → o = 0) ∧ (p.halt_ = true → o + p.x.length = x.length)) := by
  unfold Vahypa.fitsAt
  rw [Bool.and_eq_true, Bool.and_eq_true, Bool.and_eq_true, decide_eq_true_iff, beq_iff_eq, Bool.or_eq_true, Bool.or_eq_true, beq_iff_eq, beq_iff_eq]
  cases p.front <;> cases p.halt_ <;> simp
theorem fit_cut {x : Bytes} (hx : x.all VahypBase.isLetter = true) {p : Vahypa.Pat} (hp : p.x.all VahypBase.isLetter = true ∧ 1 ≤ p.x.length) {b e : Nat} (hb : b < e) (he : e ≤ x.length + 2) :
    cut (rowB x) b e = (encP p).1 ↔ (Vahypa.fitsAt p x (b - 1) = true ∧ (p.front = true ↔ b = 0) ∧ e = b + (encP p).1.length) := by
  rw [encP_fst, fits_iff]
  obtain ⟨a, t, hat, ha⟩ := key_front hp.1 hp.2
  have hpl : (bints p.x).length = p.x.length := ints_len _
  match b, hb with
  | 0, hb =>
    unfold cut rowB
    rw [List.drop_zero, show e - 0 = (e - 1) + 1 by omega, List.take_succ_cons]
    cases hf : p.front with
    | false =>
      constructor
      · intro z
        rw [show edge false = [] from rfl, List.nil_append, hat] at z
        injection z with z _
        exact absurd z.symm ha
      · rintro ⟨_, y, _⟩
        exact absurd (y.mpr rfl) Bool.false_ne_true
    | true =>
      rw [show edge true = [46] from rfl, List.cons_append, List.nil_append, List.cons.injEq, List.length_cons, List.length_append, hpl]
      have hz := fit_tail hx hp (o := 0) (k := e - 1) (Nat.zero_le _) (by omega)
      rw [List.drop_zero] at hz
      rw [hz]
      constructor
      · rintro ⟨_, e1, e2, e3, e4⟩
        exact ⟨⟨e2, e3, fun _ => rfl, e4⟩, ⟨fun _ => rfl, fun _ => rfl⟩, by omega⟩
      · rintro ⟨⟨e2, e3, _, e4⟩, _, e1⟩
        exact ⟨rfl, by omega, e2, e3, e4⟩
  | b + 1, hb =>
    unfold cut rowB
    rw [List.drop_succ_cons, Nat.add_sub_cancel]
    cases hf : p.front with
    | true =>
      constructor
      · intro z
        rw [show edge true = [46] from rfl, List.cons_append, List.nil_append] at z
        have hbn : b ≤ x.length := by omega
        rw [List.drop_append_of_le_length (by rw [ints_len]; exact hbn), ints_drp] at z
        by_cases hbl : b < x.length
        · have hne : x.drop b ≠ [] := fun y => by have := List.drop_eq_nil_iff.mp y; omega
          obtain ⟨c, s, hcs⟩ := List.exists_cons_of_ne_nil hne
          rw [hcs, show e - (b + 1) = (e - (b + 1) - 1) + 1 by omega] at z
          have z : (c.toNat : Int) :: _ = _ := z
          injection z with z _
          have hc := List.all_eq_true.mp (all_drop hx b) c (by rw [hcs]; exact List.mem_cons_self)
          have h46 : (46 : Int) ∈ bints (x.drop b) := by rw [hcs]; exact List.mem_map.mpr ⟨c, List.mem_cons_self, z⟩
          exact absurd h46 (no46 (all_drop hx b))
        · have hl := congrArg List.length z
          simp only [List.length_take, List.length_append, ints_len, List.length_drop, List.length_cons, List.length_nil] at hl
          have := hp.2
          omega
      · rintro ⟨_, y, _⟩
        exact absurd (y.mp rfl) (Nat.succ_ne_zero _)
    | false =>
      rw [show edge false = [] from rfl, List.nil_append, List.length_append, hpl]
      have hz := fit_tail hx hp (o := b) (k := e - (b + 1)) (by omega) (by omega)
      rw [hz]
      constructor
      · rintro ⟨e1, e2, e3, e4⟩
        exact ⟨⟨e2, e3, fun y => (by cases y), e4⟩, ⟨fun y => (by cases y), fun y => absurd y (Nat.succ_ne_zero _)⟩, by omega⟩
      · rintro ⟨⟨e2, e3, _, e4⟩, _, e1⟩
        exact ⟨by omega, e2, e3, e4⟩
/-! ## least bounds -/
theorem fold_lub {α : Type} (g : Nat) (m : Int) (F : Ns → α → Ns) (P : α → Prop) (hl : ∀ L a, (F L a).length = L.length) (hF : ∀ L a, g < L.length → ((F L a).getD g 0 ≤ m ↔ (L.getD g 0 ≤ m ∧ P a))) :
    ∀ (l : List α) (L : Ns), g < L.length → ((l.foldl F L).getD g 0 ≤ m ↔ (L.getD g 0 ≤ m ∧ ∀ a ∈ l, P a))
  | [], L, h => ⟨fun z => ⟨z, fun _ y => nomatch y⟩, fun z => z.1⟩
  | a :: r, L, h => by
    rw [List.foldl_cons, fold_lub g m F P hl hF r (F L a) (by rw [hl]; exact h), hF L a h, List.forall_mem_cons, and_assoc]
theorem fold_len {α : Type} (F : Ns → α → Ns) (hl : ∀ L a, (F L a).length = L.length) : ∀ (l : List α) (L : Ns), (l.foldl F L).length = L.length
  | [], L => rfl
  | a :: r, L => by rw [List.foldl_cons, fold_len F hl r, hl]
theorem set_lub {L : Ns} {g j : Nat} {d m : Int} (h : g < L.length) : (L.set j (max (L.getD j 0) d)).getD g 0 ≤ m ↔ (L.getD g 0 ≤ m ∧ (j = g → d ≤ m)) := by
  rw [List.getD_eq_getElem?_getD, List.getElem?_set]
  by_cases hj : j = g
  · rw [if_pos hj, if_pos (by rw [hj]; exact h), Option.getD_some, hj]
    constructor
    · intro z
      exact ⟨by omega, fun _ => by omega⟩
    · rintro ⟨a, b⟩
      have := b rfl
      omega
  · rw [if_neg hj, ← List.getD_eq_getElem?_getD]
    exact ⟨fun z => ⟨z, fun y => absurd y hj⟩, fun z => z.1⟩
theorem raise_len (L : Ns) (s : Nat) (ds : Ns) : (raiseLevels L s ds).length = L.length := fold_len _ (fun L a => List.length_set ..) _ _
theorem raise_lub {L : Ns} {s g : Nat} {ds : Ns} {m : Int} (h : g < L.length) : (raiseLevels L s ds).getD g 0 ≤ m ↔ (L.getD g 0 ≤ m ∧ ∀ i < ds.length, s + i = g → ds.getD i 0 ≤ m) := by
  unfold raiseLevels
  rw [fold_lub g m _ (fun i => s + i = g → ds.getD i 0 ≤ m) (fun L a => List.length_set ..) (fun L a hL => set_lub hL) _ _ h]
  exact and_congr Iff.rfl ⟨fun z i hi => z i (List.mem_range.mpr hi), fun z i hi => z i (List.mem_range.mp hi)⟩
theorem at_len (row : Ns) (D : Dict) (b : Nat) (L : Ns) (k : Nat) : (levelsAt row D b L k).length = L.length := by
  unfold levelsAt
  split
  · rfl
  · exact raise_len _ _ _
theorem at_lub {row : Ns} {D : Dict} {b g k : Nat} {L : Ns} {m : Int} (h : g < L.length) : (levelsAt row D b L k).getD g 0 ≤ m ↔ (L.getD g 0 ≤ m ∧ ∀ ds, dget D (cut row b (b + 1 + k)) = some ds → ∀ i < ds.length, firstGap b + i = g → ds.getD i 0 ≤ m) := by
  unfold levelsAt
  cases hd : dget D (cut row b (b + 1 + k)) with
  | none => exact ⟨fun z => ⟨z, fun _ y => nomatch y⟩, fun z => z.1⟩
  | some ds =>
    rw [raise_lub h]
    exact and_congr Iff.rfl ⟨fun z ds' e => by injection e with e; rw [← e]; exact z, fun z => z ds rfl⟩
theorem from_len (row : Ns) (D : Dict) (L : Ns) (b : Nat) : (levelsFrom row D L b).length = L.length := fold_len _ (at_len row D b) _ _
theorem of_len (row : Ns) (D : Dict) : (levelsOf row D).length = row.length - 1 := by
  unfold levelsOf
  rw [fold_len _ (from_len row D), List.length_replicate]
theorem of_lub {row : Ns} {D : Dict} {g : Nat} {m : Int} (h : g < row.length - 1) : (levelsOf row D).getD g 0 ≤ m ↔ (0 ≤ m ∧ ∀ b < row.length, ∀ k < min (b + 8) row.length - b, ∀ ds, dget D (cut row b (b + 1 + k)) = some ds → ∀ i < ds.length, firstGap b + i = g → ds.getD i 0 ≤ m) := by
  unfold levelsOf
  rw [fold_lub g m _ (fun b => ∀ k < min (b + 8) row.length - b, ∀ ds, dget D (cut row b (b + 1 + k)) = some ds → ∀ i < ds.length, firstGap b + i = g → ds.getD i 0 ≤ m) (from_len row D) (fun L b hL => ?_) _ _ (by rw [List.length_replicate]; exact h)]
  · rw [List.getD_eq_getElem?_getD, List.getElem?_replicate_of_lt h, Option.getD_some]
    exact and_congr Iff.rfl ⟨fun z i hi => z i (List.mem_range.mpr hi), fun z i hi => z i (List.mem_range.mp hi)⟩
  · unfold levelsFrom
    rw [fold_lub g m _ _ (at_len row D b) (fun L a hL => at_lub hL) _ _ hL]
    exact and_congr Iff.rfl ⟨fun z i hi => z i (List.mem_range.mpr hi), fun z i hi => z i (List.mem_range.mp hi)⟩
theorem nfold {α : Type} (f : α → Nat) (m : Nat) : ∀ (l : List α) (a : Nat), (l.foldl (fun m o => Nat.max m (f o)) a) ≤ m ↔ (a ≤ m ∧ ∀ o ∈ l, f o ≤ m)
  | [], a => ⟨fun z => ⟨z, fun _ y => nomatch y⟩, fun z => z.1⟩
  | o :: r, a => by
    rw [List.foldl_cons, nfold f m r, List.forall_mem_cons, ← and_assoc]
    exact and_congr Nat.max_le Iff.rfl
theorem level_lub {ps : List Vahypa.Pat} {x : Bytes} {g m : Nat} : Vahypa.levelAt ps x g ≤ m ↔ ∀ p ∈ ps, ∀ o ≤ x.length, Vahypa.tells p x o g ≤ m := by
  unfold Vahypa.levelAt
  have gen : ∀ (l : List Vahypa.Pat) (a : Nat), (l.foldl (fun m p => (List.range (x.length + 1)).foldl (fun m o => Nat.max m (Vahypa.tells p x o g)) m) a) ≤ m ↔ (a ≤ m ∧ ∀ p ∈ l, ∀ o ≤ x.length, Vahypa.tells p x o g ≤ m) := by
    intro l
    induction l with
    | nil => exact fun a => ⟨fun z => ⟨z, fun _ y => nomatch y⟩, fun z => z.1⟩
    | cons p r ih =>
      intro a
      rw [List.foldl_cons, ih, nfold, List.forall_mem_cons, ← and_assoc]
      refine and_congr (and_congr Iff.rfl ⟨fun z o ho => z o (List.mem_range.mpr (by omega)), fun z o ho => z o (by have := List.mem_range.mp ho; omega)⟩) Iff.rfl
  rw [gen]
  exact ⟨fun z => z.2, fun z => ⟨Nat.zero_le _, z⟩⟩
/-- patterns of a dict: good, and no two with the same letters and edges -/
def PSet (ps : List Vahypa.Pat) : Prop := (∀ q ∈ ps, PGood q) ∧ ps.Pairwise fun p q => samePat q p = false
theorem dget_mem_iff {ps : List Vahypa.Pat} (h : PSet ps) {k ds : Ns} : dget (ps.map encP) k = some ds ↔ ∃ p ∈ ps, encP p = (k, ds) := by
  constructor
  · intro z
    unfold dget at z
    cases hf : (ps.map encP).find? fun e => decide (e.1 = k) with
    | none => rw [hf] at z; cases z
    | some e =>
      rw [hf] at z
      injection z with z
      obtain ⟨p, hp, hpe⟩ := List.mem_map.mp (List.mem_of_find?_eq_some hf)
      have hk : e.1 = k := by simpa using List.find?_some hf
      refine ⟨p, hp, ?_⟩
      rw [hpe, ← hk, ← z]
  · rintro ⟨p, hp, hpe⟩
    obtain ⟨hg, hpw⟩ := h
    unfold dget
    induction ps with
    | nil => cases hp
    | cons v r ih =>
      rw [List.map_cons, List.find?_cons]
      rcases List.mem_cons.mp hp with hv | hr
      · subst hv
        rw [hpe]
        have : decide (k = k) = true := decide_eq_true rfl
        rw [this]
        rfl
      · have hvk : decide ((encP v).1 = k) = false := by
          refine decide_eq_false fun z => ?_
          have hs := (List.pairwise_cons.mp hpw).1 p hr
          have hk : (encP v).1 = (encP p).1 := by rw [z, hpe]
          have := samePat_iff.mpr ((encP_key (hg v List.mem_cons_self) (hg p hp)).mp hk)
          rw [hs] at this
          cases this
        rw [hvk]
        exact ih hr (fun q hq => hg q (List.mem_cons_of_mem _ hq)) (List.pairwise_cons.mp hpw).2
theorem nint_getD (l : List Nat) (i : Nat) : (nint l).getD i 0 = ((l[i]?.getD 0 : Nat) : Int) := by
  unfold nint
  rw [List.getD_eq_getElem?_getD, List.getElem?_map]
  cases l[i]? <;> rfl
theorem level_eq {ps : List Vahypa.Pat} (h : PSet ps) {x : Bytes} (hx : x.all VahypBase.isLetter = true) {g : Nat} (hg : g ≤ x.length) : (levelsOf (rowB x) (ps.map encP)).getD g 0 = (Vahypa.levelAt ps x g : Int) := by
  have hrl := rowB_len x
  have key : ∀ m : Int, (levelsOf (rowB x) (ps.map encP)).getD g 0 ≤ m ↔ (Vahypa.levelAt ps x g : Int) ≤ m := by
    intro m
    rw [of_lub (by rw [hrl]; omega)]
    by_cases hm : 0 ≤ m
    · rw [show ((Vahypa.levelAt ps x g : Int) ≤ m) ↔ Vahypa.levelAt ps x g ≤ m.toNat by omega, level_lub]
      constructor
      · rintro ⟨_, z⟩ p hp o ho
        unfold Vahypa.tells
        by_cases hf : Vahypa.fitsAt p x o = true ∧ o ≤ g
        · rw [if_pos hf]
          obtain ⟨hf, hog⟩ := hf
          have hpg := h.1 p hp
          obtain ⟨f1, f2, f3, f4⟩ := fits_iff.mp hf
          have hb : ∃ b : Nat, b - 1 = o ∧ (p.front = true ↔ b = 0) ∧ b ≤ o + 1 ∧ b + (edge p.front).length = o + 1 := by
            cases hfr : p.front with
            | true => exact ⟨0, by rw [f3 hfr], by simp, by omega, by rw [f3 hfr]; rfl⟩
            | false => exact ⟨o + 1, rfl, by simp, by omega, rfl⟩
          obtain ⟨b, hb1, hb2, hb3, hb4⟩ := hb
          have hlen : (encP p).1.length = (edge p.front).length + (p.x.length + (edge p.halt_).length) := by
            rw [encP_fst, List.length_append, List.length_append, ints_len]
          have h8 : (edge p.front).length ≤ 1 ∧ (edge p.halt_).length ≤ 1 := ⟨by cases p.front <;> decide, by cases p.halt_ <;> decide⟩
          have hend : o + p.x.length + (edge p.halt_).length ≤ x.length + 1 := by
            cases hh : p.halt_ with
            | true => have := f4 hh; rw [show (edge true).length = 1 from rfl]; omega
            | false => rw [show (edge false).length = 0 from rfl]; omega
          have h1 := hpg.2.1
          have h6 := hpg.2.2.1
          have hc := (fit_cut hx ⟨hpg.1, hpg.2.1⟩ (b := b) (e := b + (encP p).1.length) (by omega) (by omega)).mpr ⟨by rw [hb1]; exact hf, hb2, rfl⟩
          have hz := z b (by omega) ((encP p).1.length - 1) (by omega) (nint p.levels) (by
            rw [show b + 1 + ((encP p).1.length - 1) = b + (encP p).1.length by omega, hc]
            exact (dget_mem_iff h).mpr ⟨p, hp, rfl⟩)
          by_cases hgl : g - o < p.levels.length
          · have hzz := hz (g - o) (by rw [nint_len]; exact hgl) (by unfold firstGap; omega)
            rw [nint_getD] at hzz
            omega
          · rw [List.getElem?_eq_none (by omega)]
            exact Nat.zero_le _
        · rw [if_neg hf]
          exact Nat.zero_le _
      · intro z
        refine ⟨hm, fun b hb k hk ds hds i hi hig => ?_⟩
        obtain ⟨p, hp, hpe⟩ := (dget_mem_iff h).mp hds
        have hpg := h.1 p hp
        have hc : cut (rowB x) b (b + 1 + k) = (encP p).1 := by rw [hpe]
        have hf := (fit_cut hx ⟨hpg.1, hpg.2.1⟩ (by omega) (by omega)).mp hc
        have hzz := z p hp (b - 1) (by omega)
        unfold firstGap at hig
        unfold Vahypa.tells at hzz
        rw [if_pos ⟨hf.1, by omega⟩, show g - (b - 1) = i by omega] at hzz
        have hd : ds = nint p.levels := by rw [show ds = (encP p).2 by rw [hpe]]; rfl
        rw [hd, nint_getD]
        omega
    · constructor
      · intro z; exact absurd z.1 hm
      · intro z; omega
  have a := (key _).mp (Int.le_refl _)
  have b := (key _).mpr (Int.le_refl _)
  omega
end PM
set_option Elab.async false
set_option linter.all false
/-! # The mirror is the specification: gaps, what a list read keeps -/
namespace PM
open VahypBase (Bytes Toks)
theorem sorted_eq : ∀ {l1 l2 : List Nat}, l1.Pairwise (· < ·) → l2.Pairwise (· < ·) → (∀ a, a ∈ l1 ↔ a ∈ l2) → l1 = l2
  | [], [], _, _, _ => rfl
  | [], b :: s, _, _, h => absurd ((h b).mpr List.mem_cons_self) (List.not_mem_nil)
  | a :: r, [], _, _, h => absurd ((h a).mp List.mem_cons_self) (List.not_mem_nil)
  | a :: r, b :: s, h1, h2, h => by
    have p1 := List.pairwise_cons.mp h1
    have p2 := List.pairwise_cons.mp h2
    have hab : a = b := by
      rcases List.mem_cons.mp ((h a).mp List.mem_cons_self) with e | e
      · exact e
      · rcases List.mem_cons.mp ((h b).mpr List.mem_cons_self) with f | f
        · exact f.symm
        · have := p1.1 b f
          have := p2.1 a e
          omega
    subst hab
    rw [sorted_eq p1.2 p2.2 fun c => ?_]
    constructor
    · intro hc
      rcases List.mem_cons.mp ((h c).mp (List.mem_cons_of_mem _ hc)) with e | e
      · have := p1.1 c hc; omega
      · exact e
    · intro hc
      rcases List.mem_cons.mp ((h c).mpr (List.mem_cons_of_mem _ hc)) with e | e
      · have := p2.1 c hc; omega
      · exact e
theorem range_sorted (n a : Nat) : ((List.range n).map fun i => a + i).Pairwise (· < ·) := by
  rw [List.pairwise_map]
  exact List.pairwise_lt_range.imp fun h => by omega
theorem gaps_eq (x : Bytes) : Vahypa.gaps x = (List.range (x.length - 1)).map fun i => 1 + i := by
  unfold Vahypa.gaps
  exact List.map_congr_left fun i _ => Nat.add_comm i 1
theorem gaps_sorted (x : Bytes) : (Vahypa.gaps x).Pairwise (· < ·) := by rw [gaps_eq]; exact range_sorted _ _
theorem mem_gaps {x : Bytes} {g : Nat} : g ∈ Vahypa.gaps x ↔ (1 ≤ g ∧ g + 1 ≤ x.length) := by
  rw [gaps_eq, List.mem_map]
  constructor
  · rintro ⟨i, hi, rfl⟩
    have := List.mem_range.mp hi
    omega
  · rintro ⟨h1, h2⟩
    exact ⟨g - 1, List.mem_range.mpr (by omega), by omega⟩
def insideX (l r : Nat) (x : Bytes) : List Nat := (Vahypa.gaps x).filter fun g => decide (l ≤ g ∧ g + r ≤ x.length)
theorem mem_inside {l r : Nat} {x : Bytes} {g : Nat} : g ∈ insideX l r x ↔ ((1 ≤ g ∧ g + 1 ≤ x.length) ∧ l ≤ g ∧ g + r ≤ x.length) := by
  unfold insideX
  rw [List.mem_filter, mem_gaps, decide_eq_true_iff]
theorem within_eq (l r : Nat) (x : Bytes) : gapsWithin (rowB x) (l : Int) (r : Int) = nint (insideX l r x) := by
  have e : insideX l r x = (List.range (((x.length : Int) - max (r : Int) 1 + 1) - max (l : Int) 1).toNat).map fun i => max l 1 + i := by
    refine sorted_eq ((gaps_sorted x).filter _) (range_sorted _ _) fun g => ?_
    rw [mem_inside, List.mem_map]
    constructor
    · rintro ⟨⟨h1, h2⟩, h3, h4⟩
      exact ⟨g - max l 1, List.mem_range.mpr (by omega), by omega⟩
    · rintro ⟨i, hi, rfl⟩
      have := List.mem_range.mp hi
      omega
  rw [e]
  unfold gapsWithin nint
  rw [rowB_len, List.map_map, show ((x.length + 2 : Nat) : Int) - 2 = (x.length : Int) by omega]
  exact List.map_congr_left fun i _ => by
    show max (l : Int) 1 + (i : Int) = ((max l 1 + i : Nat) : Int)
    omega
theorem odd_eq (v : Nat) : decide ((v : Int) % 2 = 1) = (v % 2 == 1) := by
  rw [Bool.eq_iff_iff, decide_eq_true_iff, beq_iff_eq]
  omega
theorem inner_eq {ps : List Vahypa.Pat} (h : PSet ps) {x : Bytes} (hx : x.all VahypBase.isLetter = true) (l r : Nat) {H : Held} (h1 : H.left = (l : Int)) (h2 : H.right = (r : Int)) :
    innerGaps H (rowB x) (ps.map encP) = (insideX l r x).map fun (g : Nat) => ((g : Int), Vahypb.partedNow ps x g) := by
  unfold innerGaps
  rw [h1, h2, within_eq]
  unfold nint
  rw [List.map_map]
  refine List.map_congr_left fun g hg => ?_
  have hg := mem_inside.mp hg
  show ((g : Int), decide ((levelsOf (rowB x) (ps.map encP)).getD ((g : Int).toNat) 0 % 2 = 1)) = _
  rw [Int.toNat_natCast, level_eq h hx (by omega), odd_eq]
  rfl
/-! ## what a list read keeps -/
def WGood (w : Vahypa.Word) : Prop := w.x.all VahypBase.isLetter = true ∧ w.cuts.Pairwise (· < ·) ∧ (∀ c ∈ w.cuts, 1 ≤ c ∧ c < w.x.length) ∧ 2 ≤ w.x.length ∧ w.x.length ≤ 16
theorem wordBy_good : ∀ (n : Nat) (l x : Bytes) (cs : List Nat) {w : Vahypa.Word}, Vahypa.wordBy n l x cs = some w → x.all VahypBase.isLetter = true → cs.Pairwise (· < ·) → (∀ c ∈ cs, 1 ≤ c ∧ c ≤ x.length) → (x.length ∈ cs → ∃ b r, l = b :: r ∧ VahypBase.isLetter b = true) →
    w.x.all VahypBase.isLetter = true ∧ w.cuts.Pairwise (· < ·) ∧ ∀ c ∈ w.cuts, 1 ≤ c ∧ c < w.x.length
  | 0, _, _, _, w, h, _, _, _, _ => nomatch h
  | n + 1, [], x, cs, w, h, hx, hs, hc, hl => by
    injection h with h
    subst h
    refine ⟨hx, hs, fun c hcc => ⟨(hc c hcc).1, ?_⟩⟩
    have := (hc c hcc).2
    have : c ≠ x.length := fun z => by
      obtain ⟨b, r, e, _⟩ := hl (z ▸ hcc)
      cases e
    show c < x.length
    omega
  | n + 1, b :: r, x, cs, w, h, hx, hs, hc, hl => by
    unfold Vahypa.wordBy at h
    dsimp only at h
    by_cases hb : VahypBase.isLetter b = true
    · rw [if_pos hb] at h
      refine wordBy_good n r (x ++ [b]) cs h ?_ hs (fun c hcc => ?_) (fun z => ?_)
      · rw [List.all_append, hx, Bool.true_and, List.all_cons, hb]; rfl
      · rw [List.length_append]; have := hc c hcc; omega
      · have := hc _ z
        rw [List.length_append] at this
        have e : ([b] : Bytes).length = 1 := rfl
        omega
    · rw [if_neg hb] at h
      by_cases h2 : (b == 45) = true ∧ x ≠ [] ∧ cs.contains x.length = false
      · have hn : x.length ∉ cs := fun z => by
          have := List.contains_iff_mem.mpr z
          rw [h2.2.2] at this
          cases this
        have hx1 : 1 ≤ x.length := List.length_pos_iff.mpr h2.2.1
        rw [if_pos h2] at h
        match r, h with
        | [], h => cases h
        | c :: s, h =>
          dsimp only at h
          by_cases h3 : VahypBase.isLetter c = true
          · rw [if_pos h3] at h
            refine wordBy_good n (c :: s) x (cs ++ [x.length]) h hx ?_ ?_ fun _ => ⟨c, s, rfl, h3⟩
            · rw [List.pairwise_append]
              refine ⟨hs, List.pairwise_singleton .., fun a ha y hy => ?_⟩
              rw [List.mem_singleton.mp hy]
              have := (hc a ha).2
              have : a ≠ x.length := fun z => hn (z ▸ ha)
              omega
            · intro a ha
              rcases List.mem_append.mp ha with z | z
              · exact hc a z
              · rw [List.mem_singleton.mp z]; omega
          · rw [if_neg h3] at h; cases h
      · rw [if_neg h2] at h; cases h
theorem wordOf_good {c : Bytes} {w : Vahypa.Word} (h : Vahypa.wordOf c = some w) : WGood w := by
  unfold Vahypa.wordOf at h
  obtain ⟨v, hv, hvw⟩ := Option.bind_eq_some_iff.mp h
  by_cases h2 : v.x.length < 2 ∨ Vahypa.LETTERS < v.x.length
  · rw [if_pos h2] at hvw; cases hvw
  · rw [if_neg h2] at hvw
    injection hvw with hvw
    subst hvw
    have h3 := wordBy_good _ _ _ _ hv rfl List.Pairwise.nil (fun _ y => nomatch y) (fun y => nomatch y)
    have h16 : Vahypa.LETTERS = 16 := rfl
    exact ⟨h3.1, h3.2.1, h3.2.2, by omega, by omega⟩
theorem bind_ok {A B : Type} {r : Except VahypBase.Fault A} {f : A → Except VahypBase.Fault B} {b : B} (h : r.bind f = .ok b) : ∃ a, r = .ok a ∧ f a = .ok b := by
  cases r with
  | error e => cases h
  | ok a => exact ⟨a, rfl, h⟩
theorem takeWords_good : ∀ (n : Nat) (ws : List Vahypa.Word) (l : Toks) {ws' : List Vahypa.Word} {r : Toks}, Vahypa.takeWords n ws l = .ok (ws', r) → (∀ w ∈ ws, WGood w) → ∀ w ∈ ws', WGood w
  | 0, _, _, _, _, h, _ => nomatch h
  | n + 1, ws, l, ws', r, h, hw => by
    unfold Vahypa.takeWords at h
    split at h
    · split at h
      · cases h
      · obtain ⟨y, hy, h⟩ := bind_ok h
        split at h
        · cases h
        · rename_i w hwo
          split at h
          · cases h
          · obtain ⟨m, hm, h⟩ := bind_ok h
            refine takeWords_good n _ m h fun v hv => ?_
            rcases List.mem_append.mp hv with z | z
            · exact hw v z
            · rw [List.mem_singleton.mp z]; exact wordOf_good hwo
    · injection h with h
      injection h with h1 h2
      rw [← h1]
      exact hw
theorem PSet.add {ps : List Vahypa.Pat} {p : Vahypa.Pat} (h : PSet ps) (hp : PGood p) (hn : ps.any (samePat p) = false) : PSet (ps ++ [p]) := by
  refine ⟨fun q hq => ?_, ?_⟩
  · rcases List.mem_append.mp hq with z | z
    · exact h.1 q z
    · rw [List.mem_singleton.mp z]; exact hp
  · rw [List.pairwise_append]
    refine ⟨h.2, List.pairwise_singleton .., fun a ha b hb => ?_⟩
    rw [List.mem_singleton.mp hb]
    cases hs : samePat p a with
    | false => rfl
    | true =>
      have : ps.any (samePat p) = true := List.any_eq_true.mpr ⟨a, ha, hs⟩
      rw [hn] at this
      cases this
theorem takePats_good : ∀ (n : Nat) (ps : List Vahypa.Pat) (l : Toks) {ps' : List Vahypa.Pat}, Vahypa.takePats n ps l = .ok ps' → PSet ps → PSet ps'
  | 0, _, _, _, h, _ => nomatch h
  | n + 1, ps, l, ps', h, hw => by
    unfold Vahypa.takePats at h
    split at h
    · injection h with h
      rw [← h]
      exact hw
    · obtain ⟨m, hm, h⟩ := bind_ok h
      split at h
      · cases h
      · obtain ⟨y, hy, h⟩ := bind_ok h
        split at h
        · cases h
        · rename_i p hpo
          split at h
          · cases h
          · rename_i hany
            obtain ⟨k, hk, h⟩ := bind_ok h
            exact takePats_good n _ k h (hw.add (pat_good hpo) (by
              cases hz : ps.any (samePat p) with
              | false => rfl
              | true => exact absurd hz hany))
def LGood (s : Vahypa.Lst) : Prop := (∀ w ∈ s.words, WGood w) ∧ PSet s.pats
theorem read_good {b : Bytes} {s : Vahypa.Lst} (h : Vahypa.read b = .ok s) : LGood s := by
  unfold Vahypa.read at h
  obtain ⟨l, _, h⟩ := bind_ok h
  obtain ⟨l1, _, h⟩ := bind_ok h
  obtain ⟨a, _, h⟩ := bind_ok h
  obtain ⟨z, _, h⟩ := bind_ok h
  obtain ⟨l4, _, h⟩ := bind_ok h
  obtain ⟨ws, hws, h⟩ := bind_ok h
  cases hq : Vahypa.takePats (l4.length + 1) [] ws.2 with
  | error f => rw [hq] at h; cases h
  | ok ps =>
    rw [hq] at h
    injection h with h
    rw [← h]
    exact ⟨takeWords_good _ _ _ hws (fun _ y => nomatch y), takePats_good _ _ _ hq ⟨(fun _ y => nomatch y), List.Pairwise.nil⟩⟩
/-! ## words parted -/
def gapOf (ps : List Vahypa.Pat) (w : Vahypa.Word) (g : Nat) : Gap := ((g : Int), w.cuts.contains g, Vahypb.partedNow ps w.x g)
def wordsOf (s : Vahypa.Lst) (ps : List Vahypa.Pat) : Words := s.words.map fun w => (rowB w.x, (Vahypb.inside s w).map (gapOf ps w))
theorem inside_eq (s : Vahypa.Lst) (w : Vahypa.Word) : Vahypb.inside s w = insideX s.l s.r w.x := rfl
theorem cuts_mem (g : Nat) (cuts : List Nat) : decide ((g : Int) ∈ nint cuts) = cuts.contains g := by
  rw [Bool.eq_iff_iff, decide_eq_true_iff, List.contains_iff_mem]
  constructor
  · intro h
    obtain ⟨c, hc, e⟩ := List.mem_map.mp h
    have : c = g := by omega
    rw [← this]; exact hc
  · intro h
    exact List.mem_map.mpr ⟨g, h, rfl⟩
theorem parted_eq {s : Vahypa.Lst} (hs : ∀ w ∈ s.words, WGood w) {ps : List Vahypa.Pat} (h : PSet ps) : partedWords (encL s) (ps.map encP) = wordsOf s ps := by
  unfold partedWords wordsOf
  show (s.words.map encW).map _ = _
  rw [List.map_map]
  refine List.map_congr_left fun w hw => ?_
  show (rowB w.x, (innerGaps (encL s) (rowB w.x) (ps.map encP)).map fun g => (g.1, decide (g.1 ∈ nint w.cuts), g.2)) = _
  rw [inner_eq h (hs w hw).1 s.l s.r rfl rfl, List.map_map, inside_eq]
  refine congrArg (Prod.mk (rowB w.x)) (List.map_congr_left fun (g : Nat) _ => ?_)
  show ((g : Int), decide ((g : Int) ∈ nint w.cuts), Vahypb.partedNow ps w.x g) = gapOf ps w g
  rw [cuts_mem]
  rfl
end PM
set_option Elab.async false
set_option linter.all false
/-! # The mirror is the specification: scores, parts, patterns told -/
namespace PM
open VahypBase (Bytes Toks)
theorem row_eq (b : Bytes) : rowOf (bints b) = (Vahypa.readLetters b).map rowB := by
  unfold rowOf Vahypa.readLetters
  rw [ints_len, all_ints]
  by_cases h : b.length < 2 ∨ Vahypa.LETTERS < b.length ∨ b.all VahypBase.isLetter = false
  · rw [if_pos h, if_neg]
    · rfl
    · rintro ⟨h1, h2, h3⟩
      rcases h with h | h | h
      · omega
      · have : Vahypa.LETTERS = 16 := rfl
        omega
      · rw [h] at h3; cases h3
  · rw [if_neg h, if_pos]
    · rfl
    · have h16 : Vahypa.LETTERS = 16 := rfl
      refine ⟨Nat.le_of_not_lt fun z => h (Or.inl z), Nat.le_of_not_lt fun z => h (Or.inr (Or.inl (by omega))), ?_⟩
      cases hz : b.all VahypBase.isLetter with
      | true => rfl
      | false => exact absurd (Or.inr (Or.inr hz)) h
theorem letters_ok {b x : Bytes} (h : Vahypa.readLetters b = some x) : x = b ∧ x.all VahypBase.isLetter = true := by
  unfold Vahypa.readLetters at h
  split at h
  · cases h
  · rename_i hn
    injection h with h
    refine ⟨h.symm, ?_⟩
    rw [← h]
    cases hz : b.all VahypBase.isLetter with
    | true => rfl
    | false => exact absurd (Or.inr (Or.inr hz)) hn
theorem parts_inside (s : Vahypa.Lst) (ps : List Vahypa.Pat) (x : Bytes) : Vahypa.partsBy s ps x = (insideX s.l s.r x).filter (Vahypb.partedNow ps x) := by
  unfold Vahypa.partsBy insideX
  rw [List.filter_filter]
  rfl
theorem part_eq {s : Vahypa.Lst} {ps : List Vahypa.Pat} (h : PSet ps) {x : Bytes} (hx : x.all VahypBase.isLetter = true) :
    ((innerGaps (encL s) (rowB x) (ps.map encP)).filterMap fun g => if g.2 = true then some g.1 else none) = nint (Vahypa.partsBy s ps x) := by
  rw [inner_eq h hx s.l s.r rfl rfl, parts_inside, List.filterMap_map]
  unfold nint
  rw [← List.filterMap_eq_map, List.filterMap_filter]
  refine congrArg (fun f => (insideX s.l s.r x).filterMap f) (funext fun g => ?_)
  rfl
/-! ## scores -/
theorem fl_map {ps : List Vahypa.Pat} {w : Vahypa.Word} (p : Gap → Bool) (l : List Nat) : ((l.map (gapOf ps w)).filter p).length = (l.filter fun g => p (gapOf ps w g)).length := by
  rw [List.filter_map, List.length_map]
  rfl
theorem word_score {s : Vahypa.Lst} {ps : List Vahypa.Pat} {w : Vahypa.Word} (hw : WGood w) (hp : s.pats = ps) : let l := (Vahypb.inside s w).map (gapOf ps w)
    hitsOf l = (Vahypa.scoreWord s w).hits ∧ faultsOf l = (Vahypa.scoreWord s w).faults ∧ missesOf l = (Vahypa.scoreWord s w).misses := by
  intro l
  have hpa : Vahypa.parts s w.x = (insideX s.l s.r w.x).filter (Vahypb.partedNow ps w.x) := by
    unfold Vahypa.parts
    rw [hp, parts_inside]
  unfold Vahypa.scoreWord
  rw [hpa]
  refine ⟨?_, ?_, ?_⟩
  · show ((((insideX s.l s.r w.x).map (gapOf ps w)).filter _).length) = (((insideX s.l s.r w.x).filter (Vahypb.partedNow ps w.x)).filter fun g => w.cuts.contains g).length
    rw [fl_map, List.filter_filter]
    exact congrArg List.length (List.filter_congr fun g _ => Bool.and_comm _ _)
  · show ((((insideX s.l s.r w.x).map (gapOf ps w)).filter _).length) = (((insideX s.l s.r w.x).filter (Vahypb.partedNow ps w.x)).filter fun g => !w.cuts.contains g).length
    rw [fl_map, List.filter_filter]
    exact congrArg List.length (List.filter_congr fun g _ => Bool.and_comm _ _)
  · show ((((insideX s.l s.r w.x).map (gapOf ps w)).filter _).length) = (w.cuts.filter fun g => Vahypa.within s w.x g && !((insideX s.l s.r w.x).filter (Vahypb.partedNow ps w.x)).contains g).length
    rw [fl_map]
    refine congrArg List.length (sorted_eq (((gaps_sorted w.x).filter _).filter _) (hw.2.1.filter _) fun g => ?_)
    rw [List.mem_filter, List.mem_filter, mem_inside]
    show ((1 ≤ g ∧ g + 1 ≤ w.x.length) ∧ s.l ≤ g ∧ g + s.r ≤ w.x.length) ∧ (w.cuts.contains g && !Vahypb.partedNow ps w.x g) = true ↔ g ∈ w.cuts ∧ (decide (s.l ≤ g ∧ g + s.r ≤ w.x.length) && !((insideX s.l s.r w.x).filter (Vahypb.partedNow ps w.x)).contains g) = true
    rw [Bool.and_eq_true, Bool.and_eq_true, List.contains_iff_mem, decide_eq_true_iff, Bool.not_eq_true', Bool.not_eq_true', ← Bool.not_eq_true, ← Bool.not_eq_true, List.contains_iff_mem, List.mem_filter, mem_inside]
    constructor
    · rintro ⟨⟨h1, h2⟩, h3, h4⟩
      exact ⟨h3, h2, fun z => h4 z.2⟩
    · rintro ⟨h3, h2, h4⟩
      have hc := hw.2.2.1 g h3
      exact ⟨⟨⟨hc.1, by omega⟩, h2⟩, h3, fun z => h4 ⟨⟨⟨hc.1, by omega⟩, h2⟩, z⟩⟩
theorem score_fold {s : Vahypa.Lst} {ps : List Vahypa.Pat} (hp : s.pats = ps) : ∀ (ws : List Vahypa.Word), (∀ w ∈ ws, WGood w) → ∀ (a : Nat) (z : Vahypa.Score),
    (ws.map fun w => (rowB w.x, (Vahypb.inside s w).map (gapOf ps w))).foldl scoreStep [(a : Int), z.hits, z.faults, z.misses] =
    (let y := (ws.map (Vahypa.scoreWord s)).foldl Vahypa.addScore z; [((a + (ws.filter (Vahypa.exact s)).length : Nat) : Int), y.hits, y.faults, y.misses])
  | [], _, a, z => rfl
  | w :: r, hw, a, z => by
    have hs := word_score (hw w List.mem_cons_self) hp
    have ih := score_fold hp r (fun v hv => hw v (List.mem_cons_of_mem _ hv)) (a + if Vahypa.exact s w = true then 1 else 0) (Vahypa.addScore z (Vahypa.scoreWord s w))
    rw [List.map_cons, List.map_cons, List.foldl_cons, List.foldl_cons]
    have e : scoreStep [(a : Int), z.hits, z.faults, z.misses] (rowB w.x, (Vahypb.inside s w).map (gapOf ps w)) = [((a + (if Vahypa.exact s w = true then 1 else 0) : Nat) : Int), (Vahypa.addScore z (Vahypa.scoreWord s w)).hits, (Vahypa.addScore z (Vahypa.scoreWord s w)).faults, (Vahypa.addScore z (Vahypa.scoreWord s w)).misses] := by
      unfold scoreStep
      dsimp only
      rw [hs.1, hs.2.1, hs.2.2]
      have hx : (if (Vahypa.scoreWord s w).faults + (Vahypa.scoreWord s w).misses = 0 then (1 : Int) else 0) = ((if Vahypa.exact s w = true then 1 else 0 : Nat) : Int) := by
        have : Vahypa.exact s w = true ↔ (Vahypa.scoreWord s w).faults + (Vahypa.scoreWord s w).misses = 0 := by
          unfold Vahypa.exact
          rw [Bool.and_eq_true, beq_iff_eq, beq_iff_eq]
          omega
        by_cases hq : Vahypa.exact s w = true
        · rw [if_pos hq, if_pos (this.mp hq)]; rfl
        · rw [if_neg hq, if_neg fun y => hq (this.mpr y)]; rfl
      rw [hx]
      rfl
    rw [e, ih]
    rw [List.filter_cons]
    by_cases hq : Vahypa.exact s w = true
    · rw [if_pos hq, if_pos hq, List.length_cons, Nat.add_assoc a, Nat.add_comm 1]
    · rw [if_neg hq, if_neg hq, Nat.add_zero]
theorem score_eq {s : Vahypa.Lst} (hs : ∀ w ∈ s.words, WGood w) {ps : List Vahypa.Pat} (h : PSet ps) : scoreOf (partedWords (encL s) (ps.map encP)) = Vahypb.scoreRow { s with pats := ps } := by
  rw [parted_eq hs h]
  unfold scoreOf wordsOf
  have := score_fold (s := { s with pats := ps }) (ps := ps) rfl s.words hs 0 ⟨0, 0, 0⟩
  exact this.trans (by rw [Nat.zero_add]; rfl)
/-! ## patterns told -/
theorem digit_told : ∀ v : Nat, v ≤ 9 → digitBytes (v : Int) = bints (Vahypa.digit v) := by
  have h : ∀ v : Fin 10, digitBytes ((v.val : Nat) : Int) = bints (Vahypa.digit v.val) := by decide +kernel
  exact fun v hv => h ⟨v, by omega⟩
theorem pb_go (halt : Bool) (vs : List Nat) (h9 : ∀ v ∈ vs, v ≤ 9) : ∀ (x : Bytes) (k : Nat) (told : Ns), k + x.length + 1 = vs.length →
    (match pbGo (bints x ++ edge halt) false (nint (vs.drop k)) told with
    | (ds, told) => match ds with
      | [] => told
      | d :: _ => told ++ digitBytes d) = told ++ bints ((x.zipIdx k).flatMap (fun c => Vahypa.digit (vs[c.2]?.getD 0) ++ [c.1]) ++ (Vahypa.digit (vs[k + x.length]?.getD 0) ++ (if halt = true then [46] else [])))
  | [], k, told, hk => by
    have hkl : k < vs.length := by rw [← hk]; exact Nat.lt_succ_of_le (Nat.le_add_right _ _)
    have hd : vs.drop k = [vs[k]] := by
      rw [List.drop_eq_getElem_cons hkl, List.drop_eq_nil_of_le (by rw [← hk]; exact Nat.le_refl _)]
    have hg : vs[k + ([] : Bytes).length]?.getD 0 = vs[k] := by
      rw [show k + ([] : Bytes).length = k from rfl, List.getElem?_eq_getElem hkl]
      rfl
    have h9k := digit_told vs[k] (h9 _ (List.getElem_mem hkl))
    rw [hd, hg]
    cases halt with
    | false =>
      show told ++ digitBytes ((vs[k] : Nat) : Int) = told ++ bints ([] ++ (Vahypa.digit vs[k] ++ []))
      rw [h9k, List.nil_append, List.append_nil]
    | true =>
      show told ++ digitBytes ((vs[k] : Nat) : Int) ++ [46] = told ++ bints ([] ++ (Vahypa.digit vs[k] ++ [46]))
      rw [h9k, List.nil_append, ints_app, List.append_assoc]
      rfl
  | b :: r, k, told, hk => by
    have hkl : k < vs.length := by rw [← hk, List.length_cons]; omega
    have h9k := digit_told vs[k] (h9 _ (List.getElem_mem hkl))
    have ih := pb_go halt vs h9 r (k + 1) (told ++ digitBytes ((vs[k] : Nat) : Int) ++ [(b.toNat : Int)]) (by rw [List.length_cons] at hk; omega)
    rw [List.drop_eq_getElem_cons hkl]
    show (match pbGo ((b.toNat : Int) :: (bints r ++ edge halt)) false ((vs[k] : Int) :: nint (vs.drop (k + 1))) told with
    | (ds, told) => match ds with
      | [] => told
      | d :: _ => told ++ digitBytes d) = _
    unfold pbGo
    rw [if_pos (Or.inr rfl)]
    show (match pbGo (bints r ++ edge halt) false (nint (vs.drop (k + 1))) (told ++ digitBytes ((vs[k] : Nat) : Int) ++ [(b.toNat : Int)]) with
    | (ds, told) => match ds with
      | [] => told
      | d :: _ => told ++ digitBytes d) = _
    rw [ih, List.zipIdx_cons, List.flatMap_cons, List.getElem?_eq_getElem hkl, h9k]
    rw [show k + (b :: r).length = k + 1 + r.length by rw [List.length_cons]; omega]
    simp only [ints_app, List.append_assoc, Option.getD_some]
    rfl
theorem pb_first {a : Int} (ha : a ≠ 46) {r ds told : Ns} : pbGo (a :: r) true ds told = pbGo (a :: r) false ds told := by
  unfold pbGo
  rw [if_pos (Or.inl ha), if_pos (Or.inr rfl)]
theorem told_eq {p : Vahypa.Pat} (h : PGood p) : toldPattern (encP p).1 (encP p).2 = Vahypb.patRow p := by
  have e : patternBytes (encP p).1 (encP p).2 = bints (Vahypa.showPat p) := by
    rw [encP_fst]
    show patternBytes (edge p.front ++ (bints p.x ++ edge p.halt_)) (nint p.levels) = _
    have hg := pb_go p.halt_ p.levels h.2.2.2.2 p.x 0
    unfold patternBytes Vahypa.showPat
    obtain ⟨a, t, hat, ha⟩ := key_front h.1 h.2.1
    cases hf : p.front with
    | true =>
      have := hg [46] (by rw [h.2.2.2.1, Nat.zero_add])
      rw [Nat.zero_add] at this
      exact this
    | false =>
      have := hg [] (by rw [h.2.2.2.1, Nat.zero_add])
      rw [Nat.zero_add] at this
      refine Eq.trans ?_ this
      rw [hat]
      rw [show edge false = [] from rfl, List.nil_append, List.cons_append, pb_first ha]
      rfl
  unfold toldPattern Vahypb.patRow
  rw [e, ints_len]
  rfl
end PM
set_option Elab.async false
set_option linter.all false
/-! # The mirror is the specification: counting by a dict -/
namespace PM
open VahypBase (Bytes Toks)
theorem snoc {α : Type} {P : List α → Prop} (h0 : P []) (h1 : ∀ l a, P l → P (l ++ [a])) (l : List α) : P l := by
  have : ∀ l : List α, P l.reverse := by
    intro l
    induction l with
    | nil => exact h0
    | cons a r ih => rw [List.reverse_cons]; exact h1 _ _ ih
  have := this l.reverse
  rwa [List.reverse_reverse] at this
theorem dedup_snoc {α : Type} [BEq α] [LawfulBEq α] (l : List α) (a : α) : (l ++ [a]).eraseDups = if a ∈ l then l.eraseDups else l.eraseDups ++ [a] := by
  rw [List.eraseDups_append]
  by_cases h : a ∈ l
  · rw [if_pos h, show [a].removeAll l = [] by simp [List.removeAll, h]]
    simp
  · rw [if_neg h, show [a].removeAll l = [a] by simp [List.removeAll, h]]
    rfl
theorem dedup_mem {α : Type} [BEq α] [LawfulBEq α] {l : List α} {a : α} : a ∈ l.eraseDups ↔ a ∈ l := by
  induction l using snoc with
  | h0 => exact Iff.rfl
  | h1 l b ih =>
    rw [dedup_snoc]
    by_cases h : b ∈ l
    · rw [if_pos h, ih, List.mem_append, List.mem_singleton]
      exact ⟨Or.inl, fun z => z.elim id fun e => e ▸ h⟩
    · rw [if_neg h, List.mem_append, List.mem_append, ih]
theorem dedup_if {α : Type} [BEq α] [LawfulBEq α] {β : Type} {l : List α} {a : α} {x y : β} [Decidable (a ∈ l.eraseDups)] [Decidable (a ∈ l)] : (if a ∈ l.eraseDups then x else y) = if a ∈ l then x else y := by
  by_cases h : a ∈ l
  · rw [if_pos h, if_pos (dedup_mem.mpr h)]
  · rw [if_neg h, if_neg fun z => h (dedup_mem.mp z)]
theorem dget_table {α : Type} [DecidableEq α] (L : List α) (c : α → Int) (k : α) : dget (L.map fun a => (a, c a)) k = if k ∈ L then some (c k) else none := by
  unfold dget
  induction L with
  | nil => rfl
  | cons a r ih =>
    rw [List.map_cons, List.find?_cons]
    by_cases h : a = k
    · subst h
      rw [decide_eq_true rfl, if_pos List.mem_cons_self]
      rfl
    · rw [decide_eq_false h]
      dsimp only
      rw [ih]
      by_cases h2 : k ∈ r
      · rw [if_pos h2, if_pos (List.mem_cons_of_mem _ h2)]
      · rw [if_neg h2, if_neg fun z => (List.mem_cons.mp z).elim (fun e => h e.symm) h2]
theorem tally_table (l : List Pc) : l.foldl addOne [] = l.eraseDups.map fun k => (k, (l.count k : Int)) := by
  induction l using snoc with
  | h0 => rfl
  | h1 l p ih =>
    rw [List.foldl_append, List.foldl_cons, List.foldl_nil, ih, dedup_snoc]
    unfold addOne
    rw [dget_table]
    by_cases h : p ∈ l
    · rw [if_pos (dedup_mem.mpr h), if_pos h]
      unfold dput
      rw [if_pos, List.map_map]
      · refine List.map_congr_left fun k hk => ?_
        show (if k = p then (k, _) else (k, (l.count k : Int))) = _
        rw [List.count_append]
        by_cases hkp : k = p
        · subst hkp
          rw [if_pos rfl, List.count_singleton_self]
          rfl
        · have hz : [p].count k = 0 := List.count_eq_zero.mpr fun z => hkp (List.mem_singleton.mp z)
          rw [if_neg hkp, hz, Nat.add_zero]
      · rw [List.any_map, List.any_eq_true]
        exact ⟨p, dedup_mem.mpr h, decide_eq_true rfl⟩
    · rw [if_neg (fun z => h (dedup_mem.mp z)), if_neg h, dput_new, List.map_append]
      · congr 1
        · refine List.map_congr_left fun k hk => ?_
          have hz : [p].count k = 0 := List.count_eq_zero.mpr fun z => h (by rw [← List.mem_singleton.mp z]; exact dedup_mem.mp hk)
          rw [List.count_append, hz, Nat.add_zero]
        · rw [List.map_singleton, List.count_append, List.count_singleton_self, List.count_eq_zero.mpr h]
          rfl
      · intro x hx z
        obtain ⟨k, hk, e⟩ := List.mem_map.mp hx
        rw [← e] at z
        exact h (z ▸ dedup_mem.mp hk)
theorem tally_get (l : List Pc) (k : Pc) : (dget (l.foldl addOne []) k).getD 0 = (l.count k : Int) := by
  rw [tally_table, dget_table]
  by_cases h : k ∈ l
  · rw [if_pos (dedup_mem.mpr h)]; rfl
  · rw [if_neg fun z => h (dedup_mem.mp z), List.count_eq_zero.mpr h]; rfl
theorem dedup_map {α β : Type} [BEq α] [LawfulBEq α] [BEq β] [LawfulBEq β] (f : α → β) (l : List α) (h : ∀ a ∈ l, ∀ b ∈ l, f a = f b → a = b) : (l.map f).eraseDups = l.eraseDups.map f := by
  induction l using snoc with
  | h0 => rfl
  | h1 l b ih =>
    have ih := ih fun a ha c hc => h a (List.mem_append_left _ ha) c (List.mem_append_left _ hc)
    rw [List.map_append, List.map_singleton, dedup_snoc, dedup_snoc, ih]
    by_cases hb : b ∈ l
    · rw [if_pos hb, if_pos (List.mem_map_of_mem hb)]
    · rw [if_neg hb, if_neg, List.map_append, List.map_singleton]
      intro z
      obtain ⟨a, ha, e⟩ := List.mem_map.mp z
      exact hb (h a (List.mem_append_left _ ha) b (List.mem_append_right _ (List.mem_singleton.mpr rfl)) e ▸ ha)
/-! ## two counts at once -/
theorem gap_tally (odd : Bool) (row : Ns) (len : Nat) : ∀ (gs : List Gap) (s : Tally × Tally), gs.foldl (tallyGap odd row len) s =
    (((gs.filter fun g => g.2.2 != odd && g.2.1 == odd).flatMap fun g => piecesWith row g.1 len).foldl addOne s.1, ((gs.filter fun g => g.2.2 != odd && g.2.1 != odd).flatMap fun g => piecesWith row g.1 len).foldl addOne s.2)
  | [], s => rfl
  | g :: r, s => by
    rw [List.foldl_cons, gap_tally odd row len r, List.filter_cons, List.filter_cons]
    unfold tallyGap
    by_cases h1 : g.2.2 = odd
    · have e1 : (g.2.2 != odd) = false := by rw [h1]; cases odd <;> rfl
      rw [if_pos h1, e1, Bool.false_and, Bool.false_and]
      rfl
    · have e1 : (g.2.2 != odd) = true := by simpa using h1
      rw [if_neg h1, e1, Bool.true_and, Bool.true_and]
      by_cases h2 : g.2.1 = odd
      · have e2 : (g.2.1 == odd) = true := by simpa using h2
        have e3 : (g.2.1 != odd) = false := by rw [h2]; cases odd <;> rfl
        rw [if_pos h2, e2, e3, if_pos rfl, List.flatMap_cons, List.foldl_append]
        rfl
      · have e2 : (g.2.1 == odd) = false := by simpa using h2
        have e3 : (g.2.1 != odd) = true := by simpa using h2
        rw [if_neg h2, e2, e3, if_pos rfl, List.flatMap_cons, List.foldl_append]
        rfl
theorem word_tally (odd : Bool) (len : Nat) : ∀ (ws : Words) (s : Tally × Tally), ws.foldl (tallyWord odd len) s =
    ((ws.flatMap fun w => (w.2.filter fun g => g.2.2 != odd && g.2.1 == odd).flatMap fun g => piecesWith w.1 g.1 len).foldl addOne s.1, (ws.flatMap fun w => (w.2.filter fun g => g.2.2 != odd && g.2.1 != odd).flatMap fun g => piecesWith w.1 g.1 len).foldl addOne s.2)
  | [], s => rfl
  | w :: r, s => by
    rw [List.foldl_cons, word_tally odd len r, List.flatMap_cons, List.flatMap_cons, List.foldl_append, List.foldl_append]
    unfold tallyWord
    rw [gap_tally]
theorem odd_dec (v : Nat) : decide ((v : Int) % 2 = 1) = decide (v % 2 = 1) := by
  by_cases h : v % 2 = 1
  · rw [decide_eq_true h, decide_eq_true (by omega)]
  · rw [decide_eq_false h, decide_eq_false (by omega)]
/-- the pieces, as the program counts them -/
def pcsAt (s : Vahypa.Lst) (len : Nat) (sel : Vahypa.Word → List Nat) : List Pc := s.words.flatMap fun w => (sel w).flatMap fun (g : Nat) => piecesWith (rowB w.x) (g : Int) len
theorem flat_filter_map {α β γ : Type} (f : α → β) (p : β → Bool) (q : α → Bool) (h : ∀ a, p (f a) = q a) (k : β → List γ) (l : List α) : ((l.map f).filter p).flatMap k = (l.filter q).flatMap fun a => k (f a) := by
  induction l with
  | nil => rfl
  | cons a r ih =>
    rw [List.map_cons, List.filter_cons, List.filter_cons, h]
    by_cases hq : q a = true
    · rw [if_pos hq, if_pos hq, List.flatMap_cons, List.flatMap_cons, ih]
    · rw [if_neg hq, if_neg hq, ih]
theorem tally_eq (s : Vahypa.Lst) (ps : List Vahypa.Pat) (v len : Nat) : tally (wordsOf s ps) (v : Int) len = ((pcsAt s len (Vahypb.helps s ps v)).foldl addOne [], (pcsAt s len (Vahypb.hurts s ps v)).foldl addOne []) := by
  unfold tally
  rw [word_tally, odd_dec]
  unfold wordsOf pcsAt
  rw [List.flatMap_map, List.flatMap_map]
  refine congr (congrArg Prod.mk (congrArg (List.foldl addOne []) ?_)) (congrArg (List.foldl addOne []) ?_)
  · refine congrArg (fun f => s.words.flatMap f) (funext fun w => ?_)
    refine (flat_filter_map _ _ (fun g => if v % 2 = 1 then w.cuts.contains g && !Vahypb.partedNow ps w.x g else !w.cuts.contains g && Vahypb.partedNow ps w.x g) (fun g => ?_) _ _)
    show (Vahypb.partedNow ps w.x g != decide (v % 2 = 1) && w.cuts.contains g == decide (v % 2 = 1)) = _
    by_cases h : v % 2 = 1
    · rw [decide_eq_true h, if_pos h]
      cases Vahypb.partedNow ps w.x g <;> cases w.cuts.contains g <;> rfl
    · rw [decide_eq_false h, if_neg h]
      cases Vahypb.partedNow ps w.x g <;> cases w.cuts.contains g <;> rfl
  · refine congrArg (fun f => s.words.flatMap f) (funext fun w => ?_)
    refine (flat_filter_map _ _ (fun g => if v % 2 = 1 then !w.cuts.contains g && !Vahypb.partedNow ps w.x g else w.cuts.contains g && Vahypb.partedNow ps w.x g) (fun g => ?_) _ _)
    show (Vahypb.partedNow ps w.x g != decide (v % 2 = 1) && w.cuts.contains g != decide (v % 2 = 1)) = _
    by_cases h : v % 2 = 1
    · rw [decide_eq_true h, if_pos h]
      cases Vahypb.partedNow ps w.x g <;> cases w.cuts.contains g <;> rfl
    · rw [decide_eq_false h, if_neg h]
      cases Vahypb.partedNow ps w.x g <;> cases w.cuts.contains g <;> rfl
end PM
set_option Elab.async false
set_option linter.all false
/-! # The mirror is the specification: pieces -/
namespace PM
open VahypBase (Bytes Toks)
theorem fm_congr {α β : Type} {f h : α → Option β} : ∀ {l : List α}, (∀ a ∈ l, f a = h a) → l.filterMap f = l.filterMap h
  | [], _ => rfl
  | a :: r, e => by rw [List.filterMap_cons, List.filterMap_cons, e a List.mem_cons_self, fm_congr fun b hb => e b (List.mem_cons_of_mem _ hb)]
theorem window {β : Type} (f : Nat → Option β) (lo : Nat) : ∀ (N hi : Nat), hi ≤ N → (List.range (hi - lo)).filterMap (fun i => f (lo + i)) = (List.range N).filterMap fun b => if lo ≤ b ∧ b < hi then f b else none
  | 0, hi, h => by
    have : hi = 0 := by omega
    subst this
    rw [Nat.zero_sub]
    rfl
  | N + 1, hi, h => by
    rw [List.range_succ, List.filterMap_append]
    by_cases h1 : hi ≤ N
    · rw [← window f lo N hi h1, List.filterMap_cons, if_neg (by omega)]
      exact (List.append_nil _).symm
    · have hh : hi = N + 1 := by omega
      subst hh
      by_cases h2 : lo ≤ N
      · have ih := window f lo N N (Nat.le_refl _)
        rw [show N + 1 - lo = (N - lo) + 1 by omega, List.range_succ, List.filterMap_append, ih, show ([N - lo].filterMap fun i => f (lo + i)) = [N].filterMap f by rw [List.filterMap_cons, List.filterMap_cons, show lo + (N - lo) = N by omega]; rfl]
        congr 1
        · refine fm_congr fun b hb => ?_
          have := List.mem_range.mp hb
          by_cases h3 : lo ≤ b ∧ b < N
          · rw [if_pos h3, if_pos ⟨h3.1, by omega⟩]
          · rw [if_neg h3, if_neg fun z => h3 ⟨z.1, this⟩]
        · rw [List.filterMap_cons, List.filterMap_cons, if_pos ⟨h2, Nat.lt_succ_self _⟩]
          rfl
      · rw [show N + 1 - lo = 0 by omega]
        symm
        rw [← List.filterMap_append, ← List.range_succ]
        refine List.filterMap_eq_nil_iff.mpr fun b hb => if_neg fun z => ?_
        have := List.mem_range.mp hb
        omega
def encC (p : Vahypa.Pat) : Pc := ((encP p).1, ((Vahypb.spot p : Nat) : Int))
theorem single_len (s v n : Nat) : (Vahypb.single s v n).length = n + 1 := by
  unfold Vahypb.single
  rw [List.length_map, List.length_range]
theorem single_get {s v n i : Nat} (hi : i < (Vahypb.single s v n).length) : (Vahypb.single s v n)[i] = if i = s then v else 0 := by
  simp [Vahypb.single]
theorem single_spot {s v n : Nat} (hv : v ≠ 0) (hs : s ≤ n) : (Vahypb.single s v n).findIdx (fun v => v != 0) = s := by
  refine (List.findIdx_eq (by rw [single_len]; omega)).mpr ⟨?_, fun j hj => ?_⟩
  · rw [single_get, if_pos rfl]; simpa using hv
  · rw [single_get, if_neg (by omega)]; rfl
theorem key_len (p : Vahypa.Pat) : (encP p).1.length = (edge p.front).length + (p.x.length + (edge p.halt_).length) := by
  rw [encP_fst, List.length_append, List.length_append, ints_len]
theorem key_count {p : Vahypa.Pat} (h : p.x.all VahypBase.isLetter = true) : (encP p).1.count 46 = (edge p.front).length + (edge p.halt_).length := by
  have e : ∀ b : Bool, (edge b).count 46 = (edge b).length := fun b => by cases b <;> rfl
  rw [encP_fst, List.count_append, List.count_append, count_ints h, e, e, Nat.zero_add]
def CGood (v len : Nat) (p : Vahypa.Pat) : Prop := PGood p ∧ (∃ s, s ≤ p.x.length ∧ p.levels = Vahypb.single s v p.x.length) ∧ (encP p).1.length = len
/-- the piece at a begin -/
def pieceB (x : Bytes) (b len k v : Nat) : Vahypa.Pat :=
  let m := len - (edge (b == 0)).length - (edge (b + len == x.length + 2)).length
  ⟨b == 0, (x.drop (b - 1)).take m, b + len == x.length + 2, Vahypb.single (k - (b - 1)) v m⟩
theorem piece_spec {x : Bytes} {g len b v : Nat} (hg1 : 1 ≤ g) (hg2 : g + 1 ≤ x.length) : Vahypb.pieceAt x b len g v =
    if (len = 0 ∨ x.length + 2 < b + len ∨ g + 1 < b ∨ b + len < g + 1) ∨ 6 < (pieceB x b len g v).x.length then none else some (pieceB x b len g v) := by
  unfold Vahypb.pieceAt
  dsimp only
  by_cases h : len = 0 ∨ x.length + 2 < b + len ∨ g + 1 < b ∨ b + len < g + 1
  · rw [if_pos h, if_pos (Or.inl h)]
  · rw [if_neg h]
    have hf : (if b = 0 then 0 else b - 1) = b - 1 := by split <;> omega
    have e1 : (if (b == 0) = true then 1 else 0) = (edge (b == 0)).length := (edge_len _).symm
    have e2 : (if (b + len == x.length + 2) = true then 1 else 0) = (edge (b + len == x.length + 2)).length := (edge_len _).symm
    rw [hf, e1, e2]
    have hb : (b = 0 ∧ (edge (b == 0)).length = 1) ∨ (1 ≤ b ∧ (edge (b == 0)).length = 0) := by
      by_cases hb : b = 0
      · subst hb; exact Or.inl ⟨rfl, rfl⟩
      · rw [beq_eq_false_iff_ne.mpr hb]; exact Or.inr ⟨by omega, rfl⟩
    have hh : (b + len = x.length + 2 ∧ (edge (b + len == x.length + 2)).length = 1) ∨ (b + len ≠ x.length + 2 ∧ (edge (b + len == x.length + 2)).length = 0) := by
      by_cases hb : b + len = x.length + 2
      · rw [hb, beq_self_eq_true]; exact Or.inl ⟨rfl, rfl⟩
      · rw [beq_eq_false_iff_ne.mpr hb]; exact Or.inr ⟨hb, rfl⟩
    have hxl : (pieceB x b len g v).x.length = len - (edge (b == 0)).length - (edge (b + len == x.length + 2)).length := by
      show ((x.drop (b - 1)).take _).length = _
      rw [List.length_take, List.length_drop]
      omega
    rw [hxl]
    have h6 : Vahypa.PIECE = 6 := rfl
    by_cases h7 : 6 < len - (edge (b == 0)).length - (edge (b + len == x.length + 2)).length
    · rw [if_pos (Or.inr (Or.inl (by omega))), if_pos (Or.inr h7)]
    · rw [if_neg (by omega), if_neg (fun z => z.elim h h7)]
      rfl
theorem piece_facts {x : Bytes} (hx : x.all VahypBase.isLetter = true) {g len b v : Nat} (hg1 : 1 ≤ g) (hg2 : g + 1 ≤ x.length) (h : ¬ (len = 0 ∨ x.length + 2 < b + len ∨ g + 1 < b ∨ b + len < g + 1)) :
    let p := pieceB x b len g v
    p.x.all VahypBase.isLetter = true ∧ 1 ≤ p.x.length ∧ (encP p).1.length = len ∧ g - (b - 1) ≤ p.x.length ∧ b - 1 ≤ g ∧ p.levels = Vahypb.single (g - (b - 1)) v p.x.length ∧ cut (rowB x) b (b + len) = (encP p).1 := by
  intro p
  have hb : (b = 0 ∧ (edge (b == 0)).length = 1) ∨ (1 ≤ b ∧ (edge (b == 0)).length = 0) := by
    by_cases hb : b = 0
    · subst hb; exact Or.inl ⟨rfl, rfl⟩
    · rw [beq_eq_false_iff_ne.mpr hb]; exact Or.inr ⟨by omega, rfl⟩
  have hh : (b + len = x.length + 2 ∧ (edge (b + len == x.length + 2)).length = 1) ∨ (b + len ≠ x.length + 2 ∧ (edge (b + len == x.length + 2)).length = 0) := by
    by_cases hb : b + len = x.length + 2
    · rw [hb, beq_self_eq_true]; exact Or.inl ⟨rfl, rfl⟩
    · rw [beq_eq_false_iff_ne.mpr hb]; exact Or.inr ⟨hb, rfl⟩
  have hxl : p.x.length = len - (edge (b == 0)).length - (edge (b + len == x.length + 2)).length := by
    show ((x.drop (b - 1)).take _).length = _
    rw [List.length_take, List.length_drop]
    omega
  have hlet : p.x.all VahypBase.isLetter = true := all_take (all_drop hx _) _
  have h1 : 1 ≤ p.x.length := by omega
  have hkl : (encP p).1.length = len := by
    rw [key_len]
    show (edge (b == 0)).length + (p.x.length + (edge (b + len == x.length + 2)).length) = len
    omega
  refine ⟨hlet, h1, hkl, by omega, by omega, ?_, ?_⟩
  · rw [hxl]; rfl
  · refine (fit_cut hx ⟨hlet, h1⟩ (by omega) (by omega)).mpr ⟨fits_iff.mpr ⟨by omega, ?_, fun z => ?_, fun z => ?_⟩, ?_, by rw [hkl]⟩
    · rw [hxl]; rfl
    · have z : (b == 0) = true := z
      have := beq_iff_eq.mp z
      omega
    · have z : (b + len == x.length + 2) = true := z
      have := beq_iff_eq.mp z
      omega
    · exact beq_iff_eq
theorem piece_at {x : Bytes} (hx : x.all VahypBase.isLetter = true) {g len b v : Nat} (hg1 : 1 ≤ g) (hg2 : g + 1 ≤ x.length) (hv : v ≠ 0) (hlen : 1 ≤ len) :
    (if pieceLo (g : Int) len ≤ b ∧ b < pieceHi (rowB x) (g : Int) len then pieceAt (rowB x) (g : Int) len b else none) = (Vahypb.pieceAt x b len g v).map encC := by
  rw [piece_spec hg1 hg2]
  have hw : (pieceLo (g : Int) len ≤ b ∧ b < pieceHi (rowB x) (g : Int) len) ↔ ¬ (len = 0 ∨ x.length + 2 < b + len ∨ g + 1 < b ∨ b + len < g + 1) := by
    unfold pieceLo pieceHi
    rw [rowB_len]
    omega
  by_cases h : len = 0 ∨ x.length + 2 < b + len ∨ g + 1 < b ∨ b + len < g + 1
  · rw [if_neg fun z => hw.mp z h, if_pos (Or.inl h)]
    rfl
  · obtain ⟨f1, f2, f3, f4, f5, f6, f7⟩ := piece_facts hx hg1 hg2 (v := v) h
    rw [if_pos (hw.mpr h)]
    unfold pieceAt
    rw [f7, key_count f1]
    have hk := key_len (pieceB x b len g v)
    rw [f3] at hk
    by_cases h6 : 6 < (pieceB x b len g v).x.length
    · rw [if_neg (by omega), if_pos (Or.inr h6)]
      rfl
    · rw [if_pos (by omega), if_neg (fun z => z.elim h h6)]
      show some ((encP (pieceB x b len g v)).1, (g : Int) - ((b - 1 : Nat) : Int)) = some ((encP (pieceB x b len g v)).1, ((Vahypb.spot (pieceB x b len g v) : Nat) : Int))
      unfold Vahypb.spot
      rw [f6, single_spot hv f4, show (g : Int) - ((b - 1 : Nat) : Int) = ((g - (b - 1) : Nat) : Int) by omega]
theorem piece_good {x : Bytes} (hx : x.all VahypBase.isLetter = true) {g len b v : Nat} (hg1 : 1 ≤ g) (hg2 : g + 1 ≤ x.length) (hv : v ≤ 9) {p : Vahypa.Pat} (h : Vahypb.pieceAt x b len g v = some p) : CGood v len p := by
  rw [piece_spec hg1 hg2] at h
  split at h
  · cases h
  · rename_i hn
    injection h with h
    subst h
    obtain ⟨f1, f2, f3, f4, f5, f6, f7⟩ := piece_facts hx hg1 hg2 (v := v) fun z => hn (Or.inl z)
    refine ⟨⟨f1, f2, Nat.le_of_not_lt fun z => hn (Or.inr z), by rw [f6, single_len], fun y hy => ?_⟩, ⟨_, f4, f6⟩, f3⟩
    rw [f6] at hy
    unfold Vahypb.single at hy
    obtain ⟨i, _, e⟩ := List.mem_map.mp hy
    split at e <;> omega
theorem pieces_eq {x : Bytes} (hx : x.all VahypBase.isLetter = true) {g len v : Nat} (hg1 : 1 ≤ g) (hg2 : g + 1 ≤ x.length) (hv : v ≠ 0) (hlen : 1 ≤ len) :
    piecesWith (rowB x) (g : Int) len = ((List.range (x.length + 2)).filterMap fun b => Vahypb.pieceAt x b len g v).map encC := by
  unfold piecesWith
  rw [window _ _ (x.length + 2) (pieceHi (rowB x) (g : Int) len) (by unfold pieceHi; rw [rowB_len]; omega), List.map_filterMap]
  exact congrArg (fun f => (List.range (x.length + 2)).filterMap f) (funext fun b => piece_at hx hg1 hg2 hv hlen)
end PM
set_option Elab.async false
set_option linter.all false
/-! # The mirror is the specification: candidates and their counts -/
namespace PM
open VahypBase (Bytes Toks)
theorem count_fm {β : Type} [BEq β] [LawfulBEq β] (F : Nat → Option β) (k : β) : ∀ l : List Nat, (l.filterMap F).count k = (l.filter fun b => F b == some k).length
  | [] => rfl
  | b :: r => by
    rw [List.filterMap_cons, List.filter_cons]
    cases hF : F b with
    | none =>
      rw [if_neg (by intro z; cases z)]
      exact count_fm F k r
    | some y =>
      by_cases hy : y = k
      · rw [hy, if_pos (by simp)]
        show (k :: r.filterMap F).count k = _
        rw [List.count_cons_self, count_fm F k r, List.length_cons]
      · rw [if_neg (by simpa using hy)]
        show (y :: r.filterMap F).count k = _
        rw [List.count_cons_of_ne hy, count_fm F k r]
theorem stands_iff {p : Vahypa.Pat} {x : Bytes} {g : Nat} : Vahypb.standsAt p x g = true ↔ (Vahypb.spot p ≤ g ∧ Vahypa.fitsAt p x (g - Vahypb.spot p) = true) := by
  unfold Vahypb.standsAt
  rw [Bool.and_eq_true, decide_eq_true_iff]
theorem count_pieces {p : Vahypa.Pat} (hp : PGood p) (hs : Vahypb.spot p ≤ p.x.length) {x : Bytes} (hx : x.all VahypBase.isLetter = true) {g : Nat} (hg1 : 1 ≤ g) (hg2 : g + 1 ≤ x.length) :
    (piecesWith (rowB x) (g : Int) (encP p).1.length).count (encC p) = if Vahypb.standsAt p x g = true then 1 else 0 := by
  have hk := key_len p
  have hc := key_count hp.1
  have h1 := hp.2.1
  have h6 := hp.2.2.1
  have hF : ∀ b, (if pieceLo (g : Int) (encP p).1.length ≤ b ∧ b < pieceHi (rowB x) (g : Int) (encP p).1.length then pieceAt (rowB x) (g : Int) (encP p).1.length b else none) = some (encC p) ↔
      ((b + (encP p).1.length ≤ x.length + 2 ∧ b ≤ g + 1 ∧ g + 1 ≤ b + (encP p).1.length) ∧ Vahypa.fitsAt p x (b - 1) = true ∧ (p.front = true ↔ b = 0) ∧ b - 1 + Vahypb.spot p = g) := by
    intro b
    have hw : (pieceLo (g : Int) (encP p).1.length ≤ b ∧ b < pieceHi (rowB x) (g : Int) (encP p).1.length) ↔ (b + (encP p).1.length ≤ x.length + 2 ∧ b ≤ g + 1 ∧ g + 1 ≤ b + (encP p).1.length) := by
      unfold pieceLo pieceHi
      rw [rowB_len]
      omega
    by_cases h : b + (encP p).1.length ≤ x.length + 2 ∧ b ≤ g + 1 ∧ g + 1 ≤ b + (encP p).1.length
    · rw [if_pos (hw.mpr h)]
      have hfc := fit_cut hx ⟨hp.1, hp.2.1⟩ (b := b) (e := b + (encP p).1.length) (by omega) h.1
      unfold pieceAt
      constructor
      · intro z
        split at z
        · injection z with z
          injection z with z1 z2
          have hf := hfc.mp z1
          refine ⟨h, hf.1, hf.2.1, ?_⟩
          unfold firstGap at z2
          have z2 : (g : Int) - ((b - 1 : Nat) : Int) = ((Vahypb.spot p : Nat) : Int) := z2
          omega
        · cases z
      · rintro ⟨_, z1, z2, z3⟩
        have hf := hfc.mpr ⟨z1, z2, rfl⟩
        rw [hf, hc, if_pos (by omega)]
        unfold encC firstGap
        rw [show (g : Int) - ((b - 1 : Nat) : Int) = ((Vahypb.spot p : Nat) : Int) by omega]
    · rw [if_neg fun z => h (hw.mp z)]
      exact ⟨fun z => (by cases z), fun z => absurd z.1 h⟩
  unfold piecesWith
  rw [window _ _ (x.length + 2) (pieceHi (rowB x) (g : Int) (encP p).1.length) (by unfold pieceHi; rw [rowB_len]; omega), count_fm]
  by_cases hst : Vahypb.standsAt p x g = true
  · rw [if_pos hst]
    obtain ⟨s1, s2⟩ := stands_iff.mp hst
    obtain ⟨f1, f2, f3, f4⟩ := fits_iff.mp s2
    have hb : ∃ b : Nat, b - 1 = g - Vahypb.spot p ∧ (p.front = true ↔ b = 0) ∧ b + (edge p.front).length = g - Vahypb.spot p + 1 := by
      cases hfr : p.front with
      | true => exact ⟨0, by rw [f3 hfr], by simp, by rw [f3 hfr]; rfl⟩
      | false => exact ⟨g - Vahypb.spot p + 1, rfl, by simp, rfl⟩
    obtain ⟨b, hb1, hb2, hb3⟩ := hb
    have hend : (edge p.halt_).length ≤ 1 ∧ (g - Vahypb.spot p) + p.x.length + (edge p.halt_).length ≤ x.length + 1 := by
      cases hh : p.halt_ with
      | true => have := f4 hh; rw [show (edge true).length = 1 from rfl]; omega
      | false => rw [show (edge false).length = 0 from rfl]; omega
    have hin := (hF b).mpr ⟨⟨by omega, by omega, by omega⟩, by rw [hb1]; exact s2, hb2, by omega⟩
    refine congrArg List.length (sorted_eq (l2 := [b]) (List.pairwise_lt_range.filter _) (List.pairwise_singleton ..) fun c => ?_)
    rw [List.mem_filter, List.mem_singleton, List.mem_range]
    constructor
    · rintro ⟨_, z⟩
      have z := (hF c).mp (eq_of_beq z)
      by_cases hz : p.front = true
      · rw [z.2.2.1.mp hz, hb2.mp hz]
      · have h1 : c ≠ 0 := fun y => hz (z.2.2.1.mpr y)
        have h2 : b ≠ 0 := fun y => hz (hb2.mpr y)
        omega
    · rintro rfl
      exact ⟨by omega, by rw [hin]; exact beq_self_eq_true _⟩
  · rw [if_neg hst]
    refine List.length_eq_zero_iff.mpr (List.filter_eq_nil_iff.mpr fun c _ z => hst ?_)
    have z := (hF c).mp (eq_of_beq z)
    exact stands_iff.mpr ⟨by omega, by rw [show g - Vahypb.spot p = c - 1 by omega]; exact z.2.1⟩
theorem count_flat {α β : Type} [BEq β] [LawfulBEq β] (f : α → List β) (k : β) (q : α → Bool) : ∀ l : List α, (∀ a ∈ l, (f a).count k = if q a = true then 1 else 0) → (l.flatMap f).count k = (l.filter q).length
  | [], _ => rfl
  | a :: r, h => by
    rw [List.flatMap_cons, List.count_append, count_flat f k q r (fun b hb => h b (List.mem_cons_of_mem _ hb)), h a List.mem_cons_self, List.filter_cons]
    by_cases hq : q a = true
    · rw [if_pos hq, if_pos hq, List.length_cons, Nat.add_comm]
    · rw [if_neg hq, if_neg hq, Nat.zero_add]
theorem helps_in {s : Vahypa.Lst} {ps : List Vahypa.Pat} {v : Nat} {w : Vahypa.Word} {g : Nat} (h : g ∈ Vahypb.helps s ps v w) : 1 ≤ g ∧ g + 1 ≤ w.x.length := by
  unfold Vahypb.helps at h
  have := (List.mem_filter.mp h).1
  rw [inside_eq] at this
  exact (mem_inside.mp this).1
theorem hurts_in {s : Vahypa.Lst} {ps : List Vahypa.Pat} {v : Nat} {w : Vahypa.Word} {g : Nat} (h : g ∈ Vahypb.hurts s ps v w) : 1 ≤ g ∧ g + 1 ≤ w.x.length := by
  unfold Vahypb.hurts at h
  have := (List.mem_filter.mp h).1
  rw [inside_eq] at this
  exact (mem_inside.mp this).1
theorem counts_eq {s : Vahypa.Lst} (hs : ∀ w ∈ s.words, WGood w) {ps : List Vahypa.Pat} {v : Nat} {p : Vahypa.Pat} (hp : PGood p) (hsp : Vahypb.spot p ≤ p.x.length) :
    Vahypb.countIn (Vahypb.tables s ps v) p = ((pcsAt s (encP p).1.length (Vahypb.helps s ps v)).count (encC p), (pcsAt s (encP p).1.length (Vahypb.hurts s ps v)).count (encC p)) := by
  unfold Vahypb.countIn Vahypb.tables pcsAt
  have gen : ∀ (ws : List Vahypa.Word), (∀ w ∈ ws, WGood w) → ∀ c : Nat × Nat, (ws.map fun w => (w, Vahypb.helps s ps v w, Vahypb.hurts s ps v w)).foldl (fun c w => (c.1 + (w.2.1.filter (Vahypb.standsAt p w.1.x)).length, c.2 + (w.2.2.filter (Vahypb.standsAt p w.1.x)).length)) c =
      (c.1 + (ws.flatMap fun w => (Vahypb.helps s ps v w).flatMap fun (g : Nat) => piecesWith (rowB w.x) (g : Int) (encP p).1.length).count (encC p), c.2 + (ws.flatMap fun w => (Vahypb.hurts s ps v w).flatMap fun (g : Nat) => piecesWith (rowB w.x) (g : Int) (encP p).1.length).count (encC p)) := by
    intro ws
    induction ws with
    | nil => exact fun _ _ => rfl
    | cons w r ih =>
      intro hw c
      have hx := (hw w List.mem_cons_self).1
      have a1 := count_flat (fun (g : Nat) => piecesWith (rowB w.x) (g : Int) (encP p).1.length) (encC p) (Vahypb.standsAt p w.x) (Vahypb.helps s ps v w) fun g hg => count_pieces hp hsp hx (helps_in hg).1 (helps_in hg).2
      have a2 := count_flat (fun (g : Nat) => piecesWith (rowB w.x) (g : Int) (encP p).1.length) (encC p) (Vahypb.standsAt p w.x) (Vahypb.hurts s ps v w) fun g hg => count_pieces hp hsp hx (hurts_in hg).1 (hurts_in hg).2
      rw [List.map_cons, List.foldl_cons, ih fun v hv => hw v (List.mem_cons_of_mem _ hv), List.flatMap_cons, List.flatMap_cons, List.count_append, List.count_append, a1, a2]
      dsimp only
      rw [Nat.add_assoc, Nat.add_assoc]
  have := gen s.words hs (0, 0)
  rw [Nat.zero_add, Nat.zero_add] at this
  exact this
theorem pcs_eq {s : Vahypa.Lst} (hs : ∀ w ∈ s.words, WGood w) {ps : List Vahypa.Pat} {v len : Nat} (hv : v ≠ 0) (hlen : 1 ≤ len) : pcsAt s len (Vahypb.helps s ps v) = (Vahypb.piecesOf s ps v len).map encC := by
  unfold pcsAt Vahypb.piecesOf
  rw [List.map_flatMap]
  have fl : ∀ {α β : Type} {f h : α → List β} (l : List α), (∀ a ∈ l, f a = h a) → l.flatMap f = l.flatMap h := by
    intro α β f h l
    induction l with
    | nil => exact fun _ => rfl
    | cons a r ih => intro e; rw [List.flatMap_cons, List.flatMap_cons, e a List.mem_cons_self, ih fun b hb => e b (List.mem_cons_of_mem _ hb)]
  refine fl _ fun w hw => ?_
  rw [List.map_flatMap]
  exact fl _ fun g hg => pieces_eq (hs w hw).1 (helps_in hg).1 (helps_in hg).2 hv hlen
theorem piecesOf_good {s : Vahypa.Lst} (hs : ∀ w ∈ s.words, WGood w) {ps : List Vahypa.Pat} {v len : Nat} (hv : v ≤ 9) {p : Vahypa.Pat} (h : p ∈ Vahypb.piecesOf s ps v len) : CGood v len p := by
  unfold Vahypb.piecesOf at h
  obtain ⟨w, hw, h⟩ := List.mem_flatMap.mp h
  obtain ⟨g, hg, h⟩ := List.mem_flatMap.mp h
  obtain ⟨b, _, h⟩ := List.mem_filterMap.mp h
  exact piece_good (hs w hw).1 (helps_in hg).1 (helps_in hg).2 hv h
theorem cand_spot {v len : Nat} (hv : v ≠ 0) {p : Vahypa.Pat} (h : CGood v len p) : Vahypb.spot p ≤ p.x.length ∧ p.levels = Vahypb.single (Vahypb.spot p) v p.x.length := by
  obtain ⟨s, hs, e⟩ := h.2.1
  have : Vahypb.spot p = s := by
    unfold Vahypb.spot
    rw [e, single_spot hv hs]
  rw [this]
  exact ⟨hs, e⟩
theorem encC_inj {v len : Nat} (hv : v ≠ 0) {p q : Vahypa.Pat} (hp : CGood v len p) (hq : CGood v len q) (h : encC p = encC q) : p = q := by
  injection h with h1 h2
  have hk := (encP_key hp.1 hq.1).mp h1
  have hsp := cand_spot hv hp
  have hsq := cand_spot hv hq
  have hs : Vahypb.spot p = Vahypb.spot q := by omega
  have hl : p.levels = q.levels := by rw [hsp.2, hsq.2, hs, hk.2.1]
  obtain ⟨a, b, c, d⟩ := p
  obtain ⟨a', b', c', d'⟩ := q
  obtain ⟨k1, k2, k3⟩ := hk
  dsimp only at k1 k2 k3 hl
  rw [k1, k2, k3, hl]
theorem digits_eq {v len : Nat} (hv : v ≠ 0) {p : Vahypa.Pat} (h : CGood v len p) : singleDigits (encP p).1 (Vahypb.spot p) (v : Int) = (encP p).2 := by
  have hs := cand_spot hv h
  have hl : lettersIn (encP p).1 = p.x.length := by
    unfold lettersIn
    rw [key_len, key_count h.1.1]
    omega
  unfold singleDigits
  rw [hl]
  show _ = nint p.levels
  rw [hs.2]
  generalize Vahypb.spot p = k at hs
  refine List.ext_getElem? fun i => ?_
  unfold nint Vahypb.single
  rw [List.getElem?_set, List.getElem?_map, List.getElem?_map, List.length_replicate, List.getElem?_replicate]
  by_cases hi : i < p.x.length + 1
  · rw [List.getElem?_range hi, if_pos hi]
    by_cases hk : k = i
    · subst hk
      rw [if_pos rfl, if_pos hi]
      show _ = some (((if k = k then v else 0 : Nat)) : Int)
      rw [if_pos rfl]
    · rw [if_neg hk]
      show _ = some (((if i = k then v else 0 : Nat)) : Int)
      rw [if_neg fun z => hk z.symm]
      rfl
  · rw [List.getElem?_eq_none (by rw [List.length_range]; omega), if_neg hi, if_neg (by omega)]
    rfl
/-- a candidate as the program holds it -/
def candC (t : List (Vahypa.Word × List Nat × List Nat)) (p : Vahypa.Pat) : Cand := ⟨(encP p).1, (encP p).2, ((Vahypb.countIn t p).1 : Int), ((Vahypb.countIn t p).2 : Int)⟩
theorem cands_eq {s : Vahypa.Lst} (hs : ∀ w ∈ s.words, WGood w) {ps : List Vahypa.Pat} (hps : PSet ps) {v len : Nat} (hv : v ≠ 0) (hv9 : v ≤ 9) (hlen : 1 ≤ len) :
    candidatesOf (partedWords (encL s) (ps.map encP)) (v : Int) len = (Vahypb.candidates s ps v len).map (candC (Vahypb.tables s ps v)) := by
  unfold candidatesOf
  rw [parted_eq hs hps, tally_eq]
  dsimp only
  rw [pcs_eq hs hv hlen, tally_table ((Vahypb.piecesOf s ps v len).map encC), dedup_map encC _ fun a ha b hb e => encC_inj hv (piecesOf_good hs hv9 ha) (piecesOf_good hs hv9 hb) e, List.map_map, List.map_map]
  refine List.map_congr_left fun p hp => ?_
  have hg := piecesOf_good hs hv9 (dedup_mem.mp hp)
  have hsp := cand_spot hv hg
  have hc := counts_eq hs (ps := ps) (v := v) hg.1 hsp.1
  rw [hg.2.2] at hc
  show (⟨(encP p).1, singleDigits (encP p).1 ((Vahypb.spot p : Nat) : Int).toNat (v : Int), _, (dget ((pcsAt s len (Vahypb.hurts s ps v)).foldl addOne []) (encC p)).getD 0⟩ : Cand) = _
  rw [Int.toNat_natCast, digits_eq hv hg, tally_get, ← pcs_eq hs hv hlen]
  unfold candC
  rw [hc]
theorem counts_ge {s : Vahypa.Lst} (hs : ∀ w ∈ s.words, WGood w) {ps : List Vahypa.Pat} {v len : Nat} (hv : v ≠ 0) (hv9 : v ≤ 9) (hlen : 1 ≤ len) {p : Vahypa.Pat} (hp : p ∈ Vahypb.candidates s ps v len) : 1 ≤ (Vahypb.countIn (Vahypb.tables s ps v) p).1 := by
  have hm := dedup_mem.mp hp
  have hg := piecesOf_good hs hv9 hm
  have hsp := cand_spot hv hg
  have hc := counts_eq hs (ps := ps) (v := v) hg.1 hsp.1
  rw [hg.2.2] at hc
  rw [hc, pcs_eq hs hv hlen]
  exact List.count_pos_iff.mpr (List.mem_map_of_mem hm)
end PM
set_option Elab.async false
set_option linter.all false
/-! # The mirror is the specification: patterns put together, rounds -/
namespace PM
open VahypBase (Bytes Toks)
theorem same_eq (p q : Vahypa.Pat) : Vahypb.sameLetters p q = samePat p q := by
  unfold Vahypb.sameLetters samePat
  rw [Bool.eq_iff_iff]
  simp only [Bool.and_eq_true, beq_iff_eq]
  exact ⟨fun ⟨a, b, c⟩ => ⟨a.symm, b.symm, c.symm⟩, fun ⟨a, b, c⟩ => ⟨a.symm, b.symm, c.symm⟩⟩
theorem zip_self : ∀ l : Ns, (l.zip l).map (fun p => max p.1 p.2) = l
  | [] => rfl
  | a :: r => by rw [List.zip_cons_cons, List.map_cons, zip_self r]; congr 1; exact Int.max_self a
theorem zip_max : ∀ a b : List Nat, ((nint a).zip (nint b)).map (fun p => max p.1 p.2) = nint (Vahypb.greater a b)
  | [], b => rfl
  | a :: r, [] => rfl
  | a :: r, b :: s => by
    show max (a : Int) (b : Int) :: ((nint r).zip (nint s)).map (fun p => max p.1 p.2) = ((Nat.max a b : Nat) : Int) :: nint (Vahypb.greater r s)
    rw [zip_max r s]
    congr 1
    show max (a : Int) (b : Int) = ((max a b : Nat) : Int)
    omega
theorem greater_len (a b : List Nat) (h : a.length = b.length) : (Vahypb.greater a b).length = a.length := by
  unfold Vahypb.greater
  rw [List.length_map, List.length_zip, h, Nat.min_self]
theorem greater_le {a b : List Nat} (ha : ∀ v ∈ a, v ≤ 9) (hb : ∀ v ∈ b, v ≤ 9) : ∀ v ∈ Vahypb.greater a b, v ≤ 9 := by
  intro v hv
  unfold Vahypb.greater at hv
  obtain ⟨x, hx, e⟩ := List.mem_map.mp hv
  have h1 := ha x.1 (List.of_mem_zip hx).1
  have h2 := hb x.2 (List.of_mem_zip hx).2
  rw [← e]
  exact Nat.max_le.mpr ⟨h1, h2⟩
theorem key_iff {p q : Vahypa.Pat} (hp : PGood p) (hq : PGood q) : (encP q).1 = (encP p).1 ↔ samePat p q = true := (encP_key hq hp).trans samePat_iff.symm
/-- what addPat makes of a pattern there -/
def lift (p q : Vahypa.Pat) : Vahypa.Pat := if Vahypb.sameLetters p q = true then { q with levels := Vahypb.greater q.levels p.levels } else q
theorem lift_x (p q : Vahypa.Pat) : (lift p q).x = q.x ∧ (lift p q).front = q.front ∧ (lift p q).halt_ = q.halt_ := by
  unfold lift
  split <;> exact ⟨rfl, rfl, rfl⟩
theorem lift_good {p q : Vahypa.Pat} (hp : PGood p) (hq : PGood q) : PGood (lift p q) := by
  unfold lift
  split
  · rename_i hs
    rw [same_eq] at hs
    have hx := (samePat_iff.mp hs).2.1
    have hl : q.levels.length = p.levels.length := by rw [hq.2.2.2.1, hp.2.2.2.1, hx]
    exact ⟨hq.1, hq.2.1, hq.2.2.1, (greater_len _ _ hl).trans hq.2.2.2.1, greater_le hq.2.2.2.2 hp.2.2.2.2⟩
  · exact hq
theorem samePat_cong {a b c d : Vahypa.Pat} (h1 : c.x = a.x ∧ c.front = a.front ∧ c.halt_ = a.halt_) (h2 : d.x = b.x ∧ d.front = b.front ∧ d.halt_ = b.halt_) : samePat c d = samePat a b := by
  unfold samePat
  rw [h1.1, h1.2.1, h1.2.2, h2.1, h2.2.1, h2.2.2]
theorem put_eq {ps : List Vahypa.Pat} (h : PSet ps) {p : Vahypa.Pat} (hp : PGood p) : putPattern (ps.map encP) (encP p).1 (encP p).2 = (Vahypb.addPat ps p).map encP ∧ PSet (Vahypb.addPat ps p) := by
  have hd := dget_pats h.1 hp
  have hany : ps.any (Vahypb.sameLetters p) = ps.any (samePat p) := by rw [show Vahypb.sameLetters p = samePat p from funext (same_eq p)]
  unfold Vahypb.addPat putPattern
  rw [hany]
  by_cases ha : ps.any (samePat p) = true
  · rw [if_pos ha]
    obtain ⟨q, hq, hs⟩ := List.any_eq_true.mp ha
    have hqk := (key_iff hp (h.1 q hq)).mpr hs
    have hg : dget (ps.map encP) (encP p).1 = some (encP q).2 := (dget_mem_iff h).mpr ⟨q, hq, by rw [← hqk]⟩
    rw [hg]
    constructor
    · unfold dput
      rw [if_pos, List.map_map, List.map_map]
      · refine List.map_congr_left fun v hv => ?_
        show (if (encP v).1 = (encP p).1 then ((encP v).1, _) else encP v) = encP (lift p v)
        by_cases hk : (encP v).1 = (encP p).1
        · have hs2 := (key_iff hp (h.1 v hv)).mp hk
          have hg2 : dget (ps.map encP) (encP p).1 = some (encP v).2 := (dget_mem_iff h).mpr ⟨v, hv, by rw [← hk]⟩
          rw [hg] at hg2
          injection hg2 with hg2
          rw [if_pos hk]
          unfold lift
          rw [same_eq, if_pos hs2, hg2]
          show ((encP v).1, ((nint v.levels).zip (nint p.levels)).map fun p => max p.1 p.2) = ((encP v).1, nint (Vahypb.greater v.levels p.levels))
          rw [zip_max]
        · rw [if_neg hk]
          unfold lift
          rw [same_eq, if_neg fun z => hk ((key_iff hp (h.1 v hv)).mpr z)]
      · rw [List.any_map, List.any_eq_true]
        exact ⟨q, hq, decide_eq_true hqk⟩
    · refine ⟨fun v hv => ?_, ?_⟩
      · obtain ⟨u, hu, e⟩ := List.mem_map.mp hv
        rw [← e]
        exact lift_good hp (h.1 u hu)
      · refine List.pairwise_map.mpr (h.2.imp fun {a b} z => ?_)
        exact (samePat_cong (lift_x p b) (lift_x p a)).trans z
  · have ha' : ps.any (samePat p) = false := by simpa using ha
    rw [if_neg ha]
    have hn : dget (ps.map encP) (encP p).1 = none := by
      rw [ha'] at hd
      exact Option.isSome_eq_false_iff.mp hd |> Option.isNone_iff_eq_none.mp
    rw [hn, Option.getD_none, zip_self]
    refine ⟨?_, h.add hp ha'⟩
    rw [dput_fresh (by rw [hd]; exact ha'), List.map_append]
    rfl
/-! ## a round -/
def encR (r : Vahypb.Round) : Rnd := ⟨(r.v : Int), r.len, (r.g : Int), (r.b : Int), (r.t : Int)⟩
def RGood (r : Vahypb.Round) : Prop := r.v ≠ 0 ∧ r.v ≤ 9 ∧ 1 ≤ r.len
theorem take_fold (r : Vahypb.Round) (t : List (Vahypa.Word × List Nat × List Nat)) (m : Int) : ∀ (C : List Vahypa.Pat), (∀ p ∈ C, PGood p ∧ 1 ≤ (Vahypb.countIn t p).1) → ∀ (ps : List Vahypa.Pat), PSet ps → ∀ a h u : Nat,
    (C.map (candC t)).foldl (takeCand (encR r)) (ps.map encP, [(a : Int), m, (h : Int), (u : Int)]) =
      ((Vahypb.learned ps (C.filter fun p => Vahypb.reaches r (Vahypb.countIn t p))).map encP,
        [((a + (C.filter fun p => Vahypb.reaches r (Vahypb.countIn t p)).length : Nat) : Int), m, ((h + (((C.filter fun p => Vahypb.reaches r (Vahypb.countIn t p)).map (Vahypb.countIn t)).map fun c => c.1).sum : Nat) : Int), ((u + (((C.filter fun p => Vahypb.reaches r (Vahypb.countIn t p)).map (Vahypb.countIn t)).map fun c => c.2).sum : Nat) : Int)]) ∧
      PSet (Vahypb.learned ps (C.filter fun p => Vahypb.reaches r (Vahypb.countIn t p)))
  | [], _, ps, hps, a, h, u => ⟨rfl, hps⟩
  | p :: C, hC, ps, hps, a, h, u => by
    have hp := hC p List.mem_cons_self
    have hC := fun q hq => hC q (List.mem_cons_of_mem _ hq)
    have hre : Vahypb.reaches r (Vahypb.countIn t p) = true ↔ (r.t : Int) + (r.b : Int) * ((Vahypb.countIn t p).2 : Int) ≤ (r.g : Int) * ((Vahypb.countIn t p).1 : Int) := by
      unfold Vahypb.reaches
      rw [Bool.and_eq_true, decide_eq_true_iff, decide_eq_true_iff]
      have e1 : (r.b : Int) * ((Vahypb.countIn t p).2 : Int) = (((Vahypb.countIn t p).2 * r.b : Nat) : Int) := by rw [Int.mul_comm]; exact (Int.natCast_mul _ _).symm
      have e2 : (r.g : Int) * ((Vahypb.countIn t p).1 : Int) = (((Vahypb.countIn t p).1 * r.g : Nat) : Int) := by rw [Int.mul_comm]; exact (Int.natCast_mul _ _).symm
      rw [e1, e2]
      have := hp.2
      omega
    rw [List.map_cons, List.foldl_cons, List.filter_cons]
    by_cases hr : Vahypb.reaches r (Vahypb.countIn t p) = true
    · rw [if_pos hr]
      have e : takeCand (encR r) (ps.map encP, [(a : Int), m, (h : Int), (u : Int)]) (candC t p) = ((Vahypb.addPat ps p).map encP, [((a + 1 : Nat) : Int), m, ((h + (Vahypb.countIn t p).1 : Nat) : Int), ((u + (Vahypb.countIn t p).2 : Nat) : Int)]) := by
        refine Eq.trans (b := (putPattern (ps.map encP) (encP p).1 (encP p).2, [(a : Int) + 1, m, (h : Int) + ((Vahypb.countIn t p).1 : Int), (u : Int) + ((Vahypb.countIn t p).2 : Int)])) (if_pos (hre.mp hr)) ?_
        rw [(put_eq hps hp.1).1]
        rfl
      have ih := take_fold r t m C hC (Vahypb.addPat ps p) (put_eq hps hp.1).2 (a + 1) (h + (Vahypb.countIn t p).1) (u + (Vahypb.countIn t p).2)
      rw [e, ih.1]
      refine ⟨?_, ih.2⟩
      rw [List.map_cons, List.map_cons, List.map_cons, List.sum_cons, List.sum_cons, List.length_cons]
      rw [Nat.add_assoc a, Nat.add_comm 1, Nat.add_assoc h, Nat.add_assoc u]
      rfl
    · rw [if_neg hr]
      have e : takeCand (encR r) (ps.map encP, [(a : Int), m, (h : Int), (u : Int)]) (candC t p) = (ps.map encP, [(a : Int), m, (h : Int), (u : Int)]) := if_neg fun z => hr (hre.mpr z)
      rw [e]
      exact take_fold r t m C hC ps hps a h u
theorem round_eq {s : Vahypa.Lst} (hs : ∀ w ∈ s.words, WGood w) {ps : List Vahypa.Pat} (hps : PSet ps) {r : Vahypb.Round} (hr : RGood r) :
    afterRound (encL s) (ps.map encP) (encR r) =
      ((Vahypb.roundOf s ps r).map encP, [((Vahypb.takes s ps r).length : Int), ((Vahypb.candidates s ps r.v r.len).length : Int), (((((Vahypb.takes s ps r).map (Vahypb.countIn (Vahypb.tables s ps r.v))).map fun c => c.1).sum : Nat) : Int), (((((Vahypb.takes s ps r).map (Vahypb.countIn (Vahypb.tables s ps r.v))).map fun c => c.2).sum : Nat) : Int)]) ∧
    PSet (Vahypb.roundOf s ps r) := by
  unfold afterRound
  have hc := cands_eq hs hps hr.1 hr.2.1 hr.2.2 (v := r.v) (len := r.len)
  show (let cs := candidatesOf (partedWords (encL s) (ps.map encP)) (r.v : Int) r.len
    cs.foldl (takeCand (encR r)) (ps.map encP, [0, (cs.length : Int), 0, 0])) = _ ∧ _
  rw [hc]
  dsimp only
  rw [List.length_map]
  have := take_fold r (Vahypb.tables s ps r.v) ((Vahypb.candidates s ps r.v r.len).length : Int) (Vahypb.candidates s ps r.v r.len) (fun p hp => ⟨(piecesOf_good hs hr.2.1 (dedup_mem.mp hp)).1, counts_ge hs hr.1 hr.2.1 hr.2.2 hp⟩) ps hps 0 0 0
  rw [Nat.zero_add, Nat.zero_add, Nat.zero_add] at this
  exact this
end PM
set_option Elab.async false
set_option linter.all false
/-! # The mirror is the specification: the learner's calls -/
namespace PM
open VahypBase (Bytes Toks)
def encD (ps : List Vahypa.Pat) : Dict := ps.map encP
def encS : Vahypb.Obj → L
  | none => fresh
  | some h => ⟨some (encL h.lst), encD h.now, (h.before_.map encD).reverse⟩
def POk (ps : List Vahypa.Pat) : Prop := PSet ps ∧ ps.length ≤ 200
def SGood : Vahypb.Obj → Prop
  | none => True
  | some h => LGood h.lst ∧ h.lst.pats.length ≤ 200 ∧ POk h.now ∧ ∀ b ∈ h.before_, POk b
theorem keep_eq (h : Vahypb.Held) (n : List Vahypa.Pat) : keep (encS (some h)) (encD n) = encS (some { h with now := n, before_ := (h.now :: h.before_).take Vahypb.UNDO }) := by
  unfold keep encS
  dsimp only
  congr 1
  have e : (h.before_.map encD).reverse ++ [encD h.now] = ((h.now :: h.before_).map encD).reverse := by rw [List.map_cons, List.reverse_cons]
  rw [e, List.length_reverse, List.map_take, List.reverse_take]
  rfl
theorem keep_good {h : Vahypb.Held} (hs : SGood (some h)) {n : List Vahypa.Pat} (hn : POk n) : SGood (some { h with now := n, before_ := (h.now :: h.before_).take Vahypb.UNDO }) := by
  refine ⟨hs.1, hs.2.1, hn, fun b hb => ?_⟩
  rcases List.mem_cons.mp (List.mem_of_mem_take hb) with e | e
  · rw [e]; exact hs.2.2.1
  · exact hs.2.2.2 b e
theorem takePats_len : ∀ (n : Nat) (ps : List Vahypa.Pat) (l : Toks) {ps' : List Vahypa.Pat}, Vahypa.takePats n ps l = .ok ps' → ps.length ≤ 40 → ps'.length ≤ 40
  | 0, _, _, _, h, _ => nomatch h
  | n + 1, ps, l, ps', h, hw => by
    unfold Vahypa.takePats at h
    split at h
    · injection h with h
      rw [← h]
      exact hw
    · obtain ⟨m, hm, h⟩ := bind_ok h
      split at h
      · cases h
      · rename_i h40
        obtain ⟨y, hy, h⟩ := bind_ok h
        split at h
        · cases h
        · split at h
          · cases h
          · obtain ⟨k, hk, h⟩ := bind_ok h
            refine takePats_len n _ k h ?_
            have : Vahypa.PATS = 40 := rfl
            rw [List.length_append]
            show ps.length + 1 ≤ 40
            omega
theorem read_len {b : Bytes} {s : Vahypa.Lst} (h : Vahypa.read b = .ok s) : s.pats.length ≤ 40 := by
  unfold Vahypa.read at h
  obtain ⟨l, _, h⟩ := bind_ok h
  obtain ⟨l1, _, h⟩ := bind_ok h
  obtain ⟨a, _, h⟩ := bind_ok h
  obtain ⟨z, _, h⟩ := bind_ok h
  obtain ⟨l4, _, h⟩ := bind_ok h
  obtain ⟨ws, hws, h⟩ := bind_ok h
  cases hq : Vahypa.takePats (l4.length + 1) [] ws.2 with
  | error f => rw [hq] at h; cases h
  | ok ps =>
    rw [hq] at h
    injection h with h
    rw [← h]
    exact takePats_len _ _ _ hq (Nat.zero_le _)
def encA (a : VahypBase.Answer) : Ns := VahypbNeutral.encode a
/-- the mirror's answer is the specification's -/
def Same (o : Vahypb.Obj) (c : Vahypb.Call) (p : Int) (ns : Ns) : Prop := answerOf (encS o) p ns = (encS (Vahypb.step o c).1, encA (Vahypb.step o c).2) ∧ SGood (Vahypb.step o c).1
theorem step_load (o : Vahypb.Obj) (b : Bytes) : Vahypb.step o (.load b) = (match Vahypa.read b with
    | .ok s => (some ⟨s, s.pats, []⟩, ⟨1, VahypBase.nats [s.words.length, s.pats.length]⟩)
    | .error f => (o, VahypBase.faulty f)) := by cases o <;> rfl
theorem load_same {o : Vahypb.Obj} (h : SGood o) (b : Bytes) : Same o (.load b) 0 (bints b) := by
  unfold Same answerOf
  rw [if_pos rfl]
  unfold load
  rw [(read_eq b).1, step_load]
  cases hr : Vahypa.read b with
  | error f => exact ⟨rfl, h⟩
  | ok s =>
    have hg := read_good hr
    have hl := read_len hr
    refine ⟨?_, hg, Nat.le_trans hl (by decide), ⟨hg.2, Nat.le_trans hl (by decide)⟩, fun _ y => nomatch y⟩
    show (hold (encS o) (encL s), [1, (((s.words.map encW).length : Nat) : Int), (((s.pats.map encP).length : Nat) : Int)]) = _
    rw [List.length_map, List.length_map]
    rfl
theorem none_same {c : Vahypb.Call} (hc : ∀ b, c ≠ .load b) {p : Int} (hp : p ≠ 0) (ns : Ns) : Same none c p ns := by
  unfold Same answerOf
  rw [if_neg hp]
  cases c with
  | load b => exact absurd rfl (hc b)
  | _ => exact ⟨rfl, trivial⟩
/-! ## rounds told -/
theorem round_read (v len g b t : Int) : (Vahypb.readRound v len g b t = none → isRound [v, len, g, b, t] = false) ∧ ∀ r, Vahypb.readRound v len g b t = some r → isRound [v, len, g, b, t] = true ∧ toRnd [v, len, g, b, t] = encR r ∧ RGood r := by
  have hi : isRound [v, len, g, b, t] = true ↔ (1 ≤ v ∧ v ≤ 9 ∧ 1 ≤ len ∧ len ≤ 8 ∧ 0 ≤ g ∧ g ≤ 1000 ∧ 0 ≤ b ∧ b ≤ 1000 ∧ 0 ≤ t ∧ t ≤ 1000) := by
    show (((decide (1 ≤ v) && decide (v ≤ 9)) && (decide (1 ≤ len) && decide (len ≤ 8))) && ((decide (0 ≤ g) && decide (g ≤ 1000)) && ((decide (0 ≤ b) && decide (b ≤ 1000)) && ((decide (0 ≤ t) && decide (t ≤ 1000)) && true)))) = true ↔ _
    simp only [Bool.and_eq_true, decide_eq_true_iff, Bool.and_true]
    omega
  have hc : (v < 1 ∨ (Vahypb.LEVEL : Int) < v ∨ len < 1 ∨ (Vahypb.LEN : Int) < len ∨ [g, b, t].any (fun z => decide (z < 0 ∨ Vahypb.LARGE < z)) = true) ↔ ¬ (1 ≤ v ∧ v ≤ 9 ∧ 1 ≤ len ∧ len ≤ 8 ∧ 0 ≤ g ∧ g ≤ 1000 ∧ 0 ≤ b ∧ b ≤ 1000 ∧ 0 ≤ t ∧ t ≤ 1000) := by
    have e1 : (Vahypb.LEVEL : Int) = 9 := rfl
    have e2 : (Vahypb.LEN : Int) = 8 := rfl
    have e3 : Vahypb.LARGE = 1000 := rfl
    rw [e1, e2, e3]
    show (v < 1 ∨ 9 < v ∨ len < 1 ∨ 8 < len ∨ (decide (g < 0 ∨ 1000 < g) || (decide (b < 0 ∨ 1000 < b) || (decide (t < 0 ∨ 1000 < t) || false))) = true) ↔ _
    simp only [Bool.or_eq_true, decide_eq_true_iff, Bool.or_false]
    omega
  unfold Vahypb.readRound
  by_cases h : 1 ≤ v ∧ v ≤ 9 ∧ 1 ≤ len ∧ len ≤ 8 ∧ 0 ≤ g ∧ g ≤ 1000 ∧ 0 ≤ b ∧ b ≤ 1000 ∧ 0 ≤ t ∧ t ≤ 1000
  · rw [if_neg fun z => hc.mp z h]
    refine ⟨fun z => (by cases z), fun r z => ?_⟩
    injection z with z
    subst z
    refine ⟨hi.mpr h, ?_, ?_, ?_, ?_⟩
    · show (⟨v, len.toNat, g, b, t⟩ : Rnd) = ⟨((v.toNat : Nat) : Int), len.toNat, ((g.toNat : Nat) : Int), ((b.toNat : Nat) : Int), ((t.toNat : Nat) : Int)⟩
      rw [Int.toNat_of_nonneg (by omega), Int.toNat_of_nonneg (by omega), Int.toNat_of_nonneg (by omega), Int.toNat_of_nonneg (by omega)]
    · show v.toNat ≠ 0; omega
    · show v.toNat ≤ 9; omega
    · show 1 ≤ len.toNat; omega
  · rw [if_pos (hc.mpr h)]
    refine ⟨fun _ => ?_, fun r z => (by cases z)⟩
    cases hz : isRound [v, len, g, b, t] with
    | false => rfl
    | true => exact absurd (hi.mp hz) h
theorem step_round (h : Vahypb.Held) (v len g b t : Int) : Vahypb.step (some h) (.round v len g b t) = (match Vahypb.readRound v len g b t with
    | none => (some h, VahypBase.one (-4))
    | some r => Vahypb.roundCall h r) := rfl
theorem step_undo (h : Vahypb.Held) : Vahypb.step (some h) .undo = (match h.before_ with
    | [] => (some h, VahypBase.one (-8))
    | p :: r => (some { h with now := p, before_ := r }, VahypBase.one (p.length : Int))) := rfl
theorem round_same {h : Vahypb.Held} (hs : SGood (some h)) (v len g b t : Int) : Same (some h) (.round v len g b t) 1 [v, len, g, b, t] := by
  unfold Same answerOf
  rw [if_neg (by decide)]
  show (if (1 : Int) = 1 then roundCall (encS (some h)) (encL h.lst) [v, len, g, b, t] else _) = _ ∧ _
  rw [if_pos rfl]
  rw [step_round]
  unfold roundCall
  have hr := round_read v len g b t
  cases hq : Vahypb.readRound v len g b t with
  | none =>
    rw [if_pos (hr.1 hq)]
    exact ⟨rfl, hs⟩
  | some r =>
    obtain ⟨h1, h2, h3⟩ := hr.2 r hq
    rw [if_neg (by rw [h1]; exact fun z => by cases z), h2]
    have hre := round_eq hs.1.1 hs.2.2.1.1 h3
    show (let a := afterRound (encL h.lst) (h.now.map encP) (encR r)
      if 200 < a.1.length then (encS (some h), [-7]) else (keep (encS (some h)) a.1, a.2 ++ [(a.1.length : Int)])) = _ ∧ _
    rw [hre.1]
    dsimp only
    rw [List.length_map]
    unfold Vahypb.roundCall
    by_cases hm : Vahypb.MANY < (Vahypb.learned h.now (Vahypb.takes h.lst h.now r)).length
    · rw [if_pos (show 200 < (Vahypb.roundOf h.lst h.now r).length from hm)]
      dsimp only
      rw [if_pos hm]
      exact ⟨rfl, hs⟩
    · rw [if_neg (show ¬ 200 < (Vahypb.roundOf h.lst h.now r).length from hm)]
      dsimp only
      rw [if_neg hm]
      refine ⟨?_, keep_good hs ⟨hre.2, Nat.le_of_not_lt hm⟩⟩
      show (keep (encS (some h)) (encD (Vahypb.roundOf h.lst h.now r)), _) = _
      rw [keep_eq]
      rfl
theorem undo_same {h : Vahypb.Held} (hs : SGood (some h)) : Same (some h) .undo 8 [] := by
  unfold Same answerOf
  show undoCall (encS (some h)) = _ ∧ _
  rw [step_undo]
  unfold undoCall
  rw [show (encS (some h)).earlier = (h.before_.map encD).reverse from rfl, List.getLast?_reverse, List.dropLast_reverse]
  cases hb : h.before_ with
  | nil =>
    exact ⟨rfl, hs⟩
  | cons p r =>
    refine ⟨?_, hs.1, hs.2.1, hs.2.2.2 p (by rw [hb]; exact List.mem_cons_self), fun b hbb => hs.2.2.2 b (by rw [hb]; exact List.mem_cons_of_mem _ hbb)⟩
    show (_, [((encD p).length : Int)]) = (_, [(p.length : Int)])
    unfold encD
    rw [List.length_map]
    rfl
theorem forget_same {h : Vahypb.Held} (hs : SGood (some h)) : Same (some h) .forget 9 [] := by
  unfold Same answerOf
  refine ⟨?_, hs.1, hs.2.1, ⟨hs.1.2, hs.2.1⟩, fun _ y => nomatch y⟩
  show (hold (encS (some h)) (encL h.lst), [((h.lst.pats.map encP).length : Int)]) = _
  rw [List.length_map]
  rfl
theorem flat_congr {α β γ : Type} {f : β → List γ} {g : α → List γ} (e : α → β) : ∀ l : List α, (∀ a ∈ l, f (e a) = g a) → (l.map e).flatMap f = l.flatMap g
  | [], _ => rfl
  | a :: r, h => by rw [List.map_cons, List.flatMap_cons, List.flatMap_cons, h a List.mem_cons_self, flat_congr e r fun b hb => h b (List.mem_cons_of_mem _ hb)]
theorem patterns_same {h : Vahypb.Held} (hs : SGood (some h)) : Same (some h) .patterns 5 [] := by
  unfold Same answerOf
  refine ⟨?_, hs⟩
  show (encS (some h), ((h.now.map encP).length : Int) :: (h.now.map encP).flatMap fun e => toldPattern e.1 e.2) = (encS (some h), (h.now.length : Int) :: h.now.flatMap Vahypb.patRow)
  rw [List.length_map, flat_congr encP h.now fun p hp => told_eq (hs.2.2.1.1.1 p hp)]
theorem score_same {h : Vahypb.Held} (hs : SGood (some h)) : Same (some h) .score 6 [] := by
  unfold Same answerOf
  refine ⟨?_, hs⟩
  show (encS (some h), ((h.now.map encP).length : Int) :: scoreOf (partedWords (encL h.lst) (h.now.map encP))) = (encS (some h), (h.now.length : Int) :: Vahypb.scoreRow (Vahypb.withNow h))
  rw [List.length_map, score_eq hs.1.1 hs.2.2.1.1]
  rfl
theorem look_part (h : Vahypb.Held) (b : Bytes) : Vahypb.looked h (.part b) = (match Vahypa.readLetters b with
    | none => VahypBase.one (-4)
    | some x => let l := Vahypa.parts (Vahypb.withNow h) x; ⟨(l.length : Int), VahypBase.nats l⟩) := rfl
theorem look_count (h : Vahypb.Held) (b : Bytes) : Vahypb.looked h (.count b) = (match Vahypb.readPat b with
    | none => VahypBase.one (-4)
    | some p => let c := Vahypb.counts h.lst h.now (p.levels.getD (Vahypb.spot p) 0) p; ⟨(c.1 : Int), VahypBase.nats [c.2]⟩) := rfl
theorem look_cands (h : Vahypb.Held) (v len : Int) : Vahypb.looked h (.candidates v len) = (match Vahypb.readRound v len 0 0 0 with
    | none => VahypBase.one (-4)
    | some r =>
      let l := Vahypb.candidates h.lst h.now r.v r.len
      let t := Vahypb.tables h.lst h.now r.v
      ⟨(l.length : Int), (l.take Vahypb.TOLD).flatMap fun p => Vahypb.patRow p ++ (let c := Vahypb.countIn t p; VahypBase.nats [c.1, c.2])⟩) := rfl
theorem part_same {h : Vahypb.Held} (hs : SGood (some h)) (b : Bytes) : Same (some h) (.part b) 7 (bints b) := by
  unfold Same answerOf
  refine ⟨?_, hs⟩
  show (encS (some h), partCall (encS (some h)) (encL h.lst) (bints b)) = (encS (some h), encA (Vahypb.looked h (.part b)))
  rw [look_part]
  unfold partCall
  rw [row_eq]
  cases hr : Vahypa.readLetters b with
  | none => rfl
  | some x =>
    have hx := (letters_ok hr).2
    show (encS (some h), (((((innerGaps (encL h.lst) (rowB x) (h.now.map encP)).filterMap fun g => if g.2 = true then some g.1 else none).length : Nat) : Int) :: ((innerGaps (encL h.lst) (rowB x) (h.now.map encP)).filterMap fun g => if g.2 = true then some g.1 else none))) = _
    rw [part_eq hs.2.2.1.1 hx, nint_len]
    rfl
theorem cand_same {h : Vahypb.Held} (hs : SGood (some h)) (v len : Int) : Same (some h) (.candidates v len) 3 [v, len] := by
  unfold Same answerOf
  refine ⟨?_, hs⟩
  show (encS (some h), candidatesCall (encS (some h)) (encL h.lst) [v, len]) = (encS (some h), encA (Vahypb.looked h (.candidates v len)))
  rw [look_cands]
  unfold candidatesCall
  have hr := round_read v len 0 0 0
  have hi : isRound [v, len, 0, 0, 0] = goodLevel v len := by
    show (goodLevel v len && true) = goodLevel v len
    exact Bool.and_true _
  rw [hi] at hr
  show (encS (some h), if goodLevel v len = false then [-4] else _) = _
  cases hq : Vahypb.readRound v len 0 0 0 with
  | none =>
    rw [if_pos (hr.1 hq)]
    rfl
  | some r =>
    obtain ⟨h1, h2, h3⟩ := hr.2 r hq
    rw [if_neg (by rw [h1]; exact fun z => by cases z)]
    have hv : v = (r.v : Int) := congrArg Rnd.v h2
    have hl : len.toNat = r.len := congrArg Rnd.len h2
    have hc := cands_eq hs.1.1 hs.2.2.1.1 h3.1 h3.2.1 h3.2.2 (v := r.v) (len := r.len)
    show (encS (some h), (let found := candidatesOf (partedWords (encL h.lst) (h.now.map encP)) v len.toNat
      ((found.length : Int) :: (found.take 20).flatMap fun c => toldPattern c.piece c.digits ++ [c.helped, c.hurt] : Ns))) = _
    rw [hl, hv, hc]
    dsimp only
    rw [List.length_map, ← List.map_take, flat_congr (g := fun p => Vahypb.patRow p ++ VahypBase.nats [(Vahypb.countIn (Vahypb.tables h.lst h.now r.v) p).1, (Vahypb.countIn (Vahypb.tables h.lst h.now r.v) p).2])]
    · rfl
    · intro p hp
      have hg := piecesOf_good hs.1.1 h3.2.1 (dedup_mem.mp (List.mem_of_mem_take hp))
      show toldPattern (encP p).1 (encP p).2 ++ _ = _
      rw [told_eq hg.1]
      rfl
end PM
set_option Elab.async false
set_option linter.all false
/-! # The mirror is the specification: a pattern counted -/
namespace PM
open VahypBase (Bytes Toks)
theorem split_nz : ∀ l : List Nat, l.all (fun v => v == 0) = false → ∃ A v B, l = A ++ v :: B ∧ (∀ a ∈ A, a = 0) ∧ v ≠ 0
  | [], h => nomatch h
  | a :: r, h => by
    by_cases ha : a = 0
    · subst ha
      have h : (true && r.all fun v => v == 0) = false := h
      rw [Bool.true_and] at h
      obtain ⟨A, v, B, e, hA, hv⟩ := split_nz r h
      refine ⟨0 :: A, v, B, by rw [e]; rfl, fun x hx => ?_, hv⟩
      rcases List.mem_cons.mp hx with z | z
      · exact z
      · exact hA x z
    · exact ⟨[], a, r, rfl, (fun _ y => nomatch y), ha⟩
theorem pat_nz {c : Bytes} {p : Vahypa.Pat} (h : Vahypa.patOf c = some p) : p.levels.all (fun v => v == 0) = false := by
  unfold Vahypa.patOf at h
  dsimp only at h
  obtain ⟨q, hq, h⟩ := Option.bind_eq_some_iff.mp h
  split at h
  · cases h
  · rename_i hn
    injection h with h
    rw [← h]
    cases hz : q.2.1.all (fun v => v == 0) with
    | false => exact rfl
    | true => exact absurd (Or.inr (Or.inr (Or.inr hz))) hn
theorem nsum : ∀ l : List Nat, (nint l).sum = ((l.sum : Nat) : Int)
  | [] => rfl
  | a :: r => by
    show (a : Int) + (nint r).sum = ((a + r.sum : Nat) : Int)
    rw [nsum r]
    omega
theorem ntop : ∀ (l : List Nat) (a : Nat), (nint l).foldl max (a : Int) = ((l.foldl max a : Nat) : Int)
  | [], a => rfl
  | b :: r, a => by
    show (nint r).foldl max (max (a : Int) (b : Int)) = (((r.foldl max (max a b)) : Nat) : Int)
    rw [show max (a : Int) (b : Int) = ((max a b : Nat) : Int) by omega, ntop r]
theorem max_le_sum : ∀ (l : List Nat) (a : Nat), l.foldl max a ≤ a + l.sum
  | [], a => Nat.le_add_right _ _
  | b :: r, a => by
    have := max_le_sum r (max a b)
    rw [List.foldl_cons, List.sum_cons]
    omega
theorem max_zeros : ∀ (l : List Nat) (a : Nat), (∀ b ∈ l, b = 0) → l.foldl max a = a
  | [], a, _ => rfl
  | b :: r, a, h => by
    rw [List.foldl_cons, h b List.mem_cons_self, Nat.max_eq_left (Nat.zero_le _)]
    exact max_zeros r a fun c hc => h c (List.mem_cons_of_mem _ hc)
theorem sum_zeros : ∀ (l : List Nat), (∀ b ∈ l, b = 0) → l.sum = 0
  | [], _ => rfl
  | b :: r, h => by
    rw [List.sum_cons, h b List.mem_cons_self, sum_zeros r fun c hc => h c (List.mem_cons_of_mem _ hc)]
theorem zeros_sum : ∀ (l : List Nat), l.sum = 0 → ∀ b ∈ l, b = 0
  | [], _, b, h => nomatch h
  | a :: r, e, b, h => by
    rw [List.sum_cons] at e
    rcases List.mem_cons.mp h with z | z
    · omega
    · exact zeros_sum r (by omega) b z
theorem max_strict : ∀ (l : List Nat) (a : Nat), 1 ≤ a → l.foldl max a = a + l.sum → l.sum = 0
  | [], a, _, _ => rfl
  | b :: r, a, ha, h => by
    have := max_le_sum r (max a b)
    rw [List.foldl_cons, List.sum_cons] at h
    have hb : b = 0 := by omega
    subst hb
    rw [Nat.max_eq_left (Nat.zero_le _), Nat.zero_add] at h
    rw [List.sum_cons, max_strict r a ha h]
theorem filter_zeros {l : List Nat} : (∀ b ∈ l, b = 0) ↔ l.filter (fun v => v != 0) = [] := by
  rw [List.filter_eq_nil_iff]
  constructor
  · intro h b hb z
    rw [h b hb] at z
    cases z
  · intro h b hb
    have := h b hb
    simpa using this
theorem find_at {α : Type} (p : α → Bool) : ∀ (A : List α) (v : α) (B : List α), (∀ a ∈ A, p a = false) → p v = true → (A ++ v :: B).findIdx p = A.length
  | [], v, B, _, hv => by rw [List.nil_append, List.findIdx_cons, hv]; rfl
  | a :: r, v, B, h, hv => by
    rw [List.cons_append, List.findIdx_cons, h a List.mem_cons_self, find_at p r v B (fun b hb => h b (List.mem_cons_of_mem _ hb)) hv]
    rfl
theorem one_digit {l : List Nat} (h : l.all (fun v => v == 0) = false) :
    ((nint l).sum = top (nint l) ↔ (l.filter fun v => v != 0).length = 1) ∧
    ((l.filter fun v => v != 0).length = 1 → top (nint l) = ((l.getD (l.findIdx fun v => v != 0) 0 : Nat) : Int) ∧ ((nint l).findIdx fun d => decide (d = top (nint l))) = (l.findIdx fun v => v != 0) ∧ (l.findIdx fun v => v != 0) < l.length) := by
  obtain ⟨A, v, B, e, hA, hv⟩ := split_nz l h
  subst e
  have ht : top (nint (A ++ v :: B)) = ((B.foldl max v : Nat) : Int) := by
    show (nint (A ++ v :: B)).foldl max ((0 : Nat) : Int) = _
    rw [ntop, List.foldl_append, max_zeros A 0 hA, List.foldl_cons, Nat.max_eq_right (Nat.zero_le _)]
  have hf : ((A ++ v :: B).filter fun v => v != 0) = v :: B.filter fun v => v != 0 := by
    rw [List.filter_append, filter_zeros.mp hA, List.nil_append, List.filter_cons, if_pos (by simpa using hv)]
  have hi : ((A ++ v :: B).findIdx fun v => v != 0) = A.length := find_at _ A v B (fun a ha => by rw [hA a ha]; rfl) (by simpa using hv)
  refine ⟨?_, fun h1 => ?_⟩
  · rw [nsum, ht, hf, List.sum_append, sum_zeros A hA, List.sum_cons, Nat.zero_add, List.length_cons]
    constructor
    · intro z
      have := max_strict B v (by omega) (by omega)
      rw [filter_zeros.mp (zeros_sum B this)]
      rfl
    · intro z
      have hB := filter_zeros.mpr (List.length_eq_zero_iff.mp (Nat.succ.inj z))
      rw [sum_zeros B hB, max_zeros B v hB]
      rfl
  · rw [hf, List.length_cons] at h1
    have hB := filter_zeros.mpr (List.length_eq_zero_iff.mp (Nat.succ.inj h1))
    have ht2 : top (nint (A ++ v :: B)) = (v : Int) := by rw [ht, max_zeros B v hB]
    rw [hi, ht2]
    refine ⟨?_, ?_, ?_⟩
    · rw [List.getD_eq_getElem?_getD, List.getElem?_append_right (Nat.le_refl _), Nat.sub_self]
      rfl
    · rw [nint_app, ← nint_len A]
      exact find_at _ (nint A) (v : Int) (nint B) (fun a ha => by
        obtain ⟨c, hc, e⟩ := List.mem_map.mp ha
        rw [← e, hA c hc]
        exact decide_eq_false fun z => hv (by omega)) (decide_eq_true rfl)
    · rw [List.length_append, List.length_cons]
      omega
theorem count_same {h : Vahypb.Held} (hs : SGood (some h)) (b : Bytes) : Same (some h) (.count b) 4 (bints b) := by
  unfold Same answerOf
  refine ⟨?_, hs⟩
  show (encS (some h), countCall (encS (some h)) (encL h.lst) (bints b)) = (encS (some h), encA (Vahypb.looked h (.count b)))
  rw [look_count]
  unfold countCall Vahypb.readPat
  rw [pat_eq]
  cases hp : Vahypa.patOf b with
  | none => rfl
  | some p =>
    have hg := pat_good hp
    have h1 := one_digit (pat_nz hp)
    simp only [Option.map, Option.bind]
    show (encS (some h), if (nint p.levels).sum ≠ top (nint p.levels) then [-4] else _) = _
    by_cases hz : (p.levels.filter fun v => v != 0).length = 1
    · obtain ⟨h2, h3, h4⟩ := h1.2 hz
      rw [if_neg (fun z => z (h1.1.mpr hz)), if_pos hz]
      have hsp : Vahypb.spot p ≤ p.x.length := by
        have := hg.2.2.2.1
        unfold Vahypb.spot
        omega
      have hc := counts_eq hs.1.1 (ps := h.now) (v := p.levels.getD (Vahypb.spot p) 0) hg hsp
      show (encS (some h), (let t := tally (partedWords (encL h.lst) (h.now.map encP)) (top (nint p.levels)) (encP p).1.length
        let f : Pc := ((encP p).1, (((nint p.levels).findIdx fun d => decide (d = top (nint p.levels))) : Nat))
        ([(dget t.1 f).getD 0, (dget t.2 f).getD 0] : Ns))) = _
      rw [h3, h2, parted_eq hs.1.1 hs.2.2.1.1]
      show (encS (some h), (let t := tally (wordsOf h.lst h.now) ((p.levels.getD (Vahypb.spot p) 0 : Nat) : Int) (encP p).1.length
        ([(dget t.1 (encC p)).getD 0, (dget t.2 (encC p)).getD 0] : Ns))) = _
      rw [tally_eq]
      dsimp only
      rw [tally_get, tally_get]
      unfold Vahypb.counts
      rw [hc]
      rfl
    · rw [if_pos (fun z => hz (h1.1.mp z)), if_neg hz]
      rfl
end PM
set_option Elab.async false
set_option linter.all false
/-! # The mirror is the specification: rounds one after the other -/
namespace PM
open VahypBase (Bytes Toks)
def byFive (l : Ns) (k : Nat) : List Ns := (List.range k).map fun i => (l.drop (5 * i)).take 5
theorem byFive_cons (v len g b t : Int) (r : Ns) (k : Nat) : byFive (v :: len :: g :: b :: t :: r) (k + 1) = [v, len, g, b, t] :: byFive r k := by
  unfold byFive
  rw [List.range_succ_eq_map, List.map_cons, List.map_map]
  refine congrArg (List.cons _) (List.map_congr_left fun i _ => ?_)
  show ((v :: len :: g :: b :: t :: r).drop (5 * (i + 1))).take 5 = _
  rw [show 5 * (i + 1) = 5 * i + 1 + 1 + 1 + 1 + 1 by omega]
  rfl
theorem roundsIn_cons (v len g b t : Int) (r : Ns) : Vahypb.roundsIn (v :: len :: g :: b :: t :: r) = (Vahypb.readRound v len g b t).bind fun x => (Vahypb.roundsIn r).map fun l => x :: l := rfl
theorem rounds_in : ∀ (k : Nat) (l : Ns), l.length = 5 * k → (Vahypb.roundsIn l = none → (byFive l k).all isRound = false) ∧ ∀ rs, Vahypb.roundsIn l = some rs → (byFive l k).all isRound = true ∧ (byFive l k).map toRnd = rs.map encR ∧ (∀ r ∈ rs, RGood r) ∧ rs.length = k
  | 0, l, h => by
    have e : l = [] := List.length_eq_zero_iff.mp h
    subst e
    refine ⟨fun z => (by cases z), fun rs z => ?_⟩
    injection z with z
    subst z
    exact ⟨rfl, rfl, (fun _ y => nomatch y), rfl⟩
  | k + 1, l, h => by
    match l, h with
    | v :: len :: g :: b :: t :: r, h =>
      have ih := rounds_in k r (by simp only [List.length_cons] at h; omega)
      have hr := round_read v len g b t
      rw [byFive_cons, roundsIn_cons, List.all_cons, List.map_cons]
      cases hq : Vahypb.readRound v len g b t with
      | none =>
        rw [hr.1 hq]
        exact ⟨fun _ => rfl, fun _ z => by cases z⟩
      | some x =>
        obtain ⟨h1, h2, h3⟩ := hr.2 x hq
        rw [h1, h2]
        cases hs : Vahypb.roundsIn r with
        | none =>
          rw [ih.1 hs]
          exact ⟨fun _ => rfl, fun _ z => by cases z⟩
        | some rs =>
          obtain ⟨i1, i2, i3, i4⟩ := ih.2 rs hs
          refine ⟨fun z => (by cases z), fun rs' z => ?_⟩
          injection z with z
          subst z
          refine ⟨by rw [i1]; rfl, by rw [i2]; rfl, fun y hy => ?_, by rw [List.length_cons, i4]⟩
          rcases List.mem_cons.mp hy with e | e
          · rw [e]; exact h3
          · exact i3 y e
    | [], h => cases h
    | [_], h => simp only [List.length_cons, List.length_nil] at h; omega
    | [_, _], h => simp only [List.length_cons, List.length_nil] at h; omega
    | [_, _, _], h => simp only [List.length_cons, List.length_nil] at h; omega
    | [_, _, _, _], h => simp only [List.length_cons, List.length_nil] at h; omega
theorem rounds_bad : ∀ l : Ns, l.length ≠ l.length / 5 * 5 → Vahypb.roundsIn l = none
  | v :: len :: g :: b :: t :: r, h => by
    rw [roundsIn_cons, rounds_bad r (by simp only [List.length_cons] at h; omega)]
    cases Vahypb.readRound v len g b t <;> rfl
  | [], h => absurd rfl h
  | [_], _ => rfl
  | [_, _], _ => rfl
  | [_, _, _], _ => rfl
  | [_, _, _, _], _ => rfl
def seqq (s : Vahypa.Lst) : List Vahypa.Pat → List Vahypb.Round → List (List Vahypa.Pat)
  | x, [] => [x]
  | x, r :: rs => x :: seqq s (Vahypb.roundOf s x r) rs
def lastq (s : Vahypa.Lst) : List Vahypa.Pat → List Vahypb.Round → List Vahypa.Pat
  | x, [] => x
  | x, r :: rs => lastq s (Vahypb.roundOf s x r) rs
theorem seqq_last (s : Vahypa.Lst) : ∀ (rs : List Vahypb.Round) (x : List Vahypa.Pat), (seqq s x rs).getLast? = some (lastq s x rs)
  | [], x => rfl
  | r :: rs, x => by
    have ih := seqq_last s rs (Vahypb.roundOf s x r)
    unfold seqq lastq
    rw [List.getLast?_cons, ih]
    rfl
theorem chain_fold (s : Vahypa.Lst) (ps : List Vahypa.Pat) : ∀ (rs : List Vahypb.Round) (L : List (List Vahypa.Pat)) (x : List Vahypa.Pat), rs.foldl (fun l r => l ++ [Vahypb.roundOf s (l.getLast?.getD ps) r]) (L ++ [x]) = L ++ seqq s x rs
  | [], L, x => rfl
  | r :: rs, L, x => by
    rw [List.foldl_cons, List.getLast?_concat, Option.getD_some, chain_fold s ps rs (L ++ [x])]
    rw [List.append_assoc]
    rfl
theorem chain_eq (s : Vahypa.Lst) (ps : List Vahypa.Pat) (rs : List Vahypb.Round) : Vahypb.chain s ps rs = seqq s ps rs := chain_fold s ps rs [] ps
theorem go_eq {s : Vahypa.Lst} (hs : ∀ w ∈ s.words, WGood w) : ∀ (rs : List Vahypb.Round) (told : List Ns) (x : List Vahypa.Pat), told.map toRnd = rs.map encR → (∀ r ∈ rs, RGood r) → POk x →
    (((seqq s x rs).any fun ps => decide (Vahypb.MANY < ps.length)) = true → roundsGo (encL s) told (encD x) = none) ∧ (((seqq s x rs).any fun ps => decide (Vahypb.MANY < ps.length)) = false → roundsGo (encL s) told (encD x) = some (encD (lastq s x rs)) ∧ POk (lastq s x rs))
  | [], [], x, _, _, hx => by
    have e : ((seqq s x []).any fun ps => decide (Vahypb.MANY < ps.length)) = false := by
      show (decide (200 < x.length) || false) = false
      rw [decide_eq_false (by have := hx.2; omega)]
      rfl
    rw [e]
    exact ⟨fun z => (by cases z), fun _ => ⟨rfl, hx⟩⟩
  | [], n :: told, x, h, _, _ => nomatch h
  | r :: rs, [], x, h, _, _ => nomatch h
  | r :: rs, n :: told, x, h, hr, hx => by
    injection h with h1 h2
    have hre := round_eq hs hx.1 (hr r List.mem_cons_self)
    have e : ((seqq s x (r :: rs)).any fun ps => decide (Vahypb.MANY < ps.length)) = ((seqq s (Vahypb.roundOf s x r) rs).any fun ps => decide (Vahypb.MANY < ps.length)) := by
      show (decide (200 < x.length) || _) = _
      rw [decide_eq_false (by have := hx.2; omega)]
      rfl
    have hq : (afterRound (encL s) (encD x) (toRnd n)).1 = encD (Vahypb.roundOf s x r) := by
      rw [h1]
      exact congrArg Prod.fst hre.1
    have hl : (encD (Vahypb.roundOf s x r)).length = (Vahypb.roundOf s x r).length := List.length_map ..
    rw [e]
    unfold roundsGo
    rw [hq]
    dsimp only
    rw [hl]
    by_cases hm : 200 < (Vahypb.roundOf s x r).length
    · rw [if_pos hm]
      have hany : ((seqq s (Vahypb.roundOf s x r) rs).any fun ps => decide (Vahypb.MANY < ps.length)) = true := by
        cases rs <;> (show (decide (200 < (Vahypb.roundOf s x r).length) || _) = true; rw [decide_eq_true hm]; rfl)
      rw [hany]
      exact ⟨fun _ => rfl, fun z => by cases z⟩
    · rw [if_neg hm]
      exact go_eq hs rs told _ h2 (fun y hy => hr y (List.mem_cons_of_mem _ hy)) ⟨hre.2, Nat.le_of_not_lt hm⟩
theorem step_rounds (h : Vahypb.Held) (l : List Int) : Vahypb.step (some h) (.rounds l) = Vahypb.roundsCall h l := rfl
theorem rounds_same {h : Vahypb.Held} (hs : SGood (some h)) (l : List Int) : Same (some h) (.rounds l) 2 l := by
  unfold Same answerOf
  show roundsCall (encS (some h)) (encL h.lst) l = _ ∧ _
  rw [step_rounds]
  unfold roundsCall Vahypb.roundsCall roundsIn
  by_cases h5 : l.length ≠ l.length / 5 * 5
  · rw [if_pos (Or.inl h5), rounds_bad l h5]
    exact ⟨rfl, hs⟩
  have hlen : l.length = 5 * (l.length / 5) := by omega
  have hr := rounds_in (l.length / 5) l hlen
  by_cases h10 : 10 < l.length / 5
  · rw [if_pos (Or.inr h10)]
    cases hq : Vahypb.roundsIn l with
    | none => exact ⟨rfl, hs⟩
    | some rs =>
      dsimp only
      rw [if_pos (show Vahypb.ROUNDS < rs.length by rw [(hr.2 rs hq).2.2.2]; exact h10)]
      exact ⟨rfl, hs⟩
  rw [if_neg (fun z => z.elim h5 h10)]
  show (match (if (byFive l (l.length / 5)).all isRound = true then some (byFive l (l.length / 5)) else none) with
    | none => _
    | some told => _) = _ ∧ _
  cases hq : Vahypb.roundsIn l with
  | none =>
    rw [hr.1 hq]
    exact ⟨rfl, hs⟩
  | some rs =>
    obtain ⟨r1, r2, r3, r4⟩ := hr.2 rs hq
    rw [if_pos r1]
    dsimp only
    rw [if_neg (show ¬ Vahypb.ROUNDS < rs.length by rw [r4]; exact h10), chain_eq, seqq_last, Option.getD_some]
    have hg := go_eq hs.1.1 rs (byFive l (l.length / 5)) h.now r2 r3 hs.2.2.1
    have hemp : (byFive l (l.length / 5) = []) ↔ rs.isEmpty = true := by
      have e1 : (byFive l (l.length / 5)).length = rs.length := by
        have := congrArg List.length r2
        rw [List.length_map, List.length_map] at this
        exact this
      rw [← List.length_eq_zero_iff, e1, List.isEmpty_iff, List.length_eq_zero_iff]
    show (match roundsGo (encL h.lst) (byFive l (l.length / 5)) (encD h.now) with
      | none => _
      | some p => _) = _ ∧ _
    cases hany : (seqq h.lst h.now rs).any fun ps => decide (Vahypb.MANY < ps.length) with
    | true =>
      rw [hg.1 hany]
      exact ⟨rfl, hs⟩
    | false =>
      obtain ⟨g1, g2⟩ := hg.2 hany
      rw [g1]
      dsimp only
      rw [if_neg Bool.false_ne_true]
      have hsc : ∀ b, SGood (some { h with now := lastq h.lst h.now rs, before_ := b }) → score (encS (some { h with now := lastq h.lst h.now rs, before_ := b })) (encL h.lst) = encA ⟨((lastq h.lst h.now rs).length : Int), Vahypb.scoreRow (Vahypb.withNow { h with now := lastq h.lst h.now rs, before_ := b })⟩ := by
        intro b hb
        exact congrArg Prod.snd (score_same hb).1
      by_cases hem : rs.isEmpty = true
      · rw [if_pos (hemp.mpr hem), if_pos hem]
        have e : rs = [] := List.isEmpty_iff.mp hem
        subst e
        exact ⟨Prod.ext rfl (hsc h.before_ hs), hs⟩
      · rw [if_neg (fun z => hem (hemp.mp z)), if_neg hem, keep_eq]
        have hk := keep_good hs g2
        exact ⟨Prod.ext rfl (hsc _ hk), hk⟩
end PM
set_option Elab.async false
set_option linter.all false
/-! # The mirror is the specification: all calls -/
namespace PM
open VahypBase (Bytes Toks)
theorem call_cons (p : Int) (r : Ns) : PyFlat.call PyVahypb.shape (p :: r) = (match PyVahypb.shape p with
    | none => none
    | some (n, k) => if r.length < n then none else match PyFlat.rows k (r.drop n) with
      | none => none
      | some (xs, t) => some ((p :: r.take n) :: xs, t)) := rfl
theorem row_call {p : Int} {r : Ns} {c : List Ns} {t : Ns} (hs : PyVahypb.shape p = some (0, 1)) (h : PyFlat.call PyVahypb.shape (p :: r) = some (c, t)) : ∃ m r', r = m :: r' ∧ 0 ≤ m ∧ m.toNat ≤ r'.length ∧ c = [[p], r'.take m.toNat] ∧ t = r'.drop m.toNat := by
  rw [call_cons, hs] at h
  dsimp only at h
  rw [if_neg (Nat.not_lt_zero _), List.drop_zero] at h
  cases r with
  | nil => cases h
  | cons m r' =>
    unfold PyFlat.rows PyFlat.row at h
    dsimp only at h
    by_cases hm : 0 ≤ m ∧ m.toNat ≤ r'.length
    · rw [if_pos hm] at h
      unfold PyFlat.rows at h
      dsimp only at h
      injection h with h
      injection h with h1 h2
      exact ⟨m, r', rfl, hm.1, hm.2, h1.symm, h2.symm⟩
    · rw [if_neg hm] at h
      cases h
theorem num_call {p : Int} {r : Ns} {c : List Ns} {t : Ns} {n : Nat} (hs : PyVahypb.shape p = some (n, 0)) (h : PyFlat.call PyVahypb.shape (p :: r) = some (c, t)) : n ≤ r.length ∧ c = [p :: r.take n] ∧ t = r.drop n := by
  rw [call_cons, hs] at h
  dsimp only at h
  by_cases hn : r.length < n
  · rw [if_pos hn] at h; cases h
  · rw [if_neg hn] at h
    unfold PyFlat.rows at h
    dsimp only at h
    injection h with h
    injection h with h1 h2
    exact ⟨Nat.le_of_not_lt hn, h1.symm, h2.symm⟩
theorem bytes_ok : ∀ {x : Ns}, (x.all fun z => VahypbNeutral.natural z 8) = true → NeutralIO.bytes x = true ∧ bints (VahypbNeutral.bytesOf x) = x
  | [], _ => ⟨rfl, rfl⟩
  | a :: r, h => by
    rw [List.all_cons, Bool.and_eq_true] at h
    have ih := bytes_ok h.2
    have ha : 0 ≤ a ∧ a < 256 := by
      have := h.1
      unfold VahypbNeutral.natural at this
      rw [Bool.and_eq_true, decide_eq_true_iff, decide_eq_true_iff] at this
      exact ⟨this.1, this.2⟩
    constructor
    · show (((decide (0 ≤ a) && decide (a ≤ 255))) && NeutralIO.bytes r) = true
      rw [ih.1, decide_eq_true ha.1, decide_eq_true (by omega)]
      rfl
    · show (((UInt8.ofNat a.toNat).toNat : Nat) : Int) :: bints (VahypbNeutral.bytesOf r) = a :: r
      rw [ih.2, UInt8.toNat_ofNat', Nat.mod_eq_of_lt (by omega), Int.toNat_of_nonneg ha.1]
def HeadOk (p : Int) (r : Ns) (c : List Ns) (t : Ns) : Prop := ∃ k : Vahypb.Call, VahypbNeutral.callOf (PyVahypb.whole c) = some k ∧ (0 ≤ p ∧ p ≤ 9) ∧ ((spanOf (p :: r)).1 = 2 → 1 < (p :: r).length ∧ 0 ≤ (p :: r).getD 1 0) ∧ (spanOf (p :: r)).1 + (spanOf (p :: r)).2 ≤ (p :: r).length ∧ 1 ≤ (spanOf (p :: r)).1 ∧ t = (p :: r).drop ((spanOf (p :: r)).1 + (spanOf (p :: r)).2) ∧ ∀ o, SGood o → Same o k p (((p :: r).drop (spanOf (p :: r)).1).take (spanOf (p :: r)).2)
theorem head_row {p : Int} {r : Ns} {c : List Ns} {t : Ns} (hp : p = 0 ∨ p = 2 ∨ p = 4 ∨ p = 7) (hs : PyVahypb.shape p = some (0, 1)) (h : PyFlat.call PyVahypb.shape (p :: r) = some (c, t))
    (hk : ∀ x, c = [[p], x] → ∃ k, VahypbNeutral.callOf (PyVahypb.whole c) = some k ∧ ∀ o, SGood o → Same o k p x) : HeadOk p r c t := by
  obtain ⟨m, r', rfl, h1, h2, h3, h4⟩ := row_call hs h
  obtain ⟨k, hk1, hk2⟩ := hk _ h3
  have hsp : spanOf (p :: m :: r') = (2, m.toNat) := by
    unfold spanOf
    exact if_pos hp
  refine ⟨k, hk1, by omega, fun _ => ⟨by simp only [List.length_cons]; omega, h1⟩, ?_, ?_, ?_, ?_⟩
  · rw [hsp]; simp only [List.length_cons]; omega
  · rw [hsp]; exact Nat.le_succ _
  · rw [hsp, h4, Nat.add_comm]; rfl
  · rw [hsp]; exact hk2
theorem head_num {p : Int} {r : Ns} {c : List Ns} {t : Ns} {n : Nat} (hp : ¬ (p = 0 ∨ p = 2 ∨ p = 4 ∨ p = 7)) (hp9 : 0 ≤ p ∧ p ≤ 9) (hn : n = if p = 1 then 5 else if p = 3 then 2 else 0) (hs : PyVahypb.shape p = some (n, 0)) (h : PyFlat.call PyVahypb.shape (p :: r) = some (c, t))
    (hk : n ≤ r.length → c = [p :: r.take n] → ∃ k, VahypbNeutral.callOf (PyVahypb.whole c) = some k ∧ ∀ o, SGood o → Same o k p (r.take n)) : HeadOk p r c t := by
  obtain ⟨h1, h2, h3⟩ := num_call hs h
  obtain ⟨k, hk1, hk2⟩ := hk h1 h2
  have hsp : spanOf (p :: r) = (1, n) := by
    unfold spanOf
    dsimp only
    rw [hn]
    exact if_neg hp
  refine ⟨k, hk1, hp9, ?_, ?_, ?_, ?_, ?_⟩
  · rw [hsp]; intro z; cases z
  · rw [hsp]; simp only [List.length_cons]; omega
  · rw [hsp]; exact Nat.le_refl _
  · rw [hsp, h3, Nat.add_comm]; rfl
  · rw [hsp]; exact hk2
theorem nonload {k : Vahypb.Call} (hc : ∀ b, k ≠ .load b) {p : Int} (hp : p ≠ 0) {ns : Ns} (h : ∀ g, SGood (some g) → Same (some g) k p ns) : ∀ o, SGood o → Same o k p ns
  | none, _ => none_same hc hp ns
  | some g, hs => h g hs
theorem take_five : ∀ {r : Ns}, 5 ≤ r.length → ∃ v len g b t, r.take 5 = [v, len, g, b, t]
  | v :: len :: g :: b :: t :: r, _ => ⟨v, len, g, b, t, rfl⟩
  | [], h => absurd h (by decide)
  | [_], h => absurd h (by simp)
  | [_, _], h => absurd h (by simp)
  | [_, _, _], h => absurd h (by simp)
  | [_, _, _, _], h => absurd h (by simp)
theorem take_two : ∀ {r : Ns}, 2 ≤ r.length → ∃ v len, r.take 2 = [v, len]
  | v :: len :: r, _ => ⟨v, len, rfl⟩
  | [], h => absurd h (by decide)
  | [_], h => absurd h (by simp)
theorem head_ok {p : Int} {r : Ns} {c : List Ns} {t : Ns} (h : PyFlat.call PyVahypb.shape (p :: r) = some (c, t)) (ha : VahypbNeutral.asked1 (PyVahypb.whole c) = true) : HeadOk p r c t := by
  by_cases p0 : p = 0
  · subst p0
    refine head_row (Or.inl rfl) rfl h fun x hx => ?_
    subst hx
    have hb := bytes_ok ((Bool.and_eq_true _ _).mp ha).1
    refine ⟨.load (VahypbNeutral.bytesOf x), if_pos hb.1, fun o ho => ?_⟩
    have := load_same ho (VahypbNeutral.bytesOf x)
    rw [hb.2] at this
    exact this
  by_cases p1 : p = 1
  · subst p1
    refine head_num (n := 5) (by decide) (by decide) rfl rfl h fun hl hx => ?_
    obtain ⟨v, len, g, b, u, e⟩ := take_five hl
    rw [e] at hx ⊢
    subst hx
    exact ⟨.round v len g b u, rfl, nonload (fun _ z => by cases z) (by decide) fun q hq => round_same hq v len g b u⟩
  by_cases p2 : p = 2
  · subst p2
    refine head_row (Or.inr (Or.inl rfl)) rfl h fun x hx => ?_
    subst hx
    exact ⟨.rounds x, rfl, nonload (fun _ z => by cases z) (by decide) fun q hq => rounds_same hq x⟩
  by_cases p3 : p = 3
  · subst p3
    refine head_num (n := 2) (by decide) (by decide) rfl rfl h fun hl hx => ?_
    obtain ⟨v, len, e⟩ := take_two hl
    rw [e] at hx ⊢
    subst hx
    exact ⟨.candidates v len, rfl, nonload (fun _ z => by cases z) (by decide) fun q hq => cand_same hq v len⟩
  by_cases p4 : p = 4
  · subst p4
    refine head_row (Or.inr (Or.inr (Or.inl rfl))) rfl h fun x hx => ?_
    subst hx
    have hb := bytes_ok ((Bool.and_eq_true _ _).mp ha).1
    refine ⟨.count (VahypbNeutral.bytesOf x), if_pos hb.1, nonload (fun _ z => by cases z) (by decide) fun q hq => ?_⟩
    have := count_same hq (VahypbNeutral.bytesOf x)
    rw [hb.2] at this
    exact this
  by_cases p5 : p = 5
  · subst p5
    refine head_num (n := 0) (by decide) (by decide) rfl rfl h fun hl hx => ?_
    subst hx
    exact ⟨.patterns, rfl, nonload (fun _ z => by cases z) (by decide) fun q hq => patterns_same hq⟩
  by_cases p6 : p = 6
  · subst p6
    refine head_num (n := 0) (by decide) (by decide) rfl rfl h fun hl hx => ?_
    subst hx
    exact ⟨.score, rfl, nonload (fun _ z => by cases z) (by decide) fun q hq => score_same hq⟩
  by_cases p7 : p = 7
  · subst p7
    refine head_row (Or.inr (Or.inr (Or.inr rfl))) rfl h fun x hx => ?_
    subst hx
    have hb := bytes_ok ((Bool.and_eq_true _ _).mp ha).1
    refine ⟨.part (VahypbNeutral.bytesOf x), if_pos hb.1, nonload (fun _ z => by cases z) (by decide) fun q hq => ?_⟩
    have := part_same hq (VahypbNeutral.bytesOf x)
    rw [hb.2] at this
    exact this
  by_cases p8 : p = 8
  · subst p8
    refine head_num (n := 0) (by decide) (by decide) rfl rfl h fun hl hx => ?_
    subst hx
    exact ⟨.undo, rfl, nonload (fun _ z => by cases z) (by decide) fun q hq => undo_same hq⟩
  by_cases p9 : p = 9
  · subst p9
    refine head_num (n := 0) (by decide) (by decide) rfl rfl h fun hl hx => ?_
    subst hx
    exact ⟨.forget, rfl, nonload (fun _ z => by cases z) (by decide) fun q hq => forget_same hq⟩
  · have hs : PyVahypb.shape p = none := by
      unfold PyVahypb.shape
      rw [if_neg p0, if_neg p1, if_neg p2, if_neg p3, if_neg p4, if_neg p5, if_neg p6, if_neg p7, if_neg p8, if_neg p9]
    rw [call_cons, hs] at h
    cases h
theorem ans_go : ∀ (f : Nat) (l : Ns) (raw : List (List Ns)), PyFlat.calls PyVahypb.shape f l = some raw → ((raw.map PyVahypb.whole).all VahypbNeutral.asked1) = true → ∀ o, SGood o → ∀ n, l.length ≤ n →
    answersGo n (encS o) l = PyFlat.told (PyFlat.played VahypbNeutral.step o (raw.map PyVahypb.whole)) ∧ wfc n l
  | f, [], raw, h, ha, o, ho, n, hn => by
    have e : raw = [] := by cases f <;> (injection h with h; exact h.symm)
    subst e
    cases n <;> exact ⟨rfl, trivial⟩
  | 0, p :: r, raw, h, _, _, _, _, _ => nomatch h
  | f + 1, p :: r, raw, h, ha, o, ho, 0, hn => absurd hn (Nat.not_succ_le_zero _)
  | f + 1, p :: r, raw, h, ha, o, ho, n + 1, hn => by
    unfold PyFlat.calls at h
    cases hc : PyFlat.call PyVahypb.shape (p :: r) with
    | none => rw [hc] at h; cases h
    | some ct =>
      obtain ⟨c, t⟩ := ct
      rw [hc] at h
      dsimp only at h
      cases hcs : PyFlat.calls PyVahypb.shape f t with
      | none => rw [hcs] at h; cases h
      | some cs =>
        rw [hcs] at h
        injection h with h
        subst h
        rw [List.map_cons, List.all_cons, Bool.and_eq_true] at ha
        obtain ⟨k, k1, k2, k3, k4, k5, k6, k7⟩ := head_ok hc ha.1
        have hk := k7 o ho
        have hst : VahypbNeutral.step o (PyVahypb.whole c) = ((Vahypb.step o k).1, encA (Vahypb.step o k).2) := by
          unfold VahypbNeutral.step
          rw [k1]
          rfl
        have hlt : t.length ≤ n := by
          rw [k6, List.length_drop]
          omega
        have ih := ans_go f t cs hcs ha.2 (Vahypb.step o k).1 hk.2 n hlt
        rw [k6] at ih
        refine ⟨?_, k2, k3, k4, ih.2⟩
        unfold answersGo
        dsimp only
        rw [hk.1]
        dsimp only
        rw [ih.1]
        have e : PyFlat.told (PyFlat.played VahypbNeutral.step o (PyVahypb.whole c :: cs.map PyVahypb.whole)) = (((VahypbNeutral.step o (PyVahypb.whole c)).2.length : Int) :: (VahypbNeutral.step o (PyVahypb.whole c)).2) ++ PyFlat.told (PyFlat.played VahypbNeutral.step (VahypbNeutral.step o (PyVahypb.whole c)).1 (cs.map PyVahypb.whole)) := rfl
        rw [List.map_cons, e, hst]
theorem math {l : List Int} (h : PyVahypb.answers_asked l = true) : wfc l.length l ∧ answers l = PyVahypb.answers l ∧ (answers l).length ≤ 10000000 := by
  unfold PyVahypb.answers_asked at h
  cases hc : PyFlat.calls PyVahypb.shape l.length l with
  | none => rw [hc] at h; cases h
  | some raw =>
    rw [hc] at h
    simp only [Bool.and_eq_true] at h
    obtain ⟨⟨_, hask⟩, hshort⟩ := h
    unfold VahypbNeutral.asked at hask
    rw [Bool.and_eq_true] at hask
    have hg := ans_go l.length l raw hc hask.1 none trivial l.length (Nat.le_refl _)
    have e : answers l = PyVahypb.answers l := by
      unfold answers PyVahypb.answers PyVahypb.calls
      rw [hc]
      exact hg.1
    refine ⟨hg.2, e, ?_⟩
    rw [e]
    exact of_decide_eq_true hshort
end PM
set_option Elab.async false
set_option linter.all false
set_option maxRecDepth 100000
set_option maxHeartbeats 2000000
/-! # Rules that the layer lacks, first part: d.items() of any dict, enumerate of a tuple -/
namespace PR
open PySem PySem.Spec PyProof.Rows L2
/-! ### for a, b in d.items(), whatever d's keys are -/
/-- what is seen of a locked dict: its n entries, each by its key's object and its value -/
def RawOk (d : Addr) (o : Obj) (u : HO) (n : Nat) (Y : Nat → Hp → Addr → V → Prop) : Prop :=
  ∀ (P : Program) (w : World) (H : Hp) (h : Heap), HOk P w H h → H d = some (.frz o u) →
    (d == sysModules) = false ∧ h.get? d = some o ∧ o.ExactDict ∧ ∃ (es : Array DictEntry) (ep : Nat), o.data = .dict es ep ∧ es.size = n ∧
      ∀ i, i < n → ∃ (en : DictEntry) (q : Addr) (v : V), es[i]? = some en ∧ en.key = .ref q ∧ RelV v en.val ∧ Y i H q v
def ItR (d : Addr) (o : Obj) (u : HO) (n : Nat) (Y : Nat → Hp → Addr → V → Prop) : It :=
  ⟨fun i H => H d = some (.frz o u) ∧ i < n, fun i H x H' => ∃ T q v, Y i H q v ∧ x = .ref T ∧ H T = none ∧ H' = upd H T (.tup [.ref q, v]), fun i H => H d = some (.frz o u) ∧ n ≤ i⟩
theorem walkR {d : Addr} {o : Obj} {u : HO} {n : Nat} {Y : Nat → Hp → Addr → V → Prop} :
    Walk (ItR d o u n Y) n (fun H => H d = some (.frz o u)) (fun i H x H' => ∃ T q v, Y i H q v ∧ x = .ref T ∧ H T = none ∧ H' = upd H T (.tup [.ref q, v])) :=
  ⟨fun _ _ hi q => ⟨q, hi⟩, fun _ q => ⟨q, Nat.le_refl _⟩, fun _ _ _ _ _ _ y => y⟩
theorem turnR {P : Program} {w : World} {K : PySem.W.Frag} {elts : List Expr} {kk : Nat} {tpos : Pos} {d it : Addr} {o : Obj} {u : HO} {n ep : Nat} {es : Array DictEntry} {Y : Nat → Hp → Addr → V → Prop}
    (R : RawOk d o u n Y) (hod : o.data = .dict es ep) : Turn P w K (.Tuple elts kk tpos) (ItR d o u n Y) [it] it (fun i h => ∃ ok ov, IsItemIter h it d i n ep ok ov) where
  mem := by simp
  obj := fun i h st b hb => by
    rw [List.mem_singleton.mp hb]
    obtain ⟨ok, ov, e⟩ := st
    exact ⟨_, e, fun v z => nomatch z⟩
  keep := fun i h h' st k => by
    obtain ⟨ok, ov, e⟩ := st
    exact ⟨ok, ov, k it (List.mem_singleton.mpr rfl) _ e⟩
  item := by
    intro X hP hw hK hc i pins s σ H E I hf st hg
    cases hP; cases hw; cases hK
    obtain ⟨hd, hi⟩ := hg
    obtain ⟨hs, hgd, hx, es2, ep2, hdt, hsz, ent⟩ := R X.prog X.w H s.heap I.hok hd
    obtain ⟨e1, e2⟩ := dict_ep hod hdt
    cases e1; cases e2
    obtain ⟨en, q, v, hen, hk, hv, hY⟩ := ent i hi
    obtain ⟨ok, ov, he⟩ := st
    rw [← hsz] at he hi
    have hlt : it < s.heap.objs.size := Heap.lt_size he
    have hen2 : es[i] = en := by
      rw [Array.getElem?_eq_getElem hi] at hen
      exact Option.some.inj hen
    refine DT.nextI he ⟨o, hgd, hx, hdt⟩ hi fun h' ho hT hz hk' => ⟨_, rfl, ?_⟩
    rw [hen2] at hT ho
    refine wpAny_letOwnedTupleGo_items (s := { s with heap := h' }) ho fun h2 he2 sb => ?_
    have hT2 : h2.get? s.heap.objs.size = some { cls := .type "tuple", data := .seq #[en.key, en.val] } := (sb.2 _ (Nat.ne_of_gt hlt)).trans hT
    have new : ObjOk X.prog X.w (upd H s.heap.objs.size (.tup [.ref q, v])) h2 s.heap.objs.size (.tup [.ref q, v]) :=
      ⟨by show 2 ≤ sizeLine; decide, [en.key, en.val], .cons hk (.cons hv .nil), ⟨_, hT2, rfl, _, rfl⟩⟩
    refine ⟨.ref s.heap.objs.size, upd H s.heap.objs.size (.tup [.ref q, v]), ?_, rfl, ⟨_, q, v, hY, rfl, I.hok.fresh (Nat.le_refl _), rfl⟩, ⟨en.key, en.val, ?_⟩, fun b hb => ?_⟩
    · exact I.turnedNew (t' := s.toks) (ch := [it]) (fun b ob hb e => by
        have hb' : b ≠ it := fun z => hb (List.mem_singleton.mpr z)
        exact (sb.2 b hb').trans (hk' b ob hb' e)) hf (Nat.le_refl _) new
    · rw [← hsz]
      exact he2
    · rw [List.mem_singleton.mp hb, upd_ne (Nat.ne_of_lt hlt)]
      exact (hf it (List.mem_singleton.mpr rfl)).1
  done := by
    intro X hP hw hK hc i pins s σ H E I hf st hg
    cases hP; cases hw; cases hK
    obtain ⟨hd, hi⟩ := hg
    obtain ⟨f0, f1, f2, f3, f4, f5⟩ := hf it (List.mem_singleton.mpr rfl)
    obtain ⟨hs, hgd, hx, es2, ep2, hdt, hsz, ent⟩ := R X.prog X.w H s.heap I.hok hd
    obtain ⟨e1, e2⟩ := dict_ep hod hdt
    cases e1; cases e2
    obtain ⟨ok, ov, he⟩ := st
    rw [← hsz] at he hi
    exact DT.endI (I.ok.hd hc) he ⟨o, hgd, hx, hdt⟩ hi fun h' eb => ⟨rfl, I.turned (t' := s.toks) (fun b ob hb e => eb b ob hb e) f0 f1 f3 f4 f5⟩
  self := fun A i s Q E st h => by
    obtain ⟨_, _, e⟩ := st
    exact PySem.W.kcp_self e h
def iItemsR (td : TE) : TI := fun σ H R => td σ H fun x H1 => ∃ d o u n Y, x = .ref d ∧ H1 d = some (.frz o u) ∧ RawOk d o u n Y ∧ R (ItR d o u n Y) H1
theorem pi_itemsR {X : Cx} {e : Expr} {td : TE} {apos cpos : Pos} {elts : List Expr} {kk : Nat} {tpos : Pos} (he : PE X e td) (hbase : attributeBase e "items" X.env (eval e X.env) = eval e X.env := by rfl) (hline : (apos.endLine == cpos.line) = true := by rfl) :
    PI X (.Tuple elts kk tpos) (.Call (.Attribute e "items" apos) [] [] cpos) (iItemsR td) := by
  refine ⟨fun pins s σ H R I h => wpAny_Call_method (T := "dict") (id := "dict.items") hbase rfl hline F.plainAttrs_dict F.slot_dict_items F.type_dict_items (thn (he.run pins s σ H _ I h) fun v s1 hh => ?_)⟩
  obtain ⟨x, H1, I1, rx, d, o, u, n, Y, ex, hd, Rw, q⟩ := hh
  subst ex
  obtain rfl : v = Value.ref d := rx
  obtain ⟨hs, hgd, hx, es, ep, hdt, hsz, ent⟩ := Rw X.prog X.w H1 s1.heap I1.hok hd
  have raw : DT.Raw s1.heap d es ep := ⟨o, hgd, hx, hdt⟩
  refine ⟨raw.typeIs, fun b eb => ?_, ?_⟩
  · cases eb
    exact ⟨o, hgd, hx.2.1⟩
  · have I2 : Inv X pins σ H1 { s1 with heap := s1.heap.push { cls := .type "dict_items", data := .fields #[.ref d] } } := I1.kept (t' := s1.toks) fun b ob q => Heap.get?_push_of_some _ q
    have fin : wpAny (model X.prog X.w) X.A (pyIter (.ref s1.heap.objs.size)) (PIE X pins σ (.Tuple elts kk tpos) R) X.xe { s1 with heap := s1.heap.push { cls := .type "dict_items", data := .fields #[.ref d] } } := by
      refine DT.iterI (d := d) ⟨_, Heap.get?_push_size _ rfl, rfl, rfl⟩ (raw.push _) (pi_one (tk := s1.toks) I2 _ (turnR Rw hdt) ⟨.none, .none, ?_⟩ q)
      rw [← hsz]
      exact Heap.get?_push_size _ rfl
    show wpAny _ _ (callWith cpos (.builtin "dict.items") [.ref d] [] []) _ X.xe s1
    exact method_meetsIn F.slot_dict_items F.entry_dict_items rfl (PySem.evalArgs_none ⟨rfl, raw.typeIs, F.args_dict_items_1 _, _, DT.meetsItems (es := es) (ep := ep) hs, ⟨raw, fin⟩⟩)
/-- a dict whose keys are tuples of whole numbers and texts -/
theorem rawT {d : Addr} {o : Obj} {kvs : List (List Key × V)} : RawOk d o (.dT kvs) kvs.length fun i H q v => ∃ k, kvs[i]? = some (k, v) ∧ H q = some (.tup (k.map kV)) := by
  intro P w H h hok hd
  obtain ⟨hg, hz, hs, xs, pr, o2, es, ep, ho, hx, hdt, he, _⟩ := hok d _ hd
  rw [hg] at ho
  cases ho
  refine ⟨hs, hg, hx, es, ep, hdt, (size_of_entries he).trans (Paired.length pr).symm, fun i hi => ?_⟩
  obtain ⟨k, v⟩ : ∃ k, k = kvs[i] := ⟨_, rfl⟩
  obtain ⟨b, hb, e1, e2, e3⟩ := paired_get pr (List.getElem?_eq_getElem hi)
  have q := entry_at he i
  rw [hb] at q
  exact ⟨_, b.2.1, kvs[i].2, q, rfl, e3, kvs[i].1, List.getElem?_eq_getElem hi, e2⟩
/-! ### for i, x in enumerate(t), t a tuple -/
theorem draws_tuple {prog : Program} {w : World} {A : Around} (hh : A.handled = none) (it l : Addr) (hne : l ≠ it) (items : Array Value) :
    Draws prog w A it [it, l] items.size (fun i v => items[i]? = some v) (fun i h => h.IsTupleIter it l i ∧ h.IsTuple l items) where
  live := fun _ _ st => by
    obtain ⟨⟨o, ho, _⟩, _⟩ := st
    exact ⟨o, ho⟩
  frame := fun _ _ _ st hk => by
    obtain ⟨a, ob, hb, r⟩ := st
    exact ⟨a.at fun o e => hk it (by simp) o e, ob, hk l (by simp) ob hb, r⟩
  item := fun i s Q E hi st hQ => by
    obtain ⟨a, b⟩ := st
    refine RZ.nextOf_tuple_item a b (x := items[i]) (by simp [hi]) fun h' hit' hs' => hQ _ h' s.toks (by simp [hi]) ⟨hit', ?_⟩ hs'
    obtain ⟨ob, hb, r⟩ := b
    exact ⟨ob, (hs'.2 l hne).trans hb, r⟩
  done := fun s Q E st hE => RZ.nextOf_tuple_end hh st.1 st.2 (by simp) hE
def IteT (K : PySem.W.Frag) (a : Addr) : It :=
  ⟨fun i H => ∃ (xs : List V) (x : V), SqT K H a xs ∧ xs[i]? = some x, fun i H v H' => ∃ T x, v = .ref T ∧ H T = none ∧ H' = upd H T (.tup [.int (i : Nat), x]) ∧ ∀ xs, SqT K H a xs → xs[i]? = some x, fun i H => ∃ xs : List V, SqT K H a xs ∧ xs.length = i⟩
theorem walkET {K : PySem.W.Frag} {a : Addr} {xs : List V} : Walk (IteT K a) xs.length (fun H => SqT K H a xs) (YPair (fun i => some (.int (i : Nat))) (fun i => xs[i]?)) := by
  refine ⟨fun i _ hi q => ⟨xs, xs[i], q, by simp [hi]⟩, fun _ q => ⟨xs, q, rfl⟩, fun i H v H' _ q y => ?_⟩
  obtain ⟨T, x, h1, h2, h3, h4⟩ := y
  exact ⟨T, .int (i : Nat), x, h1, h2, h3, rfl, h4 xs q⟩
end PR
set_option Elab.async false
set_option linter.all false
set_option maxRecDepth 100000
set_option maxHeartbeats 2000000
namespace PR
open PySem PySem.Spec PyProof.Rows L2
set_option maxHeartbeats 4000000 in
theorem meets_enumT (l : Addr) (items : Array Value) :
    Meets (Builtin.«enumerate.__new__» ⟨[.type "enumerate", .ref l], []⟩) (fun _ R s => s.heap.IsTuple l items ∧
      R (.ok (.ret (.ref (s.heap.push { cls := .type "tuple_iterator", data := .fields #[.ref l, .int 0 0] }).objs.size)))
        { s with heap := (s.heap.push { cls := .type "tuple_iterator", data := .fields #[.ref l, .int 0 0] }).push { cls := .type "enumerate", data := .fields #[.none, .bool false, .ref s.heap.objs.size, rawInt 0, .none, .none] } }) :=
  .of_wp fun prog w A R s h => by
    obtain ⟨hp, g, d, tk, os⟩ := s
    obtain ⟨hl, h⟩ := h
    have hsub := sub_enumerate
    have hL : Heap.IsTuple (Shared.heap ⟨hp, g, d, tk, os⟩) l items := hl
    have q1 : ∀ {A' : Around} {E : Value → Shared → Prop} {Q : Value → Shared → Prop}, Q (.ref hp.objs.size) ⟨hp.push { cls := .type "tuple_iterator", data := .fields #[.ref l, .int 0 0] }, g, d, tk, os⟩ → wpAny (model prog w) A' (pyIter (.ref l)) Q E ⟨hp, g, d, tk, os⟩ := fun q => wpAny_pyIter_tuple hL q
    wp_walk using q1
    refine wpAny_stack_any fun st => wpAny_pure ?_
    split
    · rename_i c _ _ _ _ _
      cases (c == Value.type "enumerate") <;> (wp_walk using q1; exact ⟨_, rfl, h⟩)
    · wp_walk using q1
      exact ⟨_, rfl, h⟩
section
variable {prog : Program} {w : World} {A : Around} {E : Value → Shared → Prop} {s : Shared}
theorem call_enumT {l : Addr} {items : Array Value} {Q : Value → Shared → Prop} (hL : s.heap.IsTuple l items)
    (h : ∀ h', IsEnum h' (s.heap.objs.size + 1) s.heap.objs.size 0 .none → h'.IsTupleIter s.heap.objs.size l 0 →
      (∀ b o, s.heap.get? b = some o → h'.get? b = some o) → Q (.ref (s.heap.objs.size + 1)) { s with heap := h' }) :
    wpAny (model prog w) A (call (.type "enumerate") [.ref l]) Q E s := by
  refine callType_new F.called_enumerate (by decide) (F.typeCall_enumerate_1 _) (F.newCall_enumerate_1 _) (fun obj => F.args_object_init_2 obj _) F.entry_enumerate_new (meets_enumT l items) ⟨hL, ?_⟩
  have hz : (s.heap.push { cls := .type "tuple_iterator", data := .fields #[.ref l, .int 0 0] }).objs.size = s.heap.objs.size + 1 := Heap.size_push ..
  show _ ∧ _
  rw [hz]
  have he := Heap.get?_push_size (s.heap.push { cls := .type "tuple_iterator", data := .fields #[.ref l, .int 0 0] }) (o := { cls := .type "enumerate", data := .fields #[.none, .bool false, .ref s.heap.objs.size, rawInt 0, .none, .none] }) rfl
  rw [hz] at he
  exact ⟨⟨_, he, rfl⟩, h _ he ⟨_, Heap.get?_push_of_some _ (Heap.get?_push_size _ rfl), rfl, rfl⟩ fun b o x => Heap.get?_push_of_some _ (Heap.get?_push_of_some _ x)⟩
end
theorem turnET {P : Program} {w : World} {K : PySem.W.Frag} {elts : List Expr} {kk : Nat} {tpos : Pos} (a e it : Addr) :
    Turn P w K (.Tuple elts kk tpos) (IteT K a) [e, it] e (fun i h => (∃ old, IsEnum h e it ((i : Nat) : Int) old) ∧ h.IsTupleIter it a i ∧ e ≠ it) where
  mem := by simp
  obj := fun i h st b hb => by
    obtain ⟨⟨old, he⟩, ⟨o, ho, hc, hd⟩, _⟩ := st
    rcases List.mem_cons.mp hb with z | z
    · rw [z]; exact ⟨_, he, fun v q => nomatch q⟩
    · rw [List.mem_singleton.mp z]; exact ⟨o, ho, fun v q => by rw [hd] at q; cases q⟩
  keep := fun i h h' st k => by
    obtain ⟨⟨old, he⟩, hi, hne⟩ := st
    exact ⟨⟨old, k e (by simp) _ he⟩, hi.at fun o q => k it (by simp) o q, hne⟩
  item := by
    intro X hP hw hK hc i pins s σ H E I hf st hg
    cases hP; cases hw; cases hK
    obtain ⟨⟨old, he⟩, hit, hne⟩ := st
    obtain ⟨xs, x, hq, hx⟩ := hg
    obtain ⟨its, rv, p, hz⟩ := I.tuple hq
    have hel : e < s.heap.objs.size := Heap.lt_size he
    have hil : it < s.heap.objs.size := by
      obtain ⟨_, q, _⟩ := hit
      exact Heap.lt_size q
    have hai : a ≠ it := fun z => by
      obtain ⟨o, ho, hc1, _⟩ := hit
      obtain ⟨o2, ho2, hc2, _⟩ := p
      rw [z, ho] at ho2
      cases ho2
      rw [hc1] at hc2
      exact absurd hc2 (by decide)
    have hea : e ≠ a := fun z => by
      obtain ⟨o2, ho2, hc2, _⟩ := p
      have he' : s.heap.get? e = _ := he
      rw [← z, he'] at ho2
      cases ho2
      have hc3 : Value.type "enumerate" = Value.type "tuple" := hc2
      exact absurd hc3 (by decide)
    have hlt : i < its.toArray.size := by
      have l1 := rv.length
      have l2 := (List.getElem?_eq_some_iff.mp hx).1
      simp
      omega
    have D := draws_tuple (prog := X.prog) (w := X.w) (A := X.A.in1) (I.ok.hd hc) it a hai its.toArray
    refine wpAny_pyNext_enum_itemD D he ⟨hit, p⟩ hlt hne (by simp [hne, hea]) fun u h' tk hu ho hst hT hsz hk => ⟨_, rfl, ?_⟩
    have ru : RelV x u := by
      obtain ⟨u2, hu2, ru2⟩ := rv.get hx
      have hu' : its[i]? = some u := by simpa using hu
      rw [hu2] at hu'
      cases hu'
      exact ru2
    refine wpAny_letOwnedTupleGo_enum (s := { s with heap := h', toks := tk + 1 }) ho fun h2 he2 sb => ?_
    have hT2 : h2.get? s.heap.objs.size = some { cls := .type "tuple", data := .seq #[.int i tk, u] } := (sb.2 _ (Nat.ne_of_gt hel)).trans hT
    have new : ObjOk X.prog X.w (upd H s.heap.objs.size (.tup [.int (i : Nat), x])) h2 s.heap.objs.size (.tup [.int (i : Nat), x]) :=
      ⟨by show 2 ≤ sizeLine; decide, [.int i tk, u], .cons ⟨_, rfl⟩ (.cons ru .nil), ⟨_, hT2, rfl, _, rfl⟩⟩
    refine ⟨.ref s.heap.objs.size, upd H s.heap.objs.size (.tup [.int (i : Nat), x]), ?_, rfl, ⟨_, x, rfl, I.hok.fresh (Nat.le_refl _), rfl, fun ys hy => by rw [I.tuple_inj hy hq]; exact hx⟩, ⟨⟨u, ?_⟩, ?_, hne⟩, fun b hb => ?_⟩
    · exact I.turnedNew (t' := tk + 1) (ch := [e, it]) (fun b ob hb q => by
        have b1 : b ≠ e := fun z => hb (by simp [z])
        have b2 : b ≠ it := fun z => hb (by simp [z])
        exact (sb.2 b b1).trans (hk b ob b1 b2 q)) hf (Nat.le_refl _) new
    · rw [show ((i + 1 : Nat) : Int) = (i : Int) + 1 by omega]
      exact he2
    · exact hst.1.at fun o q => (sb.2 it (Ne.symm hne)).trans q
    · have hb' : b < s.heap.objs.size := by
        rcases List.mem_cons.mp hb with z | z
        · rw [z]; exact hel
        · rw [List.mem_singleton.mp z]; exact hil
      rw [upd_ne (Nat.ne_of_lt hb')]
      exact (hf b hb).1
  done := by
    intro X hP hw hK hc i pins s σ H E I hf st hg
    cases hP; cases hw; cases hK
    obtain ⟨⟨old, he⟩, hit, hne⟩ := st
    obtain ⟨xs, hq, hx⟩ := hg
    obtain ⟨its, rv, p, hz⟩ := I.tuple hq
    obtain ⟨f0, f1, f2, f3, f4, f5⟩ := hf it (by simp)
    have hai : a ≠ it := fun z => by
      obtain ⟨o, ho, hc1, _⟩ := hit
      obtain ⟨o2, ho2, hc2, _⟩ := p
      rw [z, ho] at ho2
      cases ho2
      rw [hc1] at hc2
      exact absurd hc2 (by decide)
    have D := draws_tuple (prog := X.prog) (w := X.w) (A := X.A.in1) (I.ok.hd hc) it a hai its.toArray
    have ei : its.toArray.size = i := by
      have l1 := rv.length
      simp
      omega
    refine wpAny_pyNext_enum_endD D he (by rw [ei]; exact ⟨hit, p⟩) fun h' eb => ⟨rfl, I.turned (t' := s.toks) (fun b o hb q => eb b o hb q) f0 f1 f3 f4 f5⟩
  self := fun A i s Q E st h => by
    obtain ⟨⟨_, he⟩, _⟩ := st
    exact wpAny_pyIter_enum he h
def iEnumT (K : PySem.W.Frag) (ta : TA) : TI := fun σ H R => ta σ H fun vs H1 => ∃ a xs, vs = [.ref a] ∧ SqT K H1 a xs ∧ R (IteT K a) H1
theorem pi_enumT {X : Cx} {e : Expr} {ta : TA} {p pos tpos : Pos} {elts : List Expr} {kk : Nat} (hg : Gl X "enumerate") (hm : X.mg "enumerate" = none) (ha : PA X [e] ta) (hs : starEach [e] X.env = [(false, eval e X.env)] := by rfl) :
    PI X (.Tuple elts kk tpos) (.Call (.Name "enumerate" p) [e] [] pos) (iEnumT X.K ta) := by
  refine ⟨fun pins s σ H R I h => Call_ (ld_blt I hg hm boot_enumerate (PyProof.Rows.callWith_type1 (thn (ha.run pos pins s σ H _ I h) fun us s1 hh => ?_) hs rfl))⟩
  obtain ⟨vs, H1, I1, r1, a, xs, ex, hq, q⟩ := hh
  subst ex
  cases r1 with
  | cons r rr =>
    cases rr
    cases r
    obtain ⟨its, rv, p', hz⟩ := I1.tuple hq
    refine call_enumT (show s1.heap.IsTuple a its.toArray from p') fun h' he hit hk => wpAny_pyIter_enum he ?_
    have I2 : Inv X pins σ H1 { s1 with heap := h' } := I1.kept (t' := s1.toks) hk
    refine ⟨s1.heap.objs.size + 1, [s1.heap.objs.size + 1, s1.heap.objs.size], _, _, H1, rfl, I2, turnET a (s1.heap.objs.size + 1) s1.heap.objs.size, ⟨⟨.none, he⟩, hit, Nat.succ_ne_self _⟩, fun b hb => ?_, q⟩
    have hle : s1.heap.objs.size ≤ b := by
      rcases List.mem_cons.mp hb with z | z
      · rw [z]; exact Nat.le_add_right _ _
      · rw [List.mem_singleton.mp z]; exact Nat.le_refl _
    exact I1.fpOk hle (I1.hok.fresh hle)
end PR
set_option Elab.async false
set_option linter.all false
set_option maxRecDepth 100000
set_option maxHeartbeats 2000000
/-! # Rules that the layer lacks: tuples of whole numbers asked: max, sum, index, count -/
namespace PR
open PySem PySem.Spec PyProof.Rows L2
open PySem.W (Datum maxOf max_tuple_datum count_tuple_datum index_tuple_datum HoldAll holds_int int_of_holds)
theorem units_of {A : Around} (hu : A.units + 8 < cLine) : A.units + 1 + Datum.depth Int < cLine := by
  show A.units + 1 + 0 < cLine
  omega
section
variable {X : Cx}
/-- max(t) -/
def rMaxT (K : PySem.W.Frag) : List V → Hp → VK → Prop := fun vs H Q => ∃ (a : Addr) (n : Int) (ns : List Int), vs = [V.ref a] ∧ SqT K H a ((n :: ns).map V.int) ∧ Q (.int (maxOf n ns)) H
theorem cr_maxT (hc : X.calm = true) (hu : X.A.units + 8 < cLine) : CallR X (.builtin "max") (rMaxT X.K) := by
  intro pins s σ H vs us Q I r h
  obtain ⟨a, n, ns, rfl, hs, q⟩ := h
  obtain ⟨its, rv, hl, _⟩ := I.tuple hs
  rw [Vals.ref1 r]
  refine max_tuple_datum (I.ok.hd hc) (show s.heap.IsTuple a its.toArray from hl) (HoldAll.of_ints rv.ints) (units_of hu) fun i v h' tk hi hv hk => ?_
  obtain ⟨t, rfl⟩ := int_of_holds hv
  exact ⟨.int _, H, I.kept hk, ⟨_, rfl⟩, q⟩
/-- t.count(k) -/
def rCntT (K : PySem.W.Frag) : V → List V → Hp → VK → Prop := fun x xs H Q => ∃ (p : Addr) (ns : List Int) (k : Int), x = .ref p ∧ xs = [.int k] ∧ SqT K H p (ns.map V.int) ∧ Q (.int ((ns.count k : Nat) : Int)) H
theorem mt_tcount (hu : X.A.units + 8 < cLine) : MtR X "tuple.count" (rCntT X.K) := by
  intro pins s σ H x xs v us Q I rx rxs h
  obtain ⟨p, ns, k, rfl, rfl, hs, q⟩ := h
  cases rx
  obtain ⟨u, rfl, t, rfl⟩ := vals1 rxs
  obtain ⟨its, rv, hl, _⟩ := I.tuple hs
  refine count_tuple_datum (show s.heap.IsTuple p its.toArray from hl) (HoldAll.of_ints rv.ints) (holds_int k t) (units_of hu) ⟨.int ((ns.count k : Nat) : Int), H, I.tok _, ⟨s.toks, ?_⟩, q⟩
  have e : (ns.countP fun y => decide (y = k)) = ns.count k := by
    rw [List.count_eq_countP]
    exact List.countP_congr fun y _ => by simp
  rw [e]
/-- t.index(k), k there -/
def rIdxT (K : PySem.W.Frag) : V → List V → Hp → VK → Prop := fun x xs H Q => ∃ (p : Addr) (ns : List Int) (k : Int), x = .ref p ∧ xs = [.int k] ∧ SqT K H p (ns.map V.int) ∧ k ∈ ns ∧ Q (.int ((ns.idxOf k : Nat) : Int)) H
theorem mt_tindex (hu : X.A.units + 8 < cLine) : MtR X "tuple.index" (rIdxT X.K) := by
  intro pins s σ H x xs v us Q I rx rxs h
  obtain ⟨p, ns, k, rfl, rfl, hs, hk, q⟩ := h
  cases rx
  obtain ⟨u, rfl, t, rfl⟩ := vals1 rxs
  obtain ⟨its, rv, hl, _⟩ := I.tuple hs
  exact index_tuple_datum (show s.heap.IsTuple p its.toArray from hl) (HoldAll.of_ints rv.ints) (holds_int k t) (units_of hu) hk ⟨.int ((ns.idxOf k : Nat) : Int), H, I.tok _, ⟨s.toks, rfl⟩, q⟩
end
section
variable {prog : Program} {w : World} {A : Around} {E : Value → Shared → Prop} {s : Shared} {l : Addr} {its : List Value} {ns : List Int} {Q : Value → Shared → Prop}
theorem sum_tup (hh : A.handled = none) (hl : s.heap.IsTuple l its.toArray) (hi : IntsAre its ns)
    (h : ∀ h' tk t', (∀ b o, s.heap.get? b = some o → h'.get? b = some o) → Q (.int ns.sum t') { s with heap := h', toks := tk }) : wpAny (model prog w) A (call (.builtin "sum") [.ref l]) Q E s := by
  obtain ⟨xs, e⟩ := hi.allInts.items
  have hn : numsOf (intItems xs).toList = ns := by rw [← e]; exact hi.numsOf
  rw [nums_intItems] at hn
  rw [e] at hl
  have hlt : l < s.heap.objs.size := by obtain ⟨_, e, _⟩ := hl; exact Heap.lt_size e
  refine call_sum_walkG (wpAny_pyIter_tuple hl ⟨_, _, _, _, _, _, numAt xs, rfl, Walks.tuple (A := A.in1) hh _ l (Nat.ne_of_lt hlt) (intItems xs), ⟨⟨_, Heap.get?_push_size _ rfl, rfl, rfl⟩, hl.push _⟩, fun b hb => ?_, (fun _ _ => intItems_at), fun h' tk t' hk => ?_⟩)
  · show b < (s.heap.push _).objs.size
    rw [Heap.size_push]
    rcases List.mem_cons.mp hb with z | z
    · rw [z]; exact Nat.lt_succ_self _
    · rw [List.mem_singleton.mp z]; exact Nat.lt_succ_of_lt hlt
  · have q := h h' tk t' fun b o e => hk b o (fun z => by
      rw [List.mem_singleton.mp z] at e
      exact Nat.lt_irrefl _ (Heap.lt_size e)) (Heap.get?_push_of_some _ e)
    have hz : (intItems xs).size = xs.size := by simp [intItems]
    rw [hz, preSum_eq, List.take_of_length_le (by simp), hn]
    exact q
end
/-- sum(t) -/
def rSumT (K : PySem.W.Frag) : List V → Hp → VK → Prop := fun vs H Q => ∃ (a : Addr) (ns : List Int), vs = [V.ref a] ∧ SqT K H a (ns.map V.int) ∧ Q (.int ns.sum) H
theorem cr_sumT {X : Cx} (hc : X.calm = true) : CallR X (.builtin "sum") (rSumT X.K) := by
  intro pins s σ H vs us Q I r h
  obtain ⟨a, ns, rfl, hs, q⟩ := h
  obtain ⟨its, rv, hl, _⟩ := I.tuple hs
  rw [Vals.ref1 r]
  exact sum_tup (I.ok.hd hc) (show s.heap.IsTuple a its.toArray from hl) rv.ints fun h' tk t' hk => ⟨.int _, H, I.kept hk, ⟨_, rfl⟩, q⟩
end PR
set_option Elab.async false
set_option linter.all false
set_option maxRecDepth 100000
set_option maxHeartbeats 2000000
/-! # zip(t, u) of two tuples walked by one name: the pair that was given out may still be held -/
namespace PR
open PySem PySem.Spec PyProof.Rows L2
open PySem.Sem (wp)
def zipO (r : Value) (f : Bool) (TI TO : Addr) : Obj := { cls := .type "zip", dict := none, data := .fields #[r, .bool f, .bool false, .ref TI, .ref TO], slots := #[] }
/-- what the first field holds: nothing, or the place of the pair given out last -/
def Out (r : Value) : Prop := r = .none ∨ ∃ T : Addr, r = rawInt T
section
variable {prog : Program} {w : World} {A : Around} {E : Value → Shared → Prop} {s : Shared} {z TI TO i1 i2 l1 l2 : Addr} {r : Value} {f : Bool} {k1 k2 : Nat} {xs ys : Array Value}
theorem alive_any {M : Model} {a : Addr} {Q : Option Obj → Shared → Prop} (h : Q (s.heap.get? a) s) : wpAny M A (loadIfAlive a) Q E s := fun _ _ _ => h
theorem zip_free {Q : Bool → Shared → Prop} (hz : s.heap.get? z = some (zipO r f TI TO)) (hr : Out r) (h1 : Q true s)
    (h2 : ∀ h', h'.get? z = some (zipO r true TI TO) → Heap.SameBut z s.heap h' → Q false { s with heap := h' }) : wpAny (model prog w) A (Builtin.SmallTypes.ownedTupleIsFree (.ref z)) Q E s := by
  unfold Builtin.SmallTypes.ownedTupleIsFree
  rcases hr with e | ⟨T, e⟩
  · subst e
    exact wpAny_bind (wpAny_field hz rfl (x := .none) rfl (wpAny_pure h1))
  · subst e
    refine wpAny_bind (wpAny_field hz rfl (x := rawInt T) rfl ?_)
    show wpAny _ _ (loadIfAlive ((T : Int).toNat) >>= _) _ _ _
    refine wpAny_bind (alive_any ?_)
    cases s.heap.get? ((T : Int).toNat) with
    | none => exact wpAny_pure h1
    | some o =>
      refine wpAny_bind (wpAny_field hz rfl (x := .bool f) rfl ?_)
      cases f with
      | true => rw [if_neg (by decide)]; exact wpAny_pure (h2 s.heap hz (Heap.SameBut.refl _ _))
      | false => rw [if_pos (by decide)]; exact wpAny_bind (wpAny_setField_rec hz (by simp) fun h hz' hs => wpAny_pure (h2 h hz' hs))
/-- the facts that every step needs -/
structure Zs (h : Heap) (z TI TO i1 i2 l1 l2 : Addr) (k1 k2 : Nat) (xs ys : Array Value) : Prop where
  ti : IsPair h TI (.ref i1) (.ref i2)
  it1 : h.IsTupleIter i1 l1 k1
  it2 : h.IsTupleIter i2 l2 k2
  t1 : h.IsTuple l1 xs
  t2 : h.IsTuple l2 ys
theorem Zs.but {h h' : Heap} {c : Addr} (Z : Zs h z TI TO i1 i2 l1 l2 k1 k2 xs ys) (hs : Heap.SameBut c h h') (c0 : TI ≠ c) (c1 : i1 ≠ c) (c2 : i2 ≠ c) (c3 : l1 ≠ c) (c4 : l2 ≠ c) : Zs h' z TI TO i1 i2 l1 l2 k1 k2 xs ys :=
  ⟨hs.extBut _ _ c0 Z.ti, Z.it1.extBut hs.extBut c1, Z.it2.extBut hs.extBut c2, Z.t1.extBut hs.extBut c3, Z.t2.extBut hs.extBut c4⟩
theorem Zs.push {h : Heap} (Z : Zs h z TI TO i1 i2 l1 l2 k1 k2 xs ys) (o : Obj) : Zs (h.push o) z TI TO i1 i2 l1 l2 k1 k2 xs ys :=
  ⟨Heap.get?_push_of_some _ Z.ti, Z.it1.at fun _ e => Heap.get?_push_of_some _ e, Z.it2.at fun _ e => Heap.get?_push_of_some _ e, Z.t1.push o, Z.t2.push o⟩
theorem zipG_item {x y a b : Value} {Q : Value → Shared → Prop} (D : ZipApart z TI TO i1 i2 l1 l2) (hz : s.heap.get? z = some (zipO r f TI TO)) (hr : Out r) (hTO : IsPair s.heap TO a b) (Z : Zs s.heap z TI TO i1 i2 l1 l2 k1 k2 xs ys)
    (hx : xs[k1]? = some x) (hy : ys[k2]? = some y)
    (hQ : ∀ h' r' f' a' b', h'.get? z = some (zipO r' f' TI TO) → Out r' → IsPair h' TO a' b' → Zs h' z TI TO i1 i2 l1 l2 (k1 + 1) (k2 + 1) xs ys → IsPair h' s.heap.objs.size x y →
      (∀ c o, c ≠ z → c ≠ TO → c ≠ i1 → c ≠ i2 → s.heap.get? c = some o → h'.get? c = some o) → Q (.ref s.heap.objs.size) { s with heap := h' }) :
    wpAny (model prog w) A (Builtin.«zip.__next__» ⟨[.ref z], []⟩) (fun fin s' => ∃ v, fin = .done (.ret v) ∧ Q v s') E s := by
  show wpAny _ _ (field (.ref z) 2 >>= _) _ _ _
  refine wpAny_bind (wpAny_field hz rfl (x := .bool false) rfl ?_)
  show wpAny _ _ (field (.ref z) 3 >>= _) _ _ _
  refine wpAny_bind (wpAny_field hz rfl (x := .ref TI) rfl (wpAny_bind (wpAny_seqItems Z.ti rfl ?_)))
  show wpAny _ _ (Builtin.SmallTypes.ownedTupleIsFree (.ref z) >>= _) _ _ _
  refine wpAny_bind (zip_free hz hr ?_ fun h₁ hz₁ hs₁ => ?_)
  · -- nobody holds the pair given out last: the zip's own pair is filled anew
    simp only [if_true]
    refine wpAny_bind (wpAny_rule (wpAny_bind (wpAny_field hz rfl (x := .ref TO) rfl (wpAny_bind (wpAny_setField_rec hz (by simp) fun h₁ hz₁ hs₁ => ?_)))))
    replace hz₁ : h₁.get? z = some (zipO .ellipsis f TI TO) := hz₁
    have Z₁ := Z.but hs₁ D.TIz D.i1z D.i2z D.l1z D.l2z
    refine wpAny_bind ?_
    simp only [List.zipIdx_cons, List.zipIdx_nil, List.forIn_cons, List.forIn_nil]
    refine wpAny_bind (wpAny_bind (wpAny_onRaise ?_))
    show wpAny _ _ (Builtin.SmallTypes.nextOf (.ref i1) >>= _) _ _ _
    refine wpAny_bind (RZ.nextOf_tuple_item Z₁.it1 Z₁.t1 hx fun h₂ h1₂ hs₂ => wpAny_pure ?_)
    have hTO₂ : IsPair h₂ TO a b := hs₂.extBut _ _ D.TOi1 (hs₁.extBut _ _ D.TOz hTO)
    refine wpAny_bind (wpAny_seqItems hTO₂ rfl (wpAny_bind (wpAny_updateSeq_pair hTO₂ fun h₃ hTO₃ hs₃ => ?_)))
    replace hTO₃ : IsPair h₃ TO x b := hTO₃
    refine wpAny_bind (wpAny_letGo (wpAny_pure (wpAny_bind (wpAny_bind (wpAny_onRaise ?_)))))
    show wpAny _ _ (Builtin.SmallTypes.nextOf (.ref i2) >>= _) _ _ _
    have Z₂ : Zs h₂ z TI TO i1 i2 l1 l2 (k1 + 1) k2 xs ys := ⟨hs₂.extBut _ _ D.TIi1 Z₁.ti, h1₂, Z₁.it2.extBut hs₂.extBut D.i12.symm, Z₁.t1.extBut hs₂.extBut D.l1i1, Z₁.t2.extBut hs₂.extBut D.l2i1⟩
    have Z₃ := Z₂.but hs₃ D.TITO D.TOi1.symm D.TOi2.symm D.l1TO D.l2TO
    refine wpAny_bind (RZ.nextOf_tuple_item Z₃.it2 Z₃.t2 hy fun h₄ h2₄ hs₄ => wpAny_pure ?_)
    have Z₄ : Zs h₄ z TI TO i1 i2 l1 l2 (k1 + 1) (k2 + 1) xs ys := ⟨hs₄.extBut _ _ D.TIi2 Z₃.ti, Z₃.it1.extBut hs₄.extBut D.i12, h2₄, Z₃.t1.extBut hs₄.extBut D.l1i2, Z₃.t2.extBut hs₄.extBut D.l2i2⟩
    have hTO₄ : IsPair h₄ TO x b := hs₄.extBut _ _ D.TOi2 hTO₃
    refine wpAny_bind (wpAny_seqItems hTO₄ rfl (wpAny_bind (wpAny_updateSeq_pair hTO₄ fun h₅ hTO₅ hs₅ => ?_)))
    replace hTO₅ : IsPair h₅ TO x y := hTO₅
    have Z₅ := Z₄.but hs₅ D.TITO D.TOi1.symm D.TOi2.symm D.l1TO D.l2TO
    refine wpAny_bind (wpAny_letGo (wpAny_pure (wpAny_pure (wpAny_bind (wpAny_seqItems hTO₅ rfl (wpAny_bind (wpAny_newTuple ?_)))))))
    have hsz : h₅.objs.size = s.heap.objs.size := by rw [hs₅.1, hs₄.1, hs₃.1, hs₂.1, hs₁.1]
    have hz₅ : h₅.get? z = some (zipO .ellipsis f TI TO) := hs₅.extBut _ _ D.TOz.symm (hs₄.extBut _ _ D.i2z.symm (hs₃.extBut _ _ D.TOz.symm (hs₂.extBut _ _ D.i1z.symm hz₁)))
    have hk₅ : ∀ c o, c ≠ z → c ≠ TO → c ≠ i1 → c ≠ i2 → s.heap.get? c = some o → h₅.get? c = some o := fun c o c1 c2 c3 c4 e =>
      hs₅.extBut _ _ c2 (hs₄.extBut _ _ c4 (hs₃.extBut _ _ c2 (hs₂.extBut _ _ c3 (hs₁.extBut _ _ c1 e))))
    have hzlt : z < h₅.objs.size := Heap.lt_size hz₅
    show wpAny _ _ (Builtin.SmallTypes.ownedTupleHandOut (.ref z) (.ref h₅.objs.size) >>= _) _ _ _
    refine wpAny_bind ?_
    unfold Builtin.SmallTypes.ownedTupleHandOut
    have hz₆ : (h₅.push { cls := .type "tuple", data := .seq #[x, y] }).get? z = some (zipO .ellipsis f TI TO) := Heap.get?_push_of_some _ hz₅
    refine wpAny_bind (wpAny_setField_rec hz₆ (by simp) fun h₇ hz₇ hs₇ => ?_)
    replace hz₇ : h₇.get? z = some (zipO (rawInt h₅.objs.size) f TI TO) := hz₇
    refine wpAny_setField_rec hz₇ (by simp) fun h₈ hz₈ hs₈ => ?_
    replace hz₈ : h₈.get? z = some (zipO (rawInt h₅.objs.size) false TI TO) := hz₈
    have up : ∀ c o, c ≠ z → h₅.get? c = some o → h₈.get? c = some o := fun c o c1 e => hs₈.extBut _ _ c1 (hs₇.extBut _ _ c1 (Heap.get?_push_of_some _ e))
    have hT₈ : IsPair h₈ h₅.objs.size x y := hs₈.extBut _ _ (Nat.ne_of_gt hzlt) (hs₇.extBut _ _ (Nat.ne_of_gt hzlt) (Heap.get?_push_size _ rfl))
    have Z₈ := ((Z₅.push { cls := .type "tuple", data := .seq #[x, y] }).but hs₇ D.TIz D.i1z D.i2z D.l1z D.l2z).but hs₈ D.TIz D.i1z D.i2z D.l1z D.l2z
    refine wpAny_pure ⟨_, rfl, ?_⟩
    show Q (.ref h₅.objs.size) _
    rw [hsz] at hz₈ hT₈ ⊢
    exact hQ h₈ _ _ x y hz₈ (.inr ⟨_, rfl⟩) (up _ _ D.TOz hTO₅) Z₈ hT₈ fun c o c1 c2 c3 c4 e => up c o c1 (hk₅ c o c1 c2 c3 c4 e)
  · -- it is held: a new pair is made
    have Z₁ := Z.but hs₁ D.TIz D.i1z D.i2z D.l1z D.l2z
    simp only [Bool.false_eq_true, if_false]
    refine wpAny_bind ?_
    rw [← Array.forIn_toList]
    simp only [List.forIn_cons, List.forIn_nil]
    refine wpAny_bind (wpAny_bind (wpAny_holding ?_))
    show wpAny _ _ (Builtin.SmallTypes.nextOf (.ref i1) >>= _) _ _ _
    refine wpAny_bind (RZ.nextOf_tuple_item (s := { s with heap := h₁ }) Z₁.it1 Z₁.t1 hx fun h₂ h1₂ hs₂ => wpAny_pure (wpAny_pure (wpAny_bind (wpAny_bind (wpAny_holding ?_)))))
    show wpAny _ _ (Builtin.SmallTypes.nextOf (.ref i2) >>= _) _ _ _
    have Z₂ : Zs h₂ z TI TO i1 i2 l1 l2 (k1 + 1) k2 xs ys := ⟨hs₂.extBut _ _ D.TIi1 Z₁.ti, h1₂, Z₁.it2.extBut hs₂.extBut D.i12.symm, Z₁.t1.extBut hs₂.extBut D.l1i1, Z₁.t2.extBut hs₂.extBut D.l2i1⟩
    refine wpAny_bind (RZ.nextOf_tuple_item (s := { s with heap := h₂ }) Z₂.it2 Z₂.t2 hy fun h₃ h2₃ hs₃ => wpAny_pure (wpAny_pure (wpAny_pure ?_)))
    have Z₃ : Zs h₃ z TI TO i1 i2 l1 l2 (k1 + 1) (k2 + 1) xs ys := ⟨hs₃.extBut _ _ D.TIi2 Z₂.ti, Z₂.it1.extBut hs₃.extBut D.i12, h2₃, Z₂.t1.extBut hs₃.extBut D.l1i2, Z₂.t2.extBut hs₃.extBut D.l2i2⟩
    show wpAny _ _ (newTuple [x, y] >>= _) _ _ _
    refine wpAny_bind (wpAny_newTuple ?_)
    have hsz : h₃.objs.size = s.heap.objs.size := by rw [hs₃.1, hs₂.1, hs₁.1]
    have hz₃ : h₃.get? z = some (zipO r true TI TO) := hs₃.extBut _ _ D.i2z.symm (hs₂.extBut _ _ D.i1z.symm hz₁)
    have hk : ∀ c o, c ≠ z → c ≠ i1 → c ≠ i2 → s.heap.get? c = some o → h₃.get? c = some o := fun c o c1 c2 c3 e => hs₃.extBut _ _ c3 (hs₂.extBut _ _ c2 (hs₁.extBut _ _ c1 e))
    refine wpAny_pure ⟨_, rfl, ?_⟩
    show Q (.ref h₃.objs.size) _
    have hp : IsPair (h₃.push { cls := .type "tuple", data := .seq #[x, y] }) h₃.objs.size x y := Heap.get?_push_size _ rfl
    rw [hsz] at hp ⊢
    exact hQ _ r true a b (Heap.get?_push_of_some _ hz₃) hr (Heap.get?_push_of_some _ (hk _ _ D.TOz D.TOi1 D.TOi2 hTO)) (Z₃.push _) hp fun c o c1 _ c3 c4 e => Heap.get?_push_of_some _ (hk c o c1 c3 c4 e)
end
end PR
set_option Elab.async false
set_option linter.all false
set_option maxRecDepth 100000
set_option maxHeartbeats 2000000
namespace PR
open PySem PySem.Spec PyProof.Rows L2
open PySem.Sem (wp)
section
variable {prog : Program} {w : World} {A : Around} {E : Value → Shared → Prop} {s : Shared} {z TI TO i1 i2 l1 l2 : Addr} {r : Value} {f : Bool} {k1 k2 : Nat} {xs ys : Array Value}
/-- the first one is used up (the tuples are of one length) -/
theorem zipG_end {a b : Value} {Q : Fin → Shared → Prop} (hh : A.handled = none) (D : ZipApart z TI TO i1 i2 l1 l2) (hz : s.heap.get? z = some (zipO r f TI TO)) (hr : Out r) (hTO : IsPair s.heap TO a b) (Z : Zs s.heap z TI TO i1 i2 l1 l2 k1 k2 xs ys)
    (hx : xs[k1]? = none)
    (hE : ∀ h' e, (∀ c o, c ≠ z → c ≠ TO → c ≠ i1 → c ≠ i2 → s.heap.get? c = some o → h'.get? c = some o) → (∃ o, h'.get? e = some o ∧ o.cls = .type "StopIteration") → E (.ref e) { s with heap := h' }) :
    wpAny (model prog w) A (Builtin.«zip.__next__» ⟨[.ref z], []⟩) Q E s := by
  show wpAny _ _ (field (.ref z) 2 >>= _) _ _ _
  refine wpAny_bind (wpAny_field hz rfl (x := .bool false) rfl ?_)
  show wpAny _ _ (field (.ref z) 3 >>= _) _ _ _
  refine wpAny_bind (wpAny_field hz rfl (x := .ref TI) rfl (wpAny_bind (wpAny_seqItems Z.ti rfl ?_)))
  show wpAny _ _ (Builtin.SmallTypes.ownedTupleIsFree (.ref z) >>= _) _ _ _
  refine wpAny_bind (zip_free hz hr ?_ fun h₁ hz₁ hs₁ => ?_)
  · simp only [if_true]
    refine wpAny_bind (wpAny_rule (wpAny_bind (wpAny_field hz rfl (x := .ref TO) rfl (wpAny_bind (wpAny_setField_rec hz (by simp) fun h₁ hz₁ hs₁ => ?_)))))
    replace hz₁ : h₁.get? z = some (zipO .ellipsis f TI TO) := hz₁
    have Z₁ := Z.but hs₁ D.TIz D.i1z D.i2z D.l1z D.l2z
    refine wpAny_bind ?_
    simp only [List.zipIdx_cons, List.zipIdx_nil, List.forIn_cons, List.forIn_nil]
    refine wpAny_bind (wpAny_bind (wpAny_onRaise ?_))
    show wpAny _ _ (Builtin.SmallTypes.nextOf (.ref i1) >>= _) _ _ _
    refine wpAny_bind (RZ.nextOf_tuple_end hh Z₁.it1 Z₁.t1 hx fun h₂ e hs₂ he => ?_)
    obtain ⟨oe, hoe, hce⟩ := he
    have hz₂ : h₂.get? z = some (zipO .ellipsis f TI TO) := hs₂ _ _ D.i1z.symm hz₁
    have hez : e ≠ z := fun x => by
      rw [x, hz₂] at hoe
      cases hoe
      have hc : Value.type "zip" = Value.type "StopIteration" := hce
      exact absurd hc (by decide)
    exact wpAny_setField_rec hz₂ (by simp) fun h₃ _ hs₃ => hE h₃ e (fun c o c1 _ c3 _ x => hs₃.extBut _ _ c1 (hs₂ _ _ c3 (hs₁.extBut _ _ c1 x))) ⟨oe, hs₃.extBut _ _ hez hoe, hce⟩
  · have Z₁ := Z.but hs₁ D.TIz D.i1z D.i2z D.l1z D.l2z
    simp only [Bool.false_eq_true, if_false]
    refine wpAny_bind ?_
    rw [← Array.forIn_toList]
    simp only [List.forIn_cons, List.forIn_nil]
    refine wpAny_bind (wpAny_bind (wpAny_holding ?_))
    show wpAny _ _ (Builtin.SmallTypes.nextOf (.ref i1) >>= _) _ _ _
    exact wpAny_bind (RZ.nextOf_tuple_end (s := { s with heap := h₁ }) hh Z₁.it1 Z₁.t1 hx fun h₂ e hs₂ he => hE h₂ e (fun c o c1 _ c3 _ x => hs₂ _ _ c3 (hs₁.extBut _ _ c1 x)) he)
theorem nextG_item {x y a b : Value} {Q : Option Value → Shared → Prop} (D : ZipApart z TI TO i1 i2 l1 l2) (hz : s.heap.get? z = some (zipO r f TI TO)) (hr : Out r) (hTO : IsPair s.heap TO a b) (Z : Zs s.heap z TI TO i1 i2 l1 l2 k1 k2 xs ys)
    (hx : xs[k1]? = some x) (hy : ys[k2]? = some y)
    (hQ : ∀ h' r' f' a' b', h'.get? z = some (zipO r' f' TI TO) → Out r' → IsPair h' TO a' b' → Zs h' z TI TO i1 i2 l1 l2 (k1 + 1) (k2 + 1) xs ys → IsPair h' s.heap.objs.size x y →
      (∀ c o, c ≠ z → c ≠ TO → c ≠ i1 → c ≠ i2 → s.heap.get? c = some o → h'.get? c = some o) → Q (some (.ref s.heap.objs.size)) { s with heap := h' }) :
    wpAny (model prog w) A (pyNext (.ref z)) Q E s := by
  have hT : s.TypeIs (.ref z) "zip" := ⟨_, hz, rfl⟩
  unfold pyNext
  refine wpAny_bind (wpAny_attempt (wpAny_callSpecial?_slot (name := Str.ofString "__next__") hT F.slot_zip_next (wpAny_call_entry F.slot_zip_next hT F.entry_zip_next ?_ (F.args_zip_next_1 _))))
  exact zipG_item D hz hr hTO Z hx hy fun h' r' f' a' b' e1 e2 e3 e4 e5 e6 => wpAny_pure (hQ h' r' f' a' b' e1 e2 e3 e4 e5 e6)
theorem nextG_end {a b : Value} {Q : Option Value → Shared → Prop} (hh : A.handled = none) (D : ZipApart z TI TO i1 i2 l1 l2) (hz : s.heap.get? z = some (zipO r f TI TO)) (hr : Out r) (hTO : IsPair s.heap TO a b) (Z : Zs s.heap z TI TO i1 i2 l1 l2 k1 k2 xs ys)
    (hx : xs[k1]? = none) (hQ : ∀ h', (∀ c o, c ≠ z → c ≠ TO → c ≠ i1 → c ≠ i2 → s.heap.get? c = some o → h'.get? c = some o) → Q none { s with heap := h' }) : wpAny (model prog w) A (pyNext (.ref z)) Q E s := by
  have hT : s.TypeIs (.ref z) "zip" := ⟨_, hz, rfl⟩
  unfold pyNext
  refine wpAny_bind (wpAny_attempt (wpAny_callSpecial?_slot (name := Str.ofString "__next__") hT F.slot_zip_next (wpAny_call_entry F.slot_zip_next hT F.entry_zip_next (zipG_end hh D hz hr hTO Z hx fun h' e hk he => ?_) (F.args_zip_next_1 _))))
  obtain ⟨o, ho, hc⟩ := he
  exact wpAny_bind (wpAny_isInstance (T := "StopIteration") (b := true) ⟨o, ho, hc⟩ isSubtype_stop (wpAny_pure (hQ _ hk)))
end
/-- the pairs of two tuples of one length, each a new tuple -/
def ItzN (K : PySem.W.Frag) (a b : Addr) (xs ys : List V) : It :=
  ⟨fun i H => SqT K H a xs ∧ SqT K H b ys ∧ xs.length = ys.length ∧ i < xs.length, fun i H v H' => ∃ T x y, v = .ref T ∧ H T = none ∧ H' = upd H T (.tup [x, y]) ∧ xs[i]? = some x ∧ ys[i]? = some y,
    fun i H => SqT K H a xs ∧ SqT K H b ys ∧ xs.length = i⟩
theorem walkZN {K : PySem.W.Frag} {a b : Addr} {xs ys : List V} (hl : xs.length = ys.length) : Walk (ItzN K a b xs ys) xs.length (fun H => SqT K H a xs ∧ SqT K H b ys) (YPair (fun i => xs[i]?) (fun i => ys[i]?)) :=
  ⟨fun _ _ hi q => ⟨q.1, q.2, hl, hi⟩, fun _ q => ⟨q.1, q.2, rfl⟩, fun _ _ _ _ _ _ y => y⟩
theorem turnZN {P : Program} {w : World} {K : PySem.W.Frag} {nm : Str} {npos : Pos} {a b z TI TO i1 i2 : Addr} {xs ys : List V} (D : ZipApart z TI TO i1 i2 a b) :
    Turn P w K (.Name nm npos) (ItzN K a b xs ys) [z, TI, TO, i1, i2] z (fun i h => (∃ r f, Out r ∧ h.get? z = some (zipO r f TI TO)) ∧ IsPair h TI (.ref i1) (.ref i2) ∧ (∃ x y, IsPair h TO x y) ∧ h.IsTupleIter i1 a i ∧ h.IsTupleIter i2 b i) where
  mem := by simp
  obj := fun i h st c hc => by
    obtain ⟨⟨r, f, _, hz⟩, hTI, ⟨x, y, hTO⟩, ⟨o1, e1, _, d1⟩, ⟨o2, e2, _, d2⟩⟩ := st
    have e' : c = z ∨ c = TI ∨ c = TO ∨ c = i1 ∨ c = i2 := by simpa using hc
    rcases e' with q | q | q | q | q <;> rw [q]
    · exact ⟨_, hz, fun v q => nomatch q⟩
    · exact ⟨_, hTI, fun v q => nomatch q⟩
    · exact ⟨_, hTO, fun v q => nomatch q⟩
    · exact ⟨o1, e1, fun v q => by rw [d1] at q; cases q⟩
    · exact ⟨o2, e2, fun v q => by rw [d2] at q; cases q⟩
  keep := fun i h h' st k => by
    obtain ⟨⟨r, f, hr, hz⟩, hTI, ⟨x, y, hTO⟩, h1, h2⟩ := st
    exact ⟨⟨r, f, hr, k z (by simp) _ hz⟩, k TI (by simp) _ hTI, ⟨x, y, k TO (by simp) _ hTO⟩, h1.at fun o q => k i1 (by simp) o q, h2.at fun o q => k i2 (by simp) o q⟩
  item := by
    intro X hP hw hK hc i pins s σ H E I hf st hg
    cases hP; cases hw; cases hK
    obtain ⟨⟨r, f, hr, hz⟩, hTI, ⟨x0, y0, hTO⟩, h1, h2⟩ := st
    obtain ⟨hqx, hqy, hlen, hi⟩ := hg
    obtain ⟨its, rv, p, _⟩ := I.tuple hqx
    obtain ⟨its2, rv2, p2, _⟩ := I.tuple hqy
    have hx : xs[i]? = some xs[i] := List.getElem?_eq_getElem hi
    have hy : ys[i]? = some (ys[i]'(hlen ▸ hi)) := List.getElem?_eq_getElem _
    obtain ⟨u, hu, ru⟩ := rv.get hx
    obtain ⟨u2, hu2, ru2⟩ := rv2.get hy
    have hzl : z < s.heap.objs.size := Heap.lt_size hz
    refine nextG_item D hz hr hTO ⟨hTI, h1, h2, p, p2⟩ (x := u) (y := u2) (by simpa using hu) (by simpa using hu2) fun h' r' f' a' b' z' hr' TO' Z' hT hk => ⟨_, rfl, ?_⟩
    refine wpAny_pure ?_
    have new : ObjOk X.prog X.w (upd H s.heap.objs.size (.tup [xs[i], ys[i]'(hlen ▸ hi)])) h' s.heap.objs.size (.tup [xs[i], ys[i]'(hlen ▸ hi)]) :=
      ⟨by show 2 ≤ sizeLine; decide, [u, u2], .cons ru (.cons ru2 .nil), ⟨_, hT, rfl, _, rfl⟩⟩
    refine ⟨.ref s.heap.objs.size, _, I.turnedNew (t' := s.toks) (ch := [z, TI, TO, i1, i2]) (fun c o hb q => ?_) hf (Nat.le_refl _) new, rfl, ⟨_, _, _, rfl, I.hok.fresh (Nat.le_refl _), rfl, hx, hy⟩, ⟨⟨r', f', hr', z'⟩, Z'.ti, ⟨a', b', TO'⟩, Z'.it1, Z'.it2⟩, fun c hcm => ?_⟩
    · exact hk c o (fun e => hb (by simp [e])) (fun e => hb (by simp [e])) (fun e => hb (by simp [e])) (fun e => hb (by simp [e])) q
    · have e' : c = z ∨ c = TI ∨ c = TO ∨ c = i1 ∨ c = i2 := by simpa using hcm
      have hlt : c < s.heap.objs.size := by
        rcases e' with q | q | q | q | q <;> rw [q]
        · exact hzl
        · exact Heap.lt_size hTI
        · exact Heap.lt_size hTO
        · obtain ⟨_, e1, _⟩ := h1; exact Heap.lt_size e1
        · obtain ⟨_, e2, _⟩ := h2; exact Heap.lt_size e2
      rw [upd_ne (Nat.ne_of_lt hlt)]
      exact (hf c hcm).1
  done := by
    intro X hP hw hK hc i pins s σ H E I hf st hg
    cases hP; cases hw; cases hK
    obtain ⟨⟨r, f, hr, hz⟩, hTI, ⟨x0, y0, hTO⟩, h1, h2⟩ := st
    obtain ⟨hqx, hqy, hi⟩ := hg
    obtain ⟨its, rv, p, _⟩ := I.tuple hqx
    obtain ⟨its2, rv2, p2, _⟩ := I.tuple hqy
    have l1 := rv.length
    refine nextG_end (I.ok.hd hc) D hz hr hTO ⟨hTI, h1, h2, p, p2⟩ (by simp; omega) fun h' hk => ⟨rfl, I.turnedL (t' := s.toks) (ch := [z, TI, TO, i1, i2]) (fun c o hb q => ?_) hf⟩
    exact hk c o (fun e => hb (by simp [e])) (fun e => hb (by simp [e])) (fun e => hb (by simp [e])) (fun e => hb (by simp [e])) q
  self := fun A i s Q E st h => by
    obtain ⟨⟨r, f, hr, hz⟩, _⟩ := st
    have hT : s.TypeIs (.ref z) "zip" := ⟨_, hz, rfl⟩
    exact wpAny_pyIter_slot hT F.slot_zip_iter (wpAny_call_entry F.slot_zip_iter hT F.entry_zip_iter (wpAny_pure ⟨_, rfl, "zip", _, hT, F.slot_zip_next.lookup, h⟩) (F.args_zip_iter_1 _))
def iZipN (K : PySem.W.Frag) (ta : TA) : TI := fun σ H R => ta σ H fun vs H1 => ∃ a b xs ys, vs = [.ref a, .ref b] ∧ SqT K H1 a xs ∧ SqT K H1 b ys ∧ R (ItzN K a b xs ys) H1
theorem pi_zipN {X : Cx} {e e2 : Expr} {ta : TA} {p pos npos : Pos} {nm : Str} (hg : Gl X "zip") (hm : X.mg "zip" = none) (ha : PA X [e, e2] ta)
    (hs : starEach [e, e2] X.env = (false, eval e X.env) :: starEach [e2] X.env := by rfl) (hpl : (backTo pos (starEach [e2] X.env)).any (·.1) = false := by rfl) :
    PI X (.Name nm npos) (.Call (.Name "zip" p) [e, e2] [] pos) (iZipN X.K ta) := by
  refine ⟨fun pins s σ H R I h => Call_ (ld_blt I hg hm PyProof.Rows.boot_zip (PyProof.Rows.callWith_type1 (thn (ha.run pos pins s σ H _ I h) fun us s1 hh => ?_) hs hpl))⟩
  obtain ⟨vs, H1, I1, r1, a, b, xs, ys, ex, hqx, hqy, q⟩ := hh
  subst ex
  cases r1 with
  | cons r rr =>
    cases rr with
    | cons r' rr =>
      cases rr; cases r; cases r'
      obtain ⟨its, rv, p1, _⟩ := I1.tuple hqx
      obtain ⟨its2, rv2, p2, _⟩ := I1.tuple hqy
      obtain ⟨o1, ho1, _⟩ := id p1
      obtain ⟨o2, ho2, _⟩ := id p2
      refine RZ.call_zipT (show s1.heap.IsTuple a its.toArray from p1) (show s1.heap.IsTuple b its2.toArray from p2) fun h' hz hTI hTO h1 h2 hsz hk => wpAny_pyIter_zip hz ?_
      refine ⟨s1.heap.objs.size + 4, [s1.heap.objs.size + 4, s1.heap.objs.size + 2, s1.heap.objs.size + 3, s1.heap.objs.size, s1.heap.objs.size + 1], _, _, H1, rfl, I1.kept (t' := s1.toks) hk, turnZN (PySem.W.ktu_apart s1.heap.objs.size a b (Heap.lt_size ho1) (Heap.lt_size ho2)), ⟨⟨.none, false, .inl rfl, hz⟩, hTI, ⟨_, _, hTO⟩, h1, h2⟩, fun c hcm => ?_, q⟩
      have hle : s1.heap.objs.size ≤ c := by
        have e' : c = s1.heap.objs.size + 4 ∨ c = s1.heap.objs.size + 2 ∨ c = s1.heap.objs.size + 3 ∨ c = s1.heap.objs.size ∨ c = s1.heap.objs.size + 1 := by simpa using hcm
        rcases e' with z | z | z | z | z <;> rw [z] <;> first | exact Nat.le_refl _ | exact Nat.le_add_right _ _
      exact I1.fpOk hle (I1.hok.fresh hle)
end PR
set_option Elab.async false
set_option linter.all false
set_option maxRecDepth 100000
set_option maxHeartbeats 2000000
/-! # A written dict with whole numbers for keys: d[k], k in d, d.get(k, x); a call of what an expression gives -/
namespace PR
open PySem PySem.Spec PyProof.Rows L2
/-- what the written part says of the dict at d -/
structure KD (K : PySem.W.Frag) (d : Addr) (kvs : List (Int × V)) : Prop where
  at_ : ∃ (es : Array DictEntry) (n : Nat), K.lookup d = some ⟨.type "dict", none, .dict es n, #[]⟩ ∧
    Paired (fun (e : DictEntry) (kv : Int × V) => (∃ t, e.key = .int kv.1 t) ∧ e.hash = hashInt kv.1 ∧ RelV kv.2 e.val) es.toList kvs
  nd : (kvs.map (·.1)).Nodup
  lo : (d == sysModules) = false
def valI (kvs : List (Int × V)) (k : Int) : Option V := (kvs.find? fun kv => decide (kv.1 = k)).map (·.2)
theorem kd_pairs {P : Program} {w : World} : ∀ {es : List DictEntry} {kvs : List (Int × V)}, Paired (fun (e : DictEntry) (kv : Int × V) => (∃ t, e.key = .int kv.1 t) ∧ e.hash = hashInt kv.1 ∧ RelV kv.2 e.val) es kvs →
    ∃ vs : List (Int × Value), Pairs (intKind P w) es vs ∧ vs.map (·.1) = kvs.map (·.1) ∧ (∀ k, RelO (valI kvs k) (valueAt vs k)) ∧ ∀ e ∈ es, ∃ k, (intKind P w).is k e.key = true ∧ e.hash = (intKind P w).hash k
  | _, _, .nil => ⟨[], .nil, rfl, fun _ => True.intro, fun _ z => nomatch z⟩
  | _, _, .cons (a := e) (b := kv) r t => by
    obtain ⟨vs, h1, h2, h3, h4⟩ := kd_pairs (P := P) (w := w) t
    obtain ⟨⟨tk, ek⟩, eh, rv⟩ := r
    have is : (intKind P w).is kv.1 e.key = true := by
      rw [ek]
      show Value.isInt kv.1 (.int kv.1 tk) = true
      simp [Value.isInt]
    refine ⟨(kv.1, e.val) :: vs, .cons is rfl h1, by rw [List.map_cons, List.map_cons, h2], fun k => ?_, fun e' he' => ?_⟩
    · unfold valI valueAt
      rw [List.find?_cons, List.find?_cons]
      by_cases hk : kv.1 = k
      · simp only [hk, decide_true]
        exact rv
      · simp only [hk, decide_false]
        exact h3 k
    · rcases List.mem_cons.mp he' with z | z
      · rw [z]; exact ⟨kv.1, is, eh⟩
      · exact h4 e' z
theorem KD.of {K : PySem.W.Frag} {d : Addr} {kvs : List (Int × V)} {h : Heap} {P : Program} {w : World} (D : KD K d kvs) (X : K.In h) : ∃ vs : List (Int × Value), h.DictOf (intKind P w) d vs ∧ ∀ k, RelO (valI kvs k) (valueAt vs k) := by
  obtain ⟨es, n, lk, pr⟩ := D.at_
  obtain ⟨vs, h1, h2, h3, h4⟩ := kd_pairs (P := P) (w := w) pr
  exact ⟨vs, ⟨_, es, n, X d _ lk, ⟨rfl, rfl, rfl⟩, rfl, fun e he => h4 e (Array.mem_toList_iff.mpr he), h1, by rw [h2]; exact D.nd⟩, h3⟩
theorem isI (k : Int) (t : Tok) : Value.isInt k (.int k t) = true := by simp [Value.isInt]
section
variable {X : Cx} {o i f : Expr} {pos apos cpos : Pos} {td ty tx : TE}
def tKIx (K : PySem.W.Frag) (td ty : TE) : TE := fun σ H Q => td σ H fun x H1 => ty σ H1 fun y H2 => ∃ (d : Addr) (kvs : List (Int × V)) (k : Int) (v : V), x = .ref d ∧ y = .int k ∧ KD K d kvs ∧ valI kvs k = some v ∧ Q v H2
theorem pe_kix (ho : PE X o td) (hi : PE X i ty) (hs : NoSl i) : PE X (.Subscript o i pos) (tKIx X.K td ty) := by
  refine ⟨fun pins s σ H Q I h => subD_of PySem.F.slot_dict_getitem.lookup hs (thn (ho.run pins s σ H _ I h) fun u s1 hh => ?_)⟩
  obtain ⟨x, H1, I1, rx, q1⟩ := hh
  refine thn (hi.run pins s1 σ H1 _ I1 q1) fun iv s2 hh => ?_
  obtain ⟨y, H2, I2, ry, d, kvs, k, v, ex, ey, D, hv, q⟩ := hh
  subst ex ey
  obtain rfl : u = Value.ref d := rx
  obtain ⟨t, rfl⟩ := ry
  obtain ⟨vs, dd, rel⟩ := D.of (P := X.prog) (w := X.w) I2.kIn
  obtain ⟨w', hw, rw'⟩ := RelO.some_of (v := v) (o := valueAt vs k) (by rw [← hv]; exact rel k)
  exact ⟨dd.typeIs, wpAny_getItem_of (isI k t) dd.mapOf hw ⟨v, H2, I2.tok _, rw', q⟩⟩
def tKIn (K : PySem.W.Frag) (ty td : TE) : TE := fun σ H Q => ty σ H fun y H1 => td σ H1 fun x H2 => ∃ (d : Addr) (kvs : List (Int × V)) (k : Int), x = .ref d ∧ y = .int k ∧ KD K d kvs ∧ Q (.bl (valI kvs k).isSome) H2
theorem pc_kin (hi : PE X i ty) (ho : PE X o td) : PC X .In i o (tKIn X.K ty td) := by
  refine ⟨fun pins s σ H Q I h => thn (hi.run pins s σ H _ I h) fun iv s1 hh => ?_⟩
  obtain ⟨y, H1, I1, ry, q1⟩ := hh
  refine thn (ho.run pins s1 σ H1 _ I1 q1) fun u s2 hh => ?_
  obtain ⟨x, H2, I2, rx, d, kvs, k, ex, ey, D, q⟩ := hh
  subst ex ey
  obtain rfl : u = Value.ref d := rx
  obtain ⟨t, rfl⟩ := ry
  obtain ⟨vs, dd, rel⟩ := D.of (P := X.prog) (w := X.w) I2.kIn
  refine wpAny_in_of (isI k t) D.lo dd.mapOf ⟨.bl (valI kvs k).isSome, H2, I2.tok _, ?_, q⟩
  show Value.bool _ = Value.bool _
  rw [(rel k).isSome_eq]
def tKGet2 (K : PySem.W.Frag) (td ty tx : TE) : TE := fun σ H Q => td σ H fun x H1 => ∃ (d : Addr) (kvs : List (Int × V)), x = .ref d ∧ KD K d kvs ∧ ty σ H1 fun y H2 => ∃ k : Int, y = .int k ∧ tx σ H2 fun z H3 => Q ((valI kvs k).getD z) H3
theorem pe_kget2 (ho : PE X o td) (hi : PE X i ty) (hf : PE X f tx) (m : M2 X o "get" apos i f cpos) : PE X (.Call (.Attribute o "get" apos) [i, f] [] cpos) (tKGet2 X.K td ty tx) := by
  refine ⟨fun pins s σ H Q I h => wpAny_Call_method m.base m.few m.line PySem.F.plainAttrs_dict PySem.F.slot_dict_get PySem.F.type_dict_get (thn (ho.run pins s σ H _ I h) fun u s1 hh => ?_)⟩
  obtain ⟨x, H1, I1, rx, d, kvs, ex, D, q1⟩ := hh
  subst ex
  obtain rfl : u = Value.ref d := rx
  obtain ⟨vs0, dd0, _⟩ := D.of (P := X.prog) (w := X.w) I1.kIn
  refine ⟨dd0.typeIs, fun b eb => ?_, ?_⟩
  · cases eb
    obtain ⟨ob, _, _, g1, g2, _⟩ := dd0
    exact ⟨ob, g1, g2.2.1⟩
  · rw [m.trees]
    refine Calls.callWith_builtin rfl (Calls.evalArgs_plain (Calls.spliced_cons (thn (hi.run pins s1 σ H1 _ I1 q1) fun iv s2 hh => ?_)))
    obtain ⟨y, H2, I2, ry, k, ey, q2⟩ := hh
    subst ey
    obtain ⟨t, rfl⟩ := ry
    refine Calls.spliced_cons (thn (hf.run pins s2 σ H2 _ I2 q2) fun fv s3 hh => Calls.spliced_nil ?_)
    obtain ⟨z, H3, I3, rz, q3⟩ := hh
    obtain ⟨vs, dd, rel⟩ := D.of (P := X.prog) (w := X.w) I3.kIn
    refine call_meetsIn PySem.F.slot_dict_get dd.typeIs PySem.F.entry_dict_get (PySem.F.args_dict_get_3 _ _ _) (meets_dict_get_default (intKind X.prog X.w) d (show (intKind X.prog X.w).is k (.int k t) = true from isI k t) D.lo fv) ⟨_, dd.mapOf, ⟨_, H3, I3.tok _, ?_, q3⟩⟩
    exact (rel k).getD rz
/-- what an expression gives is called: a def of S -/
def tCallF (S : Addr → Option Sp) (tf : TE) (t : TA) : TE := fun σ H Q => tf σ H fun y H1 => ∃ (g : Addr) (sp : Sp), y = V.ref g ∧ S g = some sp ∧ t σ H1 fun vs H2 => sp vs H2 Q (fun _ _ _ => False)
theorem pe_callF {k : Nat} {S : Addr → Option Sp} {fe e : Expr} {es : List Expr} {tf : TE} {t : TA} (A : ∀ g sp, S g = some sp → Held X.prog X.w X.K X.mg X.base k g sp) (hr : Room k X.A) (hf : PE X fe tf) (ha : PA X (e :: es) t)
    (ht : eval (.Call fe (e :: es) [] pos) X.env = (do callWith pos (← eval fe X.env) [] (backTo pos (starEach (e :: es) X.env)) (backToKw pos (keywordEach [] X.env))) := by rfl)
    (he : starEach (e :: es) X.env = (false, eval e X.env) :: starEach es X.env := by rfl) (hpl : (backTo pos (starEach es X.env)).any (·.1) = false := by rfl) : PE X (.Call fe (e :: es) [] pos) (tCallF S tf t) := by
  refine ⟨fun pins s σ H Q I h => Call_ (thn (hf.run pins s σ H _ I h) fun u s1 hh => ?_) ht⟩
  obtain ⟨y, H1, I1, ry, g, sp, ey, hS, q⟩ := hh
  subst ey
  obtain rfl : u = Value.ref g := ry
  obtain ⟨fd, ps, F, hk, hb⟩ := (A g sp hS).ex
  refine PySem.W.callWith_K (h₀ := X.base) I1.ok.mod.kin hk (thn (ha.run pos pins s1 σ H1 _ I1 q) fun us s2 hh => ?_) he hpl
  obtain ⟨vs, H2, I2, r, q2⟩ := hh
  refine ⟨I2.kIn, run_fn (E := fun _ _ _ => False) (dvs := []) F hr hb .nil (fun _ _ _ _ _ _ _ z => z.elim) I2 r ?_⟩
  rw [List.append_nil]
  exact q2
end
end PR
set_option Elab.async false
set_option linter.all false
set_option maxRecDepth 100000
set_option maxHeartbeats 2000000
/-! # Dicts whose keys are tuples of whole numbers, or pairs of such a tuple and a whole number; tuples whose objects are known -/
namespace PR
open PySem PySem.Spec PyProof.Rows L2
abbrev GQ := NestedKey × Addr × V
def tk (ns : List Int) : NestedKey := .tup (ns.map .num)
def nk (k : List Int × Int) : NestedKey := .tup [tk k.1, .num k.2]
theorem tk_inj {a b : List Int} (h : tk a = tk b) : a = b := by
  unfold tk at h
  injection h with h
  exact (List.map_inj_right (fun x y z => by injection z)).mp h
theorem nk_inj {a b : List Int × Int} (h : nk a = nk b) : a = b := by
  unfold nk at h
  injection h with h
  injection h with h1 h2
  injection h2 with h2
  injection h2 with h2
  exact Prod.ext (tk_inj h1) h2
theorem depth_nums : ∀ l : List Int, NestedKey.depthAll (l.map .num) = 0
  | [] => rfl
  | x :: r => by
    rw [List.map_cons, NestedKey.depthAll, depth_nums r]
    rfl
theorem depth_tk (ns : List Int) : (tk ns).depth ≤ 8 := by
  unfold tk
  simp only [NestedKey.depth, depth_nums]
  omega
theorem depth_nk (k : List Int × Int) : (nk k).depth ≤ 8 := by
  unfold nk tk
  simp only [NestedKey.depth, NestedKey.depthAll, depth_nums]
  omega
theorem nums_all {h : Heap} : ∀ {ns : List Int} {us : List Value}, Vals (ns.map V.int) us → NestedAll h (ns.map .num) us
  | [], _, .nil => .nil
  | n :: r, _, .cons a t => by
    obtain ⟨tk, e⟩ := a
    rw [e]
    exact .cons (.int n tk) (nums_all t)
/-- the key k stands at a -/
def KAt (H : Hp) (a : Addr) (k : NestedKey) : Prop := (∃ ns : List Int, k = tk ns ∧ Rd H a (.tup (ns.map V.int))) ∨
  ∃ (ns : List Int) (i : Int) (b : Addr), k = nk (ns, i) ∧ Rd H a (.tup [.ref b, .int i]) ∧ Rd H b (.tup (ns.map V.int))
theorem tup_is {P : Program} {w : World} {H : Hp} {h : Heap} {b : Addr} {ns : List Int} (ok : HOk P w H h) (q : Rd H b (.tup (ns.map V.int))) : NestedIs h (tk ns) (.ref b) := by
  obtain ⟨_, vs, r2, o2, g2, c2, n2, d2⟩ := (show ObjOk P w H h b (.tup _) from q.ok ok)
  exact .tup g2 c2 d2 (nums_all r2)
theorem KAt.is {P : Program} {w : World} {H : Hp} {h : Heap} {a : Addr} {k : NestedKey} (q : KAt H a k) (ok : HOk P w H h) : (nestedKind P w).is h k a := by
  rcases q with ⟨ns, e, q⟩ | ⟨ns, i, b, e, h1, h2⟩
  · subst e
    exact ⟨tup_is ok q, depth_tk ns⟩
  · subst e
    obtain ⟨_, us, r1, o1, g1, c1, n1, d1⟩ := (show ObjOk P w H h a (.tup _) from h1.ok ok)
    refine ⟨.tup g1 c1 d1 ?_, depth_nk (ns, i)⟩
    cases r1 with
    | cons a1 r1 =>
      cases r1 with
      | cons a2 r1 =>
        cases r1; cases a1
        obtain ⟨tk, e⟩ := a2
        rw [e]
        exact .cons (tup_is ok h2) (.cons (.int _ tk) .nil)
def GX (q : GQ) (x : NestedKey × Addr × Value) : Prop := x.1 = q.1 ∧ x.2.1 = q.2.1 ∧ RelV q.2.2 x.2.2
def entG (w : World) (x : NestedKey × Addr × Value) : DictEntry := { hash := NestedKey.hash w x.1, key := .ref x.2.1, val := x.2.2 }
def gdO (w : World) (d : Addr) (qs : List GQ) : HO := .ext fun h => ((d == sysModules) = false ∧ qs.length ≤ sizeLine ∧ (qs.map (·.1)).Nodup) ∧
  ∃ xs, Paired GX qs xs ∧ ∃ o es ep, h.get? d = some o ∧ o.ExactDict ∧ o.data = .dict es ep ∧ es.toList = xs.map (entG w)
def atG (qs : List GQ) (k : NestedKey) : Option V := (qs.find? fun q => decide (q.1 = k)).map (·.2.2)
def putG (qs : List GQ) (k : NestedKey) (a : Addr) (v : V) : List GQ := if (qs.any fun q => decide (q.1 = k)) = true then qs.map fun q => if q.1 = k then (q.1, q.2.1, v) else q else qs ++ [(k, a, v)]
theorem gx_at : ∀ {qs : List GQ} {xs : List (NestedKey × Addr × Value)}, Paired GX qs xs → ∀ k : NestedKey, RelO (atG qs k) ((atKey xs k).map (·.2)) ∧ (qs.any fun q => decide (q.1 = k)) = (atKey xs k).isSome
  | _, _, .nil, k => ⟨True.intro, rfl⟩
  | _, _, .cons (a := q) (b := x) r t, k => by
    obtain ⟨e1, e2, e3⟩ := r
    obtain ⟨i1, i2⟩ := gx_at t k
    unfold atG atKey at *
    rw [List.find?_cons, List.find?_cons, List.any_cons, e1]
    by_cases h : q.1 = k
    · subst h
      simp only [decide_true]
      exact ⟨e3, rfl⟩
    · simp only [h, decide_false, Bool.false_or]
      exact ⟨i1, i2⟩
theorem gx_put {qs : List GQ} {xs : List (NestedKey × Addr × Value)} (r : Paired GX qs xs) (k : NestedKey) (a : Addr) {v : V} {u : Value} (rv : RelV v u) : Paired GX (putG qs k a v) (storedH xs k a u) := by
  unfold putG storedH
  rw [(gx_at r k).2]
  by_cases h : (atKey xs k).isSome = true
  · rw [if_pos h, if_pos h]
    clear h
    induction r with
    | nil => exact .nil
    | @cons q x l m h t' ih =>
      rw [List.map_cons, List.map_cons]
      refine .cons ?_ ih
      obtain ⟨e1, e2, e3⟩ := h
      unfold putAt
      rw [e1]
      by_cases hk : q.1 = k
      · rw [if_pos hk, if_pos hk]
        exact ⟨rfl, e2, rv⟩
      · rw [if_neg hk, if_neg hk]
        exact ⟨e1, e2, e3⟩
  · rw [if_neg h, if_neg h]
    exact Paired.snoc r ⟨rfl, rfl, rv⟩
theorem putG_length (qs : List GQ) (k : NestedKey) (a : Addr) (v : V) : (putG qs k a v).length ≤ qs.length + 1 := by
  unfold putG
  split
  · rw [List.length_map]; omega
  · rw [List.length_append]; exact Nat.le_refl _
theorem putG_keys (qs : List GQ) (k : NestedKey) (a : Addr) (v : V) : ((putG qs k a v).map (·.1)) = if (qs.any fun q => decide (q.1 = k)) = true then qs.map (·.1) else qs.map (·.1) ++ [k] := by
  unfold putG
  split
  · rw [List.map_map]
    refine List.map_congr_left fun q _ => ?_
    show (if q.1 = k then _ else q).1 = q.1
    split <;> rfl
  · rw [List.map_append]; rfl
theorem putG_nodup {qs : List GQ} (hn : (qs.map (·.1)).Nodup) (k : NestedKey) (a : Addr) (v : V) : ((putG qs k a v).map (·.1)).Nodup := by
  rw [putG_keys]
  split
  · exact hn
  · rename_i h
    refine List.nodup_append.mpr ⟨hn, by simp, fun x hx y hy => ?_⟩
    rw [List.mem_singleton.mp hy]
    intro e
    obtain ⟨q, hq, e2⟩ := List.mem_map.mp hx
    exact h (List.any_eq_true.mpr ⟨q, hq, decide_eq_true (e2.trans e)⟩)
theorem gdO_ok {P : Program} {w : World} {H : Hp} {h : Heap} {d : Addr} {qs : List GQ} (h1 : (d == sysModules) = false) (h2 : qs.length ≤ sizeLine) (h3 : (qs.map (·.1)).Nodup) {xs : List (NestedKey × Addr × Value)} (r : Paired GX qs xs)
    (x : ∃ o es ep, h.get? d = some o ∧ o.ExactDict ∧ o.data = .dict es ep ∧ es.toList = xs.map (entG w)) : ObjOk P w H h d (gdO w d qs) := by
  obtain ⟨o, es, ep, e1, e2, e3, e4⟩ := x
  refine ⟨⟨⟨h1, h2, h3⟩, xs, r, o, es, ep, e1, e2, e3, e4⟩, ⟨o, e1⟩, fun g1 g2 hg k => ?_⟩
  obtain ⟨c, xs', r', o', es', ep', f1, f2⟩ := hg
  exact ⟨c, xs', r', o', es', ep', k _ f1, f2⟩
theorem gdO_at {w : World} {P' : Program} {w' : World} {H : Hp} {h : Heap} {d : Addr} {qs : List GQ} (ok : HOk P' w' H h) (e : Rd H d (gdO w d qs)) : ((d == sysModules) = false ∧ qs.length ≤ sizeLine ∧ (qs.map (·.1)).Nodup) ∧
    ∃ xs, Paired GX qs xs ∧ ∃ o es ep, h.get? d = some o ∧ o.ExactDict ∧ o.data = .dict es ep ∧ es.toList = xs.map (entG w) := by
  have x : ObjOk P' w' H h d (.ext _) := e.ok ok
  exact x.1
theorem gd_nodup {qs : List GQ} {xs : List (NestedKey × Addr × Value)} (r : Paired GX qs xs) (hn : (qs.map (·.1)).Nodup) : (xs.map (·.1)).Nodup := by
  have e : xs.map (·.1) = qs.map (·.1) := by
    clear hn
    induction r with
    | nil => rfl
    | cons h t ih => rw [List.map_cons, List.map_cons, h.1, ih]
  rw [e]
  exact hn
theorem gd_is {P : Program} {w : World} {H : Hp} {h : Heap} (ok : HOk P w H h) : ∀ {qs : List GQ} {xs : List (NestedKey × Addr × Value)}, Paired GX qs xs → (∀ q ∈ qs, KAt H q.2.1 q.1) → ∀ x ∈ xs, (nestedKind P w).is h x.1 x.2.1
  | _, _, .nil, _, _, hx => nomatch hx
  | _, _, .cons r t, hk, x, hx => by
    rcases List.mem_cons.mp hx with e | hx
    · rw [e, r.1, r.2.1]
      exact (hk _ List.mem_cons_self).is ok
    · exact gd_is ok t (fun q hq => hk q (List.mem_cons_of_mem _ hq)) x hx
theorem gd_dict {P : Program} {w : World} {H : Hp} {h : Heap} {d : Addr} {qs : List GQ} (ok : HOk P w H h) (e : Rd H d (gdO w d qs)) (hk : ∀ q ∈ qs, KAt H q.2.1 q.1) :
    (d == sysModules) = false ∧ qs.length ≤ sizeLine ∧ ∃ xs, Paired GX qs xs ∧ h.DictOfH (nestedKind P w) d xs := by
  obtain ⟨⟨lo, hl, hn⟩, xs, rel, ob, es, ep, g, c, e3, e4⟩ := gdO_at ok e
  exact ⟨lo, hl, xs, rel, ob, es, ep, g, c, e3, e4, gd_is ok rel hk, gd_nodup rel hn⟩
section
variable {X : Cx} {o i f value : Expr} {pos pos' apos cpos : Pos} {td ty tx tv : TE}
/-- {} -/
def tGNew (w : World) : TE := fun _ H Q => ∀ p, H p = none → Q (.ref p) (upd H p (gdO w p []))
theorem pe_gnew : PE X (.Dict [] [] pos) (tGNew X.w) := ⟨fun pins s σ H Q I h =>
  wpAny_Dict_empty ⟨.ref s.heap.objs.size, _, I.laid (a := s.heap.objs.size) (o := gdO X.w s.heap.objs.size []) (t' := s.toks) (fun _ _ q => Heap.get?_push_of_some _ q) (Nat.le_refl _)
    (gdO_ok (beq_eq_false_iff_ne.mpr (Ne.symm (Nat.ne_of_lt I.big))) (Nat.zero_le _) List.nodup_nil .nil ⟨_, #[], 0, Heap.get?_push_size _ rfl, ⟨rfl, rfl, rfl⟩, rfl, rfl⟩), rfl, h _ (I.hok.fresh (Nat.le_refl _))⟩⟩
/-- d.get(k, x) -/
def tGGet2 (w : World) (td ty tx : TE) : TE := fun σ H Q => td σ H fun x H1 => ∃ (d : Addr) (qs0 : List GQ), x = .ref d ∧ Rd H1 d (gdO w d qs0) ∧ ty σ H1 fun y H2 => tx σ H2 fun z H3 =>
  ∃ (a : Addr) (k : NestedKey) (qs : List GQ), y = .ref a ∧ Rd H3 d (gdO w d qs) ∧ (∀ q ∈ qs, KAt H3 q.2.1 q.1) ∧ KAt H3 a k ∧ Q ((atG qs k).getD z) H3
theorem pe_gget2 (hu : X.A.units + 1 + 8 < cLine) (ho : PE X o td) (hi : PE X i ty) (hf : PE X f tx) (m : M2 X o "get" apos i f cpos) : PE X (.Call (.Attribute o "get" apos) [i, f] [] cpos) (tGGet2 X.w td ty tx) := by
  refine ⟨fun pins s σ H Q I h => wpAny_Call_method m.base m.few m.line PySem.F.plainAttrs_dict PySem.F.slot_dict_get PySem.F.type_dict_get (thn (ho.run pins s σ H _ I h) fun u s1 hh => ?_)⟩
  obtain ⟨x, H1, I1, rx, d, qs0, ex, rd0, q1⟩ := hh
  subst ex
  obtain rfl : u = Value.ref d := rx
  obtain ⟨_, _, _, ob0, _, _, g0, c0, _⟩ := gdO_at I1.hok rd0
  refine ⟨⟨ob0, g0, c0.1⟩, fun b eb => ?_, ?_⟩
  · cases eb
    exact ⟨ob0, g0, c0.2.1⟩
  · rw [m.trees]
    refine Calls.callWith_builtin rfl (Calls.evalArgs_plain (Calls.spliced_cons (thn (hi.run pins s1 σ H1 _ I1 q1) fun iv s2 hh => ?_)))
    obtain ⟨y, H2, I2, ry, q2⟩ := hh
    refine Calls.spliced_cons (thn (hf.run pins s2 σ H2 _ I2 q2) fun fv s3 hh => Calls.spliced_nil ?_)
    obtain ⟨z, H3, I3, rz, a, k, qs, ey, rd, hks, hk, q3⟩ := hh
    subst ey
    obtain rfl : iv = Value.ref a := ry
    obtain ⟨lo, hl, xs, rel, dd⟩ := gd_dict I3.hok rd hks
    refine call_meetsIn PySem.F.slot_dict_get dd.typeIs PySem.F.entry_dict_get (PySem.F.args_dict_get_3 _ _ _) (meetsH_dict_get_default (nestedKind X.prog X.w) d a lo fv) ⟨?_, k, xs, hk.is I3.hok, dd, _, H3, I3.tok _, ?_, q3⟩
    · show X.A.units + 1 + 8 < cLine
      exact hu
    · exact ((gx_at rel k).1).getD rz
/-- d.get(k) -/
def tGGet1 (w : World) (td ty : TE) : TE := fun σ H Q => td σ H fun x H1 => ∃ (d : Addr) (qs0 : List GQ), x = .ref d ∧ Rd H1 d (gdO w d qs0) ∧ ty σ H1 fun y H2 =>
  ∃ (a : Addr) (k : NestedKey) (qs : List GQ), y = .ref a ∧ Rd H2 d (gdO w d qs) ∧ (∀ q ∈ qs, KAt H2 q.2.1 q.1) ∧ KAt H2 a k ∧ Q ((atG qs k).getD .non) H2
theorem pe_gget1 (hu : X.A.units + 1 + 8 < cLine) (ho : PE X o td) (hi : PE X i ty) (m : M1 X o "get" apos i cpos) : PE X (.Call (.Attribute o "get" apos) [i] [] cpos) (tGGet1 X.w td ty) := by
  refine ⟨fun pins s σ H Q I h => wpAny_Call_method m.base m.few m.line PySem.F.plainAttrs_dict PySem.F.slot_dict_get PySem.F.type_dict_get (thn (ho.run pins s σ H _ I h) fun u s1 hh => ?_)⟩
  obtain ⟨x, H1, I1, rx, d, qs0, ex, rd0, q1⟩ := hh
  subst ex
  obtain rfl : u = Value.ref d := rx
  obtain ⟨_, _, _, ob0, _, _, g0, c0, _⟩ := gdO_at I1.hok rd0
  refine ⟨⟨ob0, g0, c0.1⟩, fun b eb => ?_, ?_⟩
  · cases eb
    exact ⟨ob0, g0, c0.2.1⟩
  · rw [m.trees]
    refine Calls.callWith_builtin rfl (Calls.evalArgs_plain (Calls.spliced_cons (thn (hi.run pins s1 σ H1 _ I1 q1) fun iv s2 hh => Calls.spliced_nil ?_)))
    obtain ⟨y, H2, I2, ry, a, k, qs, ey, rd, hks, hk, q3⟩ := hh
    subst ey
    obtain rfl : iv = Value.ref a := ry
    obtain ⟨lo, hl, xs, rel, dd⟩ := gd_dict I2.hok rd hks
    refine call_meetsIn PySem.F.slot_dict_get dd.typeIs PySem.F.entry_dict_get (PySem.F.args_dict_get_2 _ _) (meetsH_dict_get (nestedKind X.prog X.w) d a lo) ⟨?_, k, xs, hk.is I2.hok, dd, _, H2, I2.tok _, ?_, q3⟩
    · show X.A.units + 1 + 8 < cLine
      exact hu
    · exact ((gx_at rel k).1).getD (show RelV .non Value.none from rfl)
/-- k in d -/
def tGIn (w : World) (ty td : TE) : TE := fun σ H Q => ty σ H fun y H1 => td σ H1 fun x H2 => ∃ (d a : Addr) (k : NestedKey) (qs : List GQ), x = .ref d ∧ y = .ref a ∧ Rd H2 d (gdO w d qs) ∧ (∀ q ∈ qs, KAt H2 q.2.1 q.1) ∧ KAt H2 a k ∧ Q (.bl (atG qs k).isSome) H2
theorem pc_gin (hu : X.A.units + 1 + 8 < cLine) (hi : PE X i ty) (ho : PE X o td) : PC X .In i o (tGIn X.w ty td) := by
  refine ⟨fun pins s σ H Q I h => thn (hi.run pins s σ H _ I h) fun iv s1 hh => ?_⟩
  obtain ⟨y, H1, I1, ry, q1⟩ := hh
  refine thn (ho.run pins s1 σ H1 _ I1 q1) fun u s2 hh => ?_
  obtain ⟨x, H2, I2, rx, d, a, k, qs, ex, ey, rd, hks, hk, q⟩ := hh
  subst ex ey
  obtain rfl : u = Value.ref d := rx
  obtain rfl : iv = Value.ref a := ry
  obtain ⟨lo, hl, xs, rel, dd⟩ := gd_dict I2.hok rd hks
  refine wpAny_in_heap (knd := nestedKind X.prog X.w) (show X.A.units + 1 + 8 < cLine from hu) (hk.is I2.hok) lo dd ⟨.bl (atG qs k).isSome, H2, I2.tok _, ?_, q⟩
  show Value.bool _ = Value.bool _
  have e := (gx_at rel k).1.isSome_eq
  rw [e, Option.isSome_map]
/-- len(d) -/
def rLenG (w : World) : List V → Hp → VK → Prop := fun vs H Q => ∃ (d : Addr) (qs : List GQ), vs = [.ref d] ∧ Rd H d (gdO w d qs) ∧ (∀ q ∈ qs, KAt H q.2.1 q.1) ∧ Q (.int ((qs.length : Nat) : Int)) H
theorem call_len_g : CallR X (.builtin "len") (rLenG X.w) := by
  intro pins s σ H xs us Q I rx h
  obtain ⟨d, qs, rfl, rd, hks, q⟩ := h
  obtain ⟨u, rfl, ru⟩ := vals1 rx
  obtain rfl : u = Value.ref d := ru
  obtain ⟨lo, hl, xs, rel, dd⟩ := gd_dict I.hok rd hks
  have e : xs.length = qs.length := (Paired.length rel).symm
  refine call_len_dictH lo dd (by rw [e]; rw [sizeLine_eq] at hl; omega) ⟨.int ((qs.length : Nat) : Int), H, I.tok _, ⟨s.toks + 1, by rw [e]⟩, q⟩
/-- d[k] = v -/
def sGPut (w : World) (td ty tv : TE) : TS := fun D σ H => tv σ H fun v H1 => td σ H1 fun x H2 => ty σ H2 fun y H3 => ∃ (d a : Addr) (k : NestedKey) (qs : List GQ), x = .ref d ∧ y = .ref a ∧
  H3 d = some (gdO w d qs) ∧ (∀ q ∈ qs, KAt H3 q.2.1 q.1) ∧ KAt H3 a k ∧ qs.length < sizeLine ∧ D.nx σ (upd H3 d (gdO w d (putG qs k a v)))
theorem ps_gput (hu : X.A.units + 1 + 8 < cLine) (ho : PE X o td) (hi : PE X i ty) (hv : PE X value tv) (hs : swapsWith value (some (.Subscript o i pos')) pos.line X.env = pure false) :
    PS X (.Assign [.Subscript o i pos'] value pos) (sGPut X.w td ty tv) := by
  refine ⟨fun pins s σ H D I h => wpAny_Assign_Subscript (thn (hv.run pins s σ H _ I h) fun r s1 hh => ?_) hs⟩
  obtain ⟨v, H1, I1, rv, q1⟩ := hh
  refine thn (ho.run pins s1 σ H1 _ I1 q1) fun u s2 hh => ?_
  obtain ⟨x, H2, I2, rx, q2⟩ := hh
  refine thn (hi.run pins s2 σ H2 _ I2 q2) fun iv s3 hh => ?_
  obtain ⟨y, H3, I3, ry, d, a, k, qs, ex, ey, ed, hks, hk, hl, q⟩ := hh
  subst ex ey
  obtain rfl : u = Value.ref d := rx
  obtain rfl : iv = Value.ref a := ry
  obtain ⟨lo, hl2, hn⟩ := (gdO_at I3.hok (.inl ed)).1
  obtain ⟨_, _, xs, rel, dd⟩ := gd_dict I3.hok (.inl ed) hks
  refine wpAny_setItem_heap (hsz := by rw [← Paired.length rel]; exact hl2) (show X.A.units + 1 + 8 < cLine from hu) (hk.is I3.hok) dd fun h' dd' hs' => ⟨σ, _, ?_, q⟩
  obtain ⟨ob2, es2, ep2, f1, f2, f3, f4, _, _⟩ := dd'
  refine d_write I3 (by rw [ed]; exact True.intro) hs' ⟨ob2, f1⟩ (gdO_ok lo (Nat.le_trans (putG_length _ _ _ _) hl) (putG_nodup hn _ _ _) (gx_put rel k a rv) ⟨ob2, es2, ep2, f1, f2, f3, f4⟩)
end
/-- its entries, in order -/
theorem rawG {w : World} {d : Addr} {o : Obj} {qs : List GQ} : RawOk d o (gdO w d qs) qs.length fun i H q v => ∃ k, qs[i]? = some (k, q, v) := by
  intro P' w' H h hok hd
  obtain ⟨⟨lo, hl, hn⟩, xs, rel, ob, es, ep, g, c, e3, e4⟩ := gdO_at (w := w) hok (.inr ⟨o, hd⟩)
  obtain ⟨hg, _⟩ := (show ObjOk P' w' H h d (.frz o _) from hok d _ hd)
  rw [hg] at g
  cases g
  have e4' : es.toList = xs.map (entryOfKey (nestedKind P' w)) := e4
  refine ⟨lo, hg, c, es, ep, e3, (size_of_entries e4').trans (Paired.length rel).symm, fun i hi => ?_⟩
  obtain ⟨b, hb, r1, r2, r3⟩ := paired_get rel (List.getElem?_eq_getElem hi)
  have q := entry_at e4' i
  rw [hb] at q
  refine ⟨_, b.2.1, qs[i].2.2, q, rfl, r3, qs[i].1, ?_⟩
  rw [r2]
  exact List.getElem?_eq_getElem hi
/-! ### tuples whose objects are known -/
theorem pair_drop {α β : Type} {R : α → β → Prop} : ∀ {n : Nat} {xs : List α} {ys : List β}, Paired R xs ys → Paired R (xs.drop n) (ys.drop n)
  | 0, _, _, h => h
  | _ + 1, _, _, .nil => .nil
  | n + 1, _, _, .cons _ t => pair_drop (n := n) t
theorem pair_take {α β : Type} {R : α → β → Prop} : ∀ {n : Nat} {xs : List α} {ys : List β}, Paired R xs ys → Paired R (xs.take n) (ys.take n)
  | 0, _, _, _ => .nil
  | _ + 1, _, _, .nil => .nil
  | n + 1, _, _, .cons r t => .cons r (pair_take (n := n) t)
theorem pair_app {α β : Type} {R : α → β → Prop} : ∀ {xs xs' : List α} {ys ys' : List β}, Paired R xs ys → Paired R xs' ys' → Paired R (xs ++ xs') (ys ++ ys')
  | _, _, _, _, .nil, h => h
  | _, _, _, _, .cons r t, h => .cons r (pair_app t h)
section
variable {X : Cx}
theorem frz_ok {P : Program} {w : World} {H : Hp} {h : Heap} {a : Addr} {od : Obj} {u : HO} (h1 : h.get? a = some od) (h2 : ObjOk P w H h a u) : ObjOk P w H h a (.frz od u) := ⟨h1, h2⟩
/-- the tuple at a is of ns, and it has no dict -/
def Nice (H : Hp) (a : Addr) (xs : List V) : Prop := ∃ od : Obj, od.dict = none ∧ H a = some (.frz od (.tup xs))
theorem Nice.rd {H : Hp} {a : Addr} {xs : List V} (h : Nice H a xs) : Rd H a (.tup xs) := by
  obtain ⟨od, _, e⟩ := h
  exact .inr ⟨od, e⟩
def rSlN (K : PySem.W.Frag) : V → Option Int → Option Int → Hp → VK → Prop := fun x lo hi H Q => ∃ a xs, x = .ref a ∧ SqT K H a xs ∧ ((HT.sIx xs.length 0 lo = 0 ∧ HT.sIx xs.length xs.length hi = xs.length) → Q (.ref a) H) ∧
  (¬ (HT.sIx xs.length 0 lo = 0 ∧ HT.sIx xs.length xs.length hi = xs.length) → ∀ p od, H p = none → od.dict = none → Q (.ref p) (upd H p (.frz od (.tup (cutV xs lo hi)))))
theorem sl_tupN : SlR X (rSlN X.K) := by
  intro pins s σ H x v vl vu lo hi sl Q I rx hsl hlo hhi h
  obtain ⟨a, xs, rfl, ha, h1, h2⟩ := h
  obtain rfl : v = Value.ref a := rx
  obtain ⟨its, rv, hl, hz⟩ := I.tuple ha
  have hle : xs.length = its.length := Paired.length rv
  have ht : s.heap.IsTuple a its.toArray := hl
  refine ⟨"tuple", "tuple.__getitem__", PySem.F.slot_tuple_getitem.lookup, ht.typeIs, ?_⟩
  by_cases hw : HT.sIx xs.length 0 lo = 0 ∧ HT.sIx xs.length xs.length hi = xs.length
  · exact getItem_tuple_whole hl hsl hlo hhi (by simpa [← hle] using hw) ⟨.ref a, H, I, rfl, h1 hw⟩
  · refine HT.getItem_tuple_cut hl hsl hlo hhi (by simpa [← hle] using hw) ?_ (by simpa [← hle] using hz)
    have rv2 : Vals (cutV xs lo hi) ((its.drop (HT.sIx its.length 0 lo)).take (HT.sIx its.length its.length hi - HT.sIx its.length 0 lo)) := by
      unfold cutV
      rw [hle]
      exact pair_take (pair_drop rv)
    have hlen : (cutV xs lo hi).length ≤ sizeLine := by
      unfold cutV
      rw [List.length_take, List.length_drop]
      omega
    have ok : ∀ {H' : Hp}, ObjOk X.prog X.w H' (s.heap.push { cls := .type "tuple", data := .seq ((its.drop (HT.sIx its.length 0 lo)).take (HT.sIx its.length its.length hi - HT.sIx its.length 0 lo)).toArray }) s.heap.objs.size (.tup (cutV xs lo hi)) := ⟨hlen, _, rv2, _, Heap.get?_push_size _ rfl, rfl, _, rfl⟩
    exact ⟨.ref s.heap.objs.size, _, I.laid (a := s.heap.objs.size) (t' := s.toks) (fun _ _ q => Heap.get?_push_of_some _ q) (Nat.le_refl _) (frz_ok (Heap.get?_push_size _ rfl) ok), rfl, h2 hw _ _ (I.hok.fresh (Nat.le_refl _)) rfl⟩
def rCatN (K : PySem.W.Frag) : R2 := fun x y H Q => ∃ a b xs ys, x = .ref a ∧ y = .ref b ∧ SqT K H a xs ∧ SqT K H b ys ∧ xs ≠ [] ∧ ys ≠ [] ∧ xs.length + ys.length ≤ sizeLine ∧ ∀ p od, H p = none → od.dict = none → Q (.ref p) (upd H p (.frz od (.tup (xs ++ ys))))
theorem op_catN : OpR X (binaryOp .Add) (rCatN X.K) := by
  intro pins s σ H x y v u Q I rx ry h
  obtain ⟨a, b, xs, ys, rfl, rfl, ha, hb, hx, hy, hl, q⟩ := h
  obtain rfl : v = Value.ref a := rx
  obtain rfl : u = Value.ref b := ry
  obtain ⟨its, rv, h1, hz⟩ := I.tuple ha
  obtain ⟨jts, rw', h2, hz2⟩ := I.tuple hb
  have e1 : xs.length = its.length := Paired.length rv
  have e2 : ys.length = jts.length := Paired.length rw'
  refine HT.cat_tup h1 h2 (fun z => hx (by cases z; cases rv; rfl)) (fun z => absurd (by cases z; cases rw'; rfl) hy) (fun _ => ?_) (by rw [← e1, ← e2]; exact hl)
  have ok : ∀ {H' : Hp}, ObjOk X.prog X.w H' (s.heap.push { cls := .type "tuple", data := .seq (its ++ jts).toArray }) s.heap.objs.size (.tup (xs ++ ys)) := ⟨by rw [List.length_append]; exact hl, _, pair_app rv rw', _, Heap.get?_push_size _ rfl, rfl, _, rfl⟩
  exact ⟨.ref s.heap.objs.size, _, I.laid (a := s.heap.objs.size) (t' := s.toks) (fun _ _ q => Heap.get?_push_of_some _ q) (Nat.le_refl _) (frz_ok (Heap.get?_push_size _ rfl) ok), rfl, q _ _ (I.hok.fresh (Nat.le_refl _)) rfl⟩
section
/- t.m(k), t a tuple without a dict -/
variable {o e : Expr} {apos cpos : Pos} {to te : TE}
def tTM (K : PySem.W.Frag) (r : V → List V → Hp → VK → Prop) (to te : TE) : TE := fun σ H Q => to σ H fun x H1 => ∃ p xs, x = .ref p ∧ Nice H1 p xs ∧ te σ H1 fun y H2 => r x [y] H2 Q
theorem pe_tm {m : Str} {id : String} {r : V → List V → Hp → VK → Prop} (sl : Slot "tuple" m id) (ty : typeOf (.builtin id) = pure (.type "method_descriptor")) (hm : MtR X id r) (ho : PE X o to) (he : PE X e te) (m1 : M1 X o m apos e cpos) :
    PE X (.Call (.Attribute o m apos) [e] [] cpos) (tTM X.K r to te) := by
  refine ⟨fun pins s σ H Q I h => wpAny_Call_method m1.base m1.few m1.line PySem.F.plainAttrs_tuple sl ty (thn (ho.run pins s σ H _ I h) fun u s1 hh => ?_)⟩
  obtain ⟨x, H1, I1, rx, p, xs, ex, ep, q1⟩ := hh
  subst ex
  obtain rfl : u = Value.ref p := rx
  obtain ⟨its, rv, hl, _⟩ := I1.tuple (.inl ep.rd)
  have ht : s1.heap.IsTuple p its.toArray := hl
  obtain ⟨od, hd, ep2⟩ := ep
  refine ⟨ht.typeIs, fun b eb => ?_, ?_⟩
  · cases eb
    exact ⟨od, (show ObjOk _ _ H1 s1.heap p (.frz od _) from I1.hok p _ ep2).1, hd⟩
  · rw [m1.trees]
    refine Calls.callWith_builtin rfl (Calls.evalArgs_plain (Calls.spliced_cons (thn (he.run pins s1 σ H1 _ I1 q1) fun iv s2 hh => Calls.spliced_nil ?_)))
    obtain ⟨y, H2, I2, ry, q2⟩ := hh
    exact hm pins s2 σ H2 (.ref p) [y] (.ref p) [iv] Q I2 rfl (.cons ry .nil) q2
end
/-- tuple(xs), xs a list -/
def rTupN (K : PySem.W.Frag) : List V → Hp → VK → Prop := fun vs H Q => ∃ p ys, vs = [.ref p] ∧ SqL K H p ys ∧ ∀ l od, H l = none → od.dict = none → Q (.ref l) (upd H l (.frz od (.tup ys)))
theorem call_tupleN : CallR X (.type "tuple") (rTupN X.K) := by
  intro pins s σ H xs us Q I rx h
  obtain ⟨p, ys, rfl, hl, q⟩ := h
  obtain ⟨u, rfl, ru⟩ := vals1 rx
  obtain rfl : u = Value.ref p := ru
  obtain ⟨its, rv, h1, hz⟩ := I.list hl
  have e1 : ys.length = its.length := Paired.length rv
  obtain ⟨o, n, g1, g2, g3, g4⟩ := h1
  refine call_tuple_list (items := its.toArray) ⟨o, g1, g2, n, g4⟩ (fun h' kk => ?_) (by rw [List.size_toArray, ← e1]; exact hz)
  have I2 : Inv X pins σ H { s with heap := h' } := I.kept (t' := s.toks) kk
  have ok : ∀ {H' : Hp}, ObjOk X.prog X.w H' (h'.push { cls := .type "tuple", data := .seq its.toArray }) h'.objs.size (.tup ys) := ⟨hz, _, rv, _, Heap.get?_push_size _ rfl, rfl, _, rfl⟩
  exact ⟨.ref h'.objs.size, _, I2.laid (a := h'.objs.size) (t' := s.toks) (fun _ _ q => Heap.get?_push_of_some _ q) (Nat.le_refl _) (frz_ok (Heap.get?_push_size _ rfl) ok), rfl, q _ _ (I2.hok.fresh (Nat.le_refl _)) rfl⟩
end
end PR
set_option Elab.async false
set_option linter.all false
set_option maxRecDepth 100000
set_option maxHeartbeats 2000000
/-! # An own exception class over Exception, whose __init__ calls Exception.__init__ by name and sets fields -/
namespace PR
open PySem PySem.Spec PyProof.Rows L2
open PySem.ESX (exTail osa_new osa_old)
/-- what the written part says of the class -/
structure OexE (K : PySem.W.Frag) (C : Addr) : Prop where
  cls : ∃ nm q N bs sn sub ab col dd k0 k1 k2 k3 k5, K.lookup C = some (excClassObj nm q C N bs exTail true sn sub ab col dd k0 k1 k2 k3 k5 "Exception.__new__")
  sa : PySem.W.findIn K (.ref C) "__setattr__" = some (some (.builtin "object.__setattr__"))
  exC : PySem.W.subIn K (.ref C) (.type "BaseException") = some true
  tyC : PySem.W.typeIn K (.ref C) = some (.type "type")
  kC : PySem.W.keepIn K (.ref C) = true
theorem OexE.data {K : PySem.W.Frag} {C : Addr} (T : OexE K C) : ∃ cd, PySem.W.clsIn K C = some cd ∧ cd.mro = .ref C :: exTail ∧ cd.hasDict = true := by
  obtain ⟨nm, q, N, bs, sn, sub, ab, col, dd, k0, k1, k2, k3, k5, hC⟩ := T.cls
  exact ⟨{ name := nm, bases := bs, mro := .ref C :: exTail, ns := N, qualname := q, hasDict := true, slotNames := sn, subclasses := sub, abstract := ab, collection := col, hasDel := false }, by unfold PySem.W.clsIn; rw [hC] <;> rfl, rfl, rfl⟩
theorem typ_E : typeOf (.type "Exception") = pure (.type "type") := by kernel_rfl
section
variable {X : Cx} {pins : List (Addr × Obj)} {σ : L2.St} {H : Hp} {s : Shared} {a C dx : Addr} {f : Str} {y : V} {u : Value} {fs : List (Str × V)} {Q : Unit → Shared → Prop} {E : Value → Shared → Prop} {A : Around}
/-- the first field: the exception gets its dict -/
theorem set1 (T : OexE X.K C) (I : Inv X pins σ H s) (e : H a = some (exo a C none)) (hno : PySem.W.findIn X.K (.ref C) f = some none) (ry : RelV y u)
    (h : ∀ dx s', H dx = none → dx ≠ a → Inv X pins σ (upd (upd H dx (exd dx [(f, y)])) a (exo a C (some dx))) s' → Q () s') : wpAny (model X.prog X.w) A (setAttr (.ref a) f u) Q E s := by
  obtain ⟨cd, hcl, hm, hh⟩ := T.data
  obtain ⟨t1, ho⟩ := exo_at I.hok e
  obtain ⟨hp, g, d, t, os⟩ := s
  refine PySem.W.set_plain I.kIn (ox := { cls := .ref C, dict := none, data := .fields #[.ref t1, .none, .none, .none, .bool false, .none] }) (od := none) ⟨ho, rfl, rfl, trivial⟩ T.sa (osa_new I.kIn ho hcl hm hh hno fun h' tk' dx k dn dne hx hn => ?_)
  have hnd : H dx = none := I.hok.fresh dn
  have new_ne : ∀ {b : Addr} {o : Obj}, hp.get? b = some o → b ≠ dx := fun q => Nat.ne_of_lt (Nat.lt_of_lt_of_le (Heap.lt_size q) dn)
  have free_ne : ∀ {b : Addr}, H b = none → b ≠ a := fun n z => by rw [z, e] at n; cases n
  have dx_ne : ∀ {b : Addr} {o : HO}, H b = some o → b ≠ dx := fun q => ne_of_none q hnd
  refine h dx _ hnd dne (I.un (t' := tk') ⟨fun b o q n _ _ => k b o (free_ne n) q, fun b o q n _ _ => ⟨o.slots, k b o (free_ne n) q⟩, fun b o q n _ => ?_, fun b o q _ => ?_, fun b xs q => ?_, fun b o v q => ?_, fun b ps q => ⟨#[], ?_⟩⟩ fun b o q => ?_)
  · rw [upd_ne (free_ne n), upd_ne (new_ne q)]
    exact n
  · by_cases hb : b = a
    · exact ⟨_, by rw [hb]; exact hx⟩
    · exact ⟨o, k b o hb q⟩
  · rw [upd_ne (at_ne e q exo_tup), upd_ne (dx_ne q)]
    exact q
  · rw [upd_ne (at_ne e q exo_frz), upd_ne (dx_ne q)]
    exact q
  · rw [upd_ne (at_ne e q exo_tbl), upd_ne (dx_ne q), q, Array.append_empty]
  · by_cases hb : b = a
    · subst hb
      rw [upd_same] at q
      cases q
      exact exo_ok hx
    · rw [upd_ne hb] at q
      by_cases hd : b = dx
      · subst hd
        rw [upd_same] at q
        cases q
        exact exd_ok hn (relO_put (fs := []) ry fun g => True.intro)
      · rw [upd_ne hd] at q
        refine (I.hok b o q).stay (fun c v hc z => k c v ?_ z) (fun c hc => ?_) fun c xs hc => ?_
        · rcases hc with hc | hc
          · rw [hc]; exact hb
          · exact at_ne e hc exo_own
        · rw [upd_ne (at_ne e hc exo_own), upd_ne (dx_ne hc)]
          exact hc
        · rw [upd_ne (at_ne e hc exo_tup), upd_ne (dx_ne hc)]
          exact hc
/-- a further field -/
theorem set2 (T : OexE X.K C) (I : Inv X pins σ H s) (e : H a = some (exo a C (some dx))) (ed : H dx = some (exd dx fs)) (hl : fs.length ≤ 900) (hno : PySem.W.findIn X.K (.ref C) f = some none) (ry : RelV y u)
    (h : ∀ s', Inv X pins σ (upd H dx (exd dx ((f, y) :: fs))) s' → Q () s') : wpAny (model X.prog X.w) A (setAttr (.ref a) f u) Q E s := by
  obtain ⟨cd, hcl, hm, hh⟩ := T.data
  obtain ⟨t1, ho⟩ := exo_at I.hok e
  obtain ⟨mA, hns, rel⟩ := exd_at I.hok ed
  obtain ⟨hp, g, d, t, os⟩ := s
  have hw := within_of rel
  obtain ⟨oD, _, _, hoD, _, _⟩ := hns.count hw
  refine PySem.W.set_plain I.kIn (ox := { cls := .ref C, dict := some dx, data := .fields #[.ref t1, .none, .none, .none, .bool false, .none] }) (od := some oD) ⟨ho, rfl, rfl, hoD⟩ T.sa (osa_old I.kIn ho hns hw (by rw [List.length_map]; omega) hcl hm hh hno fun h' tk' k hn => h _ ?_)
  obtain ⟨o, _, _, e', _⟩ := id hn
  exact I.write (t' := tk') (x := dx) (e := dx) (o := exd dx ((f, y) :: fs)) (by rw [ed]; exact True.intro) (.inl rfl) k ⟨o, e'⟩ (exd_ok hn (relO_put ry rel))
/-- Exception.__init__(self, ..) -/
theorem init_ok {us : List Value} {Q : Value → Shared → Prop} (T : OexE X.K C) (I : Inv X pins σ H s) (e : H a = some (exo a C none)) (hl : us.length ≤ sizeLine) (h : ∀ s', Inv X pins σ H s' → Q .none s') :
    wpAny (model X.prog X.w) A (call (.builtin "Exception.__init__") (.ref a :: us)) Q E s := by
  obtain ⟨nm, q, N, bs, sn, sub, ab, col, dd, k0, k1, k2, k3, k5, hC⟩ := T.cls
  obtain ⟨t1, ho⟩ := exo_at I.hok e
  obtain ⟨hp, g, d, t, os⟩ := s
  refine wpAny_call (PySem.HandSPX.init_base F.excBase_Exception (fun Y => rfl) (I.kIn _ _ hC) ho hl fun h' t2 k hx => h _ ?_)
  have J := I.write (t' := t) (x := a) (e := a) (o := exo a C none) (by rw [e]; exact True.intro) (.inl rfl) k ⟨_, hx⟩ (exo_ok hx)
  have eu : upd H a (exo a C none) = H := by
    funext b
    by_cases hb : b = a
    · rw [hb, upd_same, e]
    · rw [upd_ne hb]
  rw [eu] at J
  exact J
end
def tExI (K : PySem.W.Frag) (ta : TA) : TE := fun σ H Q => ta σ H fun vs H1 => ∃ (a C : Addr) (ws : List V), vs = .ref a :: ws ∧ ws.length ≤ 1000 ∧ OexE K C ∧ H1 a = some (exo a C none) ∧ Q .non H1
def tSetE (K : PySem.W.Frag) (f : Str) (to te : TE) : TS := fun D σ H => te σ H fun y H1 => to σ H1 fun x H2 => ∃ a C : Addr, x = .ref a ∧ OexE K C ∧ PySem.W.findIn K (.ref C) f = some none ∧
  ((H2 a = some (exo a C none) ∧ ∀ dx, H2 dx = none → dx ≠ a → D.nx σ (upd (upd H2 dx (exd dx [(f, y)])) a (exo a C (some dx)))) ∨
    ∃ (dx : Addr) (fs : List (Str × V)), H2 a = some (exo a C (some dx)) ∧ H2 dx = some (exd dx fs) ∧ fs.length ≤ 900 ∧ D.nx σ (upd H2 dx (exd dx ((f, y) :: fs))))
section
variable {X : Cx} {o e : Expr} {es : List Expr} {to te : TE} {ta : TA} {f : Str} {p p' p1 p2 pos : Pos}
theorem pe_exinit {pl : Sem Bool} (hg : Gl X "Exception") (hm : X.mg "Exception" = none) (vV : PySem.W.findCls X.K (.type "Exception") (.type "type") "__init__" = some (.val (.builtin "Exception.__init__"))) (ha : PA X (e :: es) ta)
    (hc : eval (.Call (.Attribute (.Name "Exception" p1) "__init__" p2) (e :: es) [] pos) X.env = (do
      let ov ← eval (.Name "Exception" p1) X.env
      standAt p2.atName
      let (f, first) ← holding [ov] (getMethod ov "__init__" pl)
      callWith pos f first (backTo pos (starEach (e :: es) X.env)) (backToKw pos (keywordEach [] X.env))) := by rfl)
    (he : starEach (e :: es) X.env = (false, eval e X.env) :: starEach es X.env := by rfl) (hpl : (backTo pos (starEach es X.env)).any (·.1) = false := by rfl) :
    PE X (.Call (.Attribute (.Name "Exception" p1) "__init__" p2) (e :: es) [] pos) (tExI X.K ta) := by
  refine ⟨fun pins s σ H Q I h => PySem.W.methodCall_KW (ld_blt I hg hm PyProof.Rows.Boot.«Exception» ?_ (by decide) (by decide)) hc⟩
  obtain ⟨m, fr⟩ := I.fr
  refine PySem.W.method_type fr I.ok.mod.kin typ_E (by decide +kernel) vV (by decide +kernel) ?_
  show wpAny _ _ (callWith pos (Value.builtin "Exception.__init__") [] (backTo pos (starEach (e :: es) X.env)) []) _ _ _
  refine PyProof.Rows.callWith_method1 (thn (ha.run pos pins _ σ H _ (I.tok _) h) fun us s1 hh => ?_) he hpl
  obtain ⟨vs, H1, I1, r1, a, C, ws, ev, hl, T, ea, q⟩ := hh
  subst ev
  cases r1 with
  | @cons _ u0 _ ur ra rw' =>
    obtain rfl : u0 = Value.ref a := ra
    exact init_ok T I1 ea (by rw [← Paired.length rw', sizeLine_eq]; omega) fun s' J => ⟨.non, H1, J, rfl, q⟩
theorem ps_setE (ho : PE X o to) (he : PE X e te) (hs : swapsWith e (some (.Attribute o f p')) pos.line X.env = pure false := by rfl) : PS X (.Assign [.Attribute o f p'] e pos) (tSetE X.K f to te) := by
  refine ⟨fun pins s σ H D I h => plainObj_wpAny_Assign_Attribute (thn (he.run pins s σ H _ I h) fun v s1 hh => ?_) hs⟩
  obtain ⟨y, H1, I1, r1, q1⟩ := hh
  refine thn (ho.run pins s1 σ H1 _ I1 q1) fun u s2 hh => ?_
  obtain ⟨x, H2, I2, r2, a, C, ex, T, hno, q⟩ := hh
  subst ex
  obtain rfl : u = Value.ref a := r2
  rcases q with ⟨ea, q⟩ | ⟨dx, fs, ea, ed, hl, q⟩
  · exact set1 T I2 ea hno r1 fun dx s' n ne J => ⟨σ, _, J, q dx n ne⟩
  · exact set2 T I2 ea ed hl hno r1 fun s' J => ⟨σ, _, J, q⟩
/-- C(e, ..), C's own __init__ keeping sp -/
theorem pmk_oexE {CX : CXT} {x : Str} {C fI : Addr} {k : Nat} {fd : FuncData} {ps : List Str} {sp : Sp} (T : OexE X.K C) (iC : PySem.W.findIn X.K (.ref C) "__init__" = some (some (.ref fI))) (tI : PySem.W.typeIn X.K (.ref fI) = some (.type "function"))
    (F1 : FnOk X.prog X.w X.K X.mg X.base CX k fI fd ps sp) (hr : Room (k + 1) X.A) (hb : Binds X.K fd ps []) (hx : Passes CX X (fun _ _ _ => False)) (hg : Gl X x) (hm : X.mg x = some (.ref C)) (ha : PA X (e :: es) ta)
    (hdb : (x == ("__debug__" : Str)) = false := by decide) (he : starEach (e :: es) X.env = (false, eval e X.env) :: starEach es X.env := by rfl) (hpl : (backTo pos (starEach es X.env)).any (·.1) = false := by rfl) :
    PMk X (.Call (.Name x p) (e :: es) [] pos) (tMkO C sp [] ta) := by
  intro pins s σ H Q I h
  obtain ⟨nm, q, N, bs, sn, sub, ab, col, dd, k0, k1, k2, k3, k5, hC⟩ := T.cls
  refine wpAny_Call_Name_kw (ld_glob I hg hm (PySem.W.callWith_K (h₀ := X.base) I.ok.mod.kin T.kC (thn (ha.run pos pins s σ H _ I h) fun us s1 hh => ?_) he hpl) hdb)
  obtain ⟨vs, H1, I1, r1, hz, q1⟩ := hh
  refine ⟨I1.kIn, ?_⟩
  show wpAny _ _ (call (.ref C) us) _ _ _
  obtain ⟨hp, g, dr, tk, os⟩ := s1
  have hsz : hp.objs.size ≤ hp.objs.size + 1 := Nat.le_succ _
  have hq := q1 (hp.objs.size + 1) (I1.hok.fresh hsz)
  have kk : ∀ b o, hp.get? b = some o → ((hp.push (PySem.W.kdv_tup us)).push (PySem.HandSPX.excO C hp.objs.size)).get? b = some o := fun b o e => Heap.get?_push_of_some _ (Heap.get?_push_of_some _ e)
  have hget : ((hp.push (PySem.W.kdv_tup us)).push (PySem.HandSPX.excO C hp.objs.size)).get? (hp.objs.size + 1) = some (PySem.HandSPX.excO C hp.objs.size) := by heap_get
  have I2 := I1.laid (t' := tk) (a := hp.objs.size + 1) (o := exo (hp.objs.size + 1) C none) (h' := (hp.push (PySem.W.kdv_tup us)).push (PySem.HandSPX.excO C hp.objs.size)) kk hsz (exo_ok hget)
  have r2 : Vals (V.ref (hp.objs.size + 1) :: (vs ++ [])) (Value.ref (hp.objs.size + 1) :: us) := by
    rw [List.append_nil]
    exact .cons rfl r1
  have hl : (Value.ref (hp.objs.size + 1) :: us).length = ps.length := r2.length.symm.trans (F1.len _ _ _ _ hq)
  have hus : us.length ≤ sizeLine := by rw [← Paired.length r1, sizeLine_eq]; omega
  have hb2 := hb ⟨(hp.push (PySem.W.kdv_tup us)).push (PySem.HandSPX.excO C hp.objs.size), g, dr, tk, os⟩ (Value.ref (hp.objs.size + 1) :: us) I2.kIn (by rw [List.append_nil]; exact hl)
  rw [List.append_nil] at hb2
  refine wpAny_call (PySem.HandSPX.call_own F.excBase_Exception (fun Y => rfl) (I1.kIn _ _ hC) (PySem.W.looks_findIn I1.kIn iC) (fun self => PySem.W.bind_fn I1.kIn self tI) hus
    (codeAny_mono (F1.run _ X.stack _ _ ⟨Value.ref (hp.objs.size + 1) :: us, []⟩ (Value.ref (hp.objs.size + 1) :: us) _ _ (fun _ _ _ => False) (hr.make C us []) (I2.env0.make C us []) hb2 r2 hq) fun r s' hq' => ?_))
  cases r with
  | error er => exact hx pins σ _ _ er s' I2 hq'
  | ok fl =>
    cases fl with
    | ret u =>
      obtain ⟨v, H2, os2, bare2, un2, hok2, rv, ev, d, fs, ea, ed, hd1, q2⟩ := hq'
      subst ev
      obtain ⟨h2, g2, d2, t2, os'⟩ := s'
      exact ⟨rv, mk_end (raises_own T.exC T.tyC) I1 hsz kk un2 hok2 os2 bare2 ea ed hd1 q2⟩
    | next => exact False.elim hq'
    | brk => exact False.elim hq'
    | cont => exact False.elim hq'
end
end PR
set_option Elab.async false
set_option linter.all false
set_option maxRecDepth 100000
set_option maxHeartbeats 2000000
/-! # The program's text, and words of our own -/
namespace PR
open PySem PySem.Spec PyProof.Rows L2
open PySem.W (Datum HoldAll Holds holds_int holds_tup in_tuple_datum eq_datum)
def topS (i : Nat) : Stmt := PySem.Challenge.pw_partrounds_s01_answers.main.body.getD i (.Pass ⟨0, 0, 0, 0⟩)
/-- what a name of the top stands for -/
def Kst (mg : Str → Option Value) (x : Str) (v : V) : Prop := ∃ u, mg x = some u ∧ RelV v u
theorem pe_k {X : Cx} {x : Str} {pos : Pos} {v : V} (h : Kst X.mg x v) (hg : Gl X x := by rfl) (hd : (x == ("__debug__" : Str)) = false := by decide) : PE X (.Name x pos) (tC v) := by
  obtain ⟨u, hm, r⟩ := h
  exact pe_glob hg hm r hd
/-- a def of the top: its text, its place, how it is called -/
structure Dfn (K : PySem.W.Frag) (mg : Str → Option Value) (x : Str) (st : Stmt) (ps : List Str) (f : Addr) (fd : FuncData) : Prop where
  F : Fun K x x st f fd
  g : mg x = some (.ref f)
  b : Binds K fd ps []
/-- a method -/
structure Mth (K : PySem.W.Frag) (C : Addr) (m qual : Str) (st : Stmt) (ps : List Str) (f : Addr) (fd : FuncData) : Prop where
  F : Fun K m qual st f fd
  m : Meth K C m f
  b : Binds K fd ps []
/-- the built-in names that are used -/
structure Blt (mg : Str → Option Value) : Prop where
  len : mg "len" = none
  max : mg "max" = none
  min : mg "min" = none
  sum : mg "sum" = none
  all : mg "all" = none
  ord : mg "ord" = none
  tuple : mg "tuple" = none
  list : mg "list" = none
  range : mg "range" = none
  enumerate : mg "enumerate" = none
  zip : mg "zip" = none
  exc : mg "Exception" = none
/-! ### heaps -/
theorem same_upd {H : Hp} {p : Addr} {o : HO} (h : H p = none) : Same H (upd H p o) := fun b x e => by
  rw [upd_ne (ne_of_none e h)]
  exact e
theorem _root_.L2.Same.new {H H' : Hp} {p : Addr} {o : HO} (s : Same H H') (h : H' p = none) : Same H (upd H' p o) := s.trans (same_upd h)
theorem _root_.L2.Same.tup {H H' : Hp} {K : PySem.W.Frag} {a : Addr} {xs : List V} (e : Same H H') (h : SqT K H a xs) : SqT K H' a xs := by
  rcases h with (h | ⟨o, h⟩) | h
  · exact .inl (.inl (e _ _ h))
  · exact .inl (.inr ⟨o, e _ _ h⟩)
  · exact .inr h
theorem seqT {K : PySem.W.Frag} {H : Hp} {a : Addr} {xs : List V} (h : H a = some (.tup xs)) : SqT K H a xs := .inl (.inl h)
theorem seqL {K : PySem.W.Frag} {H : Hp} {a : Addr} {xs : List V} (h : H a = some (.lst xs)) : SqL K H a xs := .inl (.inl h)
/-- a change of one object, where all else stands -/
def But (a : Addr) (H H' : Hp) : Prop := ∀ b o, b ≠ a → H b = some o → H' b = some o
abbrev iv (ns : List Int) : List V := ns.map V.int
theorem iv_app (a b : List Int) : iv (a ++ b) = iv a ++ iv b := List.map_append
theorem iv_len (a : List Int) : (iv a).length = a.length := List.length_map ..
theorem iv_snoc (a : List Int) (n : Int) : iv a ++ [V.int n] = iv (a ++ [n]) := (iv_app a [n]).symm
theorem iv_get {ns : List Int} {i : Nat} {v : V} (h : (iv ns)[i]? = some v) : ∃ n, ns[i]? = some n ∧ v = .int n := by
  rw [List.getElem?_map] at h
  cases e : ns[i]? with
  | none => rw [e] at h; cases h
  | some z => rw [e] at h; exact ⟨z, rfl, (Option.some.inj h).symm⟩
theorem drop_at {α : Type} {l : List α} {i : Nat} {x : α} (h : l[i]? = some x) : l.drop i = x :: l.drop (i + 1) := by
  obtain ⟨hi, e⟩ := List.getElem?_eq_some_iff.mp h
  rw [← e]
  exact List.drop_eq_getElem_cons hi
theorem take_snoc {α : Type} {l : List α} {i : Nat} {x : α} (h : l[i]? = some x) : l.take (i + 1) = l.take i ++ [x] := by
  rw [List.take_add_one, h]
  rfl
theorem small {n m : Nat} (h : n ≤ m) (hm : m ≤ 1000000 := by omega) : n ≤ sizeLine := by
  rw [sizeLine_eq]
  omega
theorem if_t {c : Bool} {A B : Prop} (hc : c = true) (h : A) : if c = true then A else B := by
  rw [if_pos hc]
  exact h
theorem if_f {c : Bool} {A B : Prop} (hc : c = false) (h : B) : if c = true then A else B := by
  rw [hc, if_neg Bool.false_ne_true]
  exact h
/-- a test with its two ways -/
theorem if_b {c : Bool} {A B : Prop} (h1 : c = true → A) (h2 : c = false → B) : if c = true then A else B := by
  cases c with
  | true => exact if_t rfl (h1 rfl)
  | false => exact if_f rfl (h2 rfl)
/-! ### tuples compared -/
section
variable {X : Cx}
theorem tups_hold {H : Hp} {s : Shared} {pins : List (Addr × Obj)} {σ : L2.St} (I : Inv X pins σ H s) {a : Addr} {ns : List Int} (h : SqT X.K H a (iv ns)) : Holds s.heap (.ref a) (PySem.W.Tup.mk ns) := by
  obtain ⟨its, rv, hl, _⟩ := I.tuple h
  exact holds_tup (show s.heap.IsTuple a its.toArray from hl) (HoldAll.of_ints rv.ints)
/-- t == u -/
def rEqT (K : PySem.W.Frag) : R2 := fun x y H Q => ∃ (a b : Addr) (ns ms : List Int), x = .ref a ∧ y = .ref b ∧ SqT K H a (iv ns) ∧ SqT K H b (iv ms) ∧ Q (.bl (decide (ns = ms))) H
theorem op_eqT (hu : X.A.units + 64 < cLine) : OpR X (compareOp .Eq) (rEqT X.K) := by
  intro pins s σ H x y v u Q I rx ry h
  obtain ⟨a, b, ns, ms, rfl, rfl, h1, h2, q⟩ := h
  cases rx; cases ry
  refine eq_datum (tups_hold I h1) (tups_hold I h2) (by show X.A.units + 1 < cLine; omega) ⟨.bl (decide (ns = ms)), H, I, ?_, q⟩
  show Value.bool _ = Value.bool _
  congr 1
  exact decide_eq_decide.mpr ⟨fun e => by injection e, fun e => by rw [e]⟩
/-- t in (u, w), tuples all -/
def rInTT (K : PySem.W.Frag) : R2 := fun x y H Q => ∃ (a p b c : Addr) (ns ms ks : List Int), x = .ref a ∧ y = .ref p ∧ SqT K H a (iv ns) ∧ SqT K H p [.ref b, .ref c] ∧ SqT K H b (iv ms) ∧ SqT K H c (iv ks) ∧ Q (.bl (decide (ns = ms) || decide (ns = ks))) H
theorem op_inTT (hu : X.A.units + 64 < cLine) : OpR X (compareOp .In) (rInTT X.K) := by
  intro pins s σ H x y v u Q I rx ry h
  obtain ⟨a, p, b, c, ns, ms, ks, rfl, rfl, h1, hp, h2, h3, q⟩ := h
  cases rx; cases ry
  obtain ⟨its, rv, hl, _⟩ := I.tuple hp
  have hh : HoldAll s.heap its.toArray.toList [PySem.W.Tup.mk ms, PySem.W.Tup.mk ks] := by
    cases rv with
    | cons r1 rr =>
      cases rr with
      | cons r2 rr =>
        cases rr; cases r1; cases r2
        exact HoldAll.cons (tups_hold I h2) (HoldAll.cons (tups_hold I h3) HoldAll.nil)
  refine in_tuple_datum (show s.heap.IsTuple p its.toArray from hl) hh (tups_hold I h1) (by show X.A.units + 1 + 1 < cLine; omega) ⟨.bl (decide (ns = ms) || decide (ns = ks)), H, I, ?_, q⟩
  show Value.bool _ = Value.bool _
  congr 1
  rw [← Bool.decide_or]
  refine decide_eq_decide.mpr ⟨fun e => ?_, fun e => ?_⟩
  · rcases List.mem_cons.mp e with e | e
    · injection e with e; exact .inl e
    · have e := List.mem_singleton.mp e
      injection e with e; exact .inr e
  · rcases e with e | e
    · rw [e]; exact List.mem_cons_self
    · rw [e]; exact List.mem_cons_of_mem _ List.mem_cons_self
end
end PR
set_option Elab.async false
set_option linter.all false
set_option maxRecDepth 100000
set_option maxHeartbeats 2000000
/-! # signs -/
namespace PR
open PySem PySem.Spec PyProof.Rows L2
abbrev sLetter : Stmt := topS 9
abbrev sDigit : Stmt := topS 10
abbrev sSpelled : Stmt := topS 11
theorem scLetter : FnScope ["byte"] ["byte"] (defScope sLetter) := ⟨rfl, rfl, rfl, by decide +kernel, rfl, by decide +kernel, by decide +kernel⟩
theorem scDigit : FnScope ["byte"] ["byte"] (defScope sDigit) := ⟨rfl, rfl, rfl, by decide +kernel, rfl, by decide +kernel, by decide +kernel⟩
theorem scSpelled : FnScope ["word", "sign"] ["word"] (defScope sSpelled) := ⟨rfl, rfl, rfl, by decide +kernel, rfl, by decide +kernel, by decide +kernel⟩
section
variable {P : Program} {w : World} {K : PySem.W.Frag} {mg : Str → Option Value} {base : Heap} {k : Nat} {f : Addr} {fd : FuncData}
def spTest (p : Int → Bool) : Sp := fun vs H Q _ => ∃ b : Int, vs = [.int b] ∧ Q (.bl (p b)) H
theorem ok_letter (D : Dfn K mg "is_letter" sLetter ["byte"] f fd) : FnOk P w K mg base CX0 (k + 1) f fd ["byte"] (spTest PM.isLetter) := by
  refine D.F.ok scLetter (fun vs H Q E h => ?_) (fun cdv A outer s H vs Q E hr h => ?_)
  · obtain ⟨b, rfl, _⟩ := h; rfl
  · obtain ⟨b, rfl, q⟩ := h
    refine ⟨_, pss_one (ps_ret (pe_chain op_le op_le pe_int (pv 0) pe_int)), ?_⟩
    refine ⟨.int b, rfl, _, _, rfl, rfl, _, rfl, if_b (fun e => ?_) (fun e => ?_)⟩
    · refine ⟨_, _, rfl, rfl, ?_⟩
      have e2 : PM.isLetter b = decide (b ≤ 122) := by unfold PM.isLetter; rw [e, Bool.true_and]
      rw [e2] at q; exact q
    · have e2 : PM.isLetter b = false := by unfold PM.isLetter; rw [e, Bool.false_and]
      rw [e2] at q; exact q
theorem ok_digit (D : Dfn K mg "is_digit" sDigit ["byte"] f fd) (kZ : Kst mg "ZERO" (.int 48)) : FnOk P w K mg base CX0 (k + 1) f fd ["byte"] (spTest PM.isDigit) := by
  refine D.F.ok scDigit (fun vs H Q E h => ?_) (fun cdv A outer s H vs Q E hr h => ?_)
  · obtain ⟨b, rfl, _⟩ := h; rfl
  · obtain ⟨b, rfl, q⟩ := h
    refine ⟨_, pss_one (ps_ret (pe_chain op_le op_le (pe_k kZ) (pv 0) (pe_op op_add (pe_k kZ) pe_int))), ?_⟩
    refine ⟨.int b, rfl, _, _, rfl, rfl, _, rfl, if_b (fun e => ?_) (fun e => ?_)⟩
    · refine ⟨_, _, rfl, rfl, _, _, rfl, rfl, ?_⟩
      have e2 : PM.isDigit b = decide (b ≤ 48 + 9) := by unfold PM.isDigit; rw [e, Bool.true_and]; rfl
      rw [e2] at q; exact q
    · have e2 : PM.isDigit b = false := by unfold PM.isDigit; rw [e, Bool.false_and]
      rw [e2] at q; exact q
/-- the signs of a written word -/
def codes (z : Str) : List Int := z.cps.toList.map fun c => ((c : Nat) : Int)
def spSpelled : Sp := fun vs H Q _ => ∃ z : Str, vs = [.str z] ∧ z.cps.size ≤ 100 ∧ ∀ H' p, Same H H' → H p = none → H' p = some (.tup (iv (codes z))) → Q (.ref p) H'
theorem ok_spelled (D : Dfn K mg "spelled" sSpelled ["word"] f fd) (B : Blt mg) : FnOk P w K mg base CX0 (k + 1) f fd ["word"] spSpelled := by
  refine D.F.ok scSpelled (fun vs H Q E h => ?_) (fun cdv A outer s H vs Q E hr h => ?_)
  · obtain ⟨z, rfl, _⟩ := h; rfl
  · obtain ⟨z, rfl, hz, q⟩ := h
    refine ⟨_, pss_one (ps_ret (pe_callTy call_tuple_of (by rfl) B.tuple (by decide +kernel) (pa_cons (pe_lc (own := [("sign", 1)]) (g := gName 1) (tt := tYes) rfl scSpelled.nd (pi_str (pv 0))
      (blkOk_by (own := [("sign", 1)]) (N := ["word", "sign"]) (sc := defScope sSpelled) (by decide +kernel)) (fun _ _ _ _ _ => pg_name (i := 1) scSpelled.nd rfl (Or.inl rfl)) (fun _ _ _ _ _ => pts_nil)
      (fun _ _ _ _ _ => pe_callB call_ord (by rfl) B.ord (by decide +kernel) (pa_cons (pv 1) pa_nil))) pa_nil))), ?_⟩
    refine ⟨.str z, rfl, z, rfl, fun D hD => lc_it walk_str (fun i H' => Same H H' ∧ H' D = some (.lst (iv ((codes z).take i)))) ⟨same_upd hD, upd_same⟩ (fun _ _ _ _ => True.intro) ?_ ?_⟩
    · rintro i x H1 H2 hi ⟨s1, e1⟩ ⟨rfl, c, hc, rfl⟩
      refine ⟨rfl, _, rfl, _, rfl, rfl, _, e1, ?_, fun b o q => ?_, ?_⟩
      · rw [List.length_map, List.length_take]
        exact Nat.lt_of_le_of_lt (Nat.min_le_left _ _) (small1000 (by omega))
      · rw [upd_ne (ne_of_none q hD)]
        exact s1 b o q
      · rw [upd_same]
        have hc2 : (codes z)[i]? = some (c : Int) := by
          unfold codes
          rw [List.getElem?_map, Array.getElem?_toList, hc]
          rfl
        rw [take_snoc hc2, iv_app]
        rfl
    · rintro H1 ⟨s1, e1⟩
      have el : (codes z).take z.cps.size = codes z := List.take_of_length_le (by unfold codes; simp)
      rw [el] at e1
      exact ⟨D, _, rfl, .inl ⟨seqL e1, fun l hl => q _ l (s1.new hl) (s1.free hl) upd_same⟩⟩
end
end PR
set_option Elab.async false
set_option linter.all false
set_option maxRecDepth 100000
set_option maxHeartbeats 2000000
/-! # chunks, first part: margin_of, row_of, word_of -/
namespace PR
open PySem PySem.Spec PyProof.Rows L2
abbrev sMargin : Stmt := topS 17
abbrev sRow : Stmt := topS 18
abbrev sWord : Stmt := topS 19
theorem scMargin : FnScope ["chunk"] ["chunk"] (defScope sMargin) := ⟨rfl, rfl, rfl, by decide +kernel, rfl, by decide +kernel, by decide +kernel⟩
theorem scRow : FnScope ["letters", "byte"] ["letters"] (defScope sRow) := ⟨rfl, rfl, rfl, by decide +kernel, rfl, by decide +kernel, by decide +kernel⟩
theorem scWord : FnScope ["chunk", "letters", "marks", "behind_letter", "byte", "row"] ["chunk"] (defScope sWord) := ⟨rfl, rfl, rfl, by decide +kernel, rfl, by decide +kernel, by decide +kernel⟩
theorem vint_dec (a b : Int) : decide (V.int a = V.int b) = decide (a = b) := decide_eq_decide.mpr ⟨fun e => V.int.inj e, fun e => by rw [e]⟩
theorem vint_ne (a b : Int) : (!decide (V.int a = V.int b)) = decide (a ≠ b) := by rw [vint_dec, decide_not]
def optV : Option Int → V
  | none => .non
  | some m => .int m
theorem Nice.same {H H' : Hp} {a : Addr} {xs : List V} (h : Nice H a xs) (s : Same H H') : Nice H' a xs := by
  obtain ⟨od, h1, h2⟩ := h
  exact ⟨od, h1, s _ _ h2⟩
theorem _root_.L2.Rd.same {H H' : Hp} {a : Addr} {u : HO} (h : Rd H a u) (s : Same H H') : Rd H' a u := by
  rcases h with h | ⟨o, h⟩
  · exact .inl (s _ _ h)
  · exact .inr ⟨o, s _ _ h⟩
/-- the tuple at a: known to have no dict, or not -/
def KO (fz : Bool) (H : Hp) (a : Addr) (ns : PM.Ns) : Prop := match fz with
  | true => Nice H a (iv ns)
  | false => Rd H a (.tup (iv ns))
theorem KO.rd {fz : Bool} {H : Hp} {a : Addr} {ns : PM.Ns} (h : KO fz H a ns) : Rd H a (.tup (iv ns)) := by
  cases fz with
  | true => exact Nice.rd h
  | false => exact h
theorem KO.same {fz : Bool} {H H' : Hp} {a : Addr} {ns : PM.Ns} (h : KO fz H a ns) (s : Same H H') : KO fz H' a ns := by
  cases fz with
  | true => exact Nice.same h s
  | false => exact L2.Rd.same h s
def DO (fz : Bool) (H : Hp) (b : Addr) (ns : PM.Ns) : Prop := match fz with
  | true => H b = some (.tup (iv ns))
  | false => Nice H b (iv ns)
theorem DO.rd {fz : Bool} {H : Hp} {b : Addr} {ns : PM.Ns} (h : DO fz H b ns) : Rd H b (.tup (iv ns)) := by
  cases fz with
  | true => exact .inl h
  | false => exact Nice.rd h
/-- None, or a tuple of whole numbers; all else stands -/
def ansT (H : Hp) (Q : VK) : Option PM.Ns → Prop
  | none => ∀ H', Same H H' → Q .non H'
  | some row => ∀ H' p, Same H H' → Nice H' p (iv row) → Q (.ref p) H'
/-- None, or a pair of such tuples -/
def ansP (fz : Bool) (H : Hp) (Q : VK) : Option (PM.Ns × PM.Ns) → Prop
  | none => ∀ H', Same H H' → Q .non H'
  | some r => ∀ H' t a b, Same H H' → H' t = some (.tup [.ref a, .ref b]) → KO fz H' a r.1 → DO fz H' b r.2 → Q (.ref t) H'
def spMargin : Sp := fun vs H Q _ => ∃ (a : Addr) (c : PM.Ns), vs = [.ref a] ∧ H a = some (.tup (iv c)) ∧ Q (optV (PM.marginOf c)) H
def spRow (K : PySem.W.Frag) : Sp := fun vs H Q _ => ∃ (a : Addr) (l : PM.Ns), vs = [.ref a] ∧ SqL K H a (iv l) ∧ l.length ≤ 100000 ∧ ansT H Q (PM.rowOf l)
def spAs (fz : Bool) (as : PM.Ns → Option (PM.Ns × PM.Ns)) : Sp := fun vs H Q _ => ∃ (a : Addr) (c : PM.Ns), vs = [.ref a] ∧ H a = some (.tup (iv c)) ∧ c.length ≤ 100000 ∧ ansP fz H Q (as c)
section
variable {P : Program} {w : World} {K : PySem.W.Frag} {mg : Str → Option Value} {base : Heap} {k : Nat} {f : Addr} {fd : FuncData}
theorem ok_margin (D : Dfn K mg "margin_of" sMargin ["chunk"] f fd) (B : Blt mg) (kZ : Kst mg "ZERO" (.int 48)) (kG : Kst mg "GREATEST_MARGIN" (.int 5)) : FnOk P w K mg base CX0 (k + 1) f fd ["chunk"] spMargin := by
  refine D.F.ok scMargin (fun vs H Q E h => ?_) (fun cdv A outer s H vs Q E hr h => ?_)
  · obtain ⟨a, c, rfl, _⟩ := h; rfl
  · obtain ⟨a, c, rfl, ha, q⟩ := h
    refine ⟨_, pss_cons (ps_if (PW.pt (pw_or (pt_cmpR op_ne (pe_callB call_len_seq (by rfl) B.len (by decide +kernel) (pa_cons (pv 0) pa_nil)) pe_int (nomark _)) (pw_or1 (pt_not
        (pt_chain op_le op_le (pe_k kZ) (pe_ix ix_tup (pv 0) pe_int (fun _ _ => rfl)) (pe_op op_add (pe_k kZ) (pe_k kG)))))))
      (pss_one (ps_ret pe_non)) pss_nil)
      (pss_one (ps_ret (pe_op op_sub (pe_ix ix_tup (pv 0) pe_int (fun _ _ => rfl)) (pe_k kZ)))), ?_⟩
    refine ⟨.ref a, rfl, a, _, rfl, .inr (seqT ha), rfl, _, rfl, ?_⟩
    rw [iv_len, vint_ne]
    refine if_b (fun e => ?_) (fun e => ?_)
    · refine if_t rfl ?_
      have hn : PM.marginOf c = none := by
        have h1 : (c.length : Int) ≠ 1 := of_decide_eq_true e
        match c, h1 with
        | [], _ => rfl
        | [_], h => exact absurd rfl h
        | _ :: _ :: _, _ => rfl
      rw [hn] at q
      exact q
    · have h1 : (c.length : Int) = 1 := by simpa using e
      obtain ⟨b, rfl⟩ : ∃ b, c = [b] := by
        match c, h1 with
        | [b], _ => exact ⟨b, rfl⟩
        | [], h => simp at h
        | _ :: _ :: _, h => simp at h; omega
      have at0 : atI (iv [b]) 0 = some (.int b) := atI_nat (j := 0) rfl
      refine ⟨.ref a, rfl, a, _, 0, _, rfl, rfl, seqT ha, at0, 48, b, rfl, rfl, _, rfl, if_b (fun e1 => ?_) (fun e1 => ?_)⟩
      · refine ⟨48, 5, rfl, rfl, _, _, rfl, rfl, _, rfl, if_b (fun e2 => ?_) (fun e2 => ?_)⟩
        · have hn : PM.marginOf [b] = none := by
            have h2 : ¬ b ≤ 48 + 5 := by simpa using e2
            exact if_neg (by omega)
          rw [hn] at q
          exact q
        · have hn : PM.marginOf [b] = some (b - 48) := by
            have h2 : b ≤ 48 + 5 := by simpa using e2
            have h3 : 48 ≤ b := by simpa using e1
            exact if_pos (by omega)
          rw [hn] at q
          exact ⟨.ref a, rfl, a, _, 0, _, rfl, rfl, seqT ha, at0, _, _, rfl, rfl, q⟩
      · refine ⟨_, rfl, if_t rfl ?_⟩
        have hn : PM.marginOf [b] = none := by
          have h3 : ¬ 48 ≤ b := by simpa using e1
          exact if_neg (by omega)
        rw [hn] at q
        exact q
theorem ok_row {fL : Addr} {fdL : FuncData} (D : Dfn K mg "row_of" sRow ["letters"] f fd) (B : Blt mg) (DL : Dfn K mg "is_letter" sLetter ["byte"] fL fdL) (GL : FnOk P w K mg base CX0 k fL fdL ["byte"] (spTest PM.isLetter))
    (kF : Kst mg "FEWEST_WORD_LETTERS" (.int 2)) (kM : Kst mg "MOST_WORD_LETTERS" (.int 16)) (kP : Kst mg "POINT" (.int 46)) : FnOk P w K mg base CX0 (k + 1) f fd ["letters"] (spRow K) := by
  refine D.F.ok scRow (fun vs H Q E h => ?_) (fun cdv A outer s H vs Q E hr h => ?_)
  · obtain ⟨a, c, rfl, _⟩ := h; rfl
  · obtain ⟨a, l, rfl, ha, hl, q⟩ := h
    refine ⟨_, pss_cons (ps_if (pt_not (pt_chain op_le op_le (pe_k kF) (pe_callB call_len_seq (by rfl) B.len (by decide +kernel) (pa_cons (pv 0) pa_nil)) (pe_k kM))) (pss_one (ps_ret pe_non)) pss_nil)
      (pss_cons (ps_if (pt_not (pt_val (pe_callB (cr_all rfl) (by rfl) B.all (by decide +kernel) (pa_cons (pe_lc (own := [("byte", 1)]) (g := gName 1) (tt := tYes) rfl scRow.nd (pi_list (pv 0))
        (blkOk_by (own := [("byte", 1)]) (N := ["letters", "byte"]) (sc := defScope sRow) (by decide +kernel)) (fun _ _ _ _ _ => pg_name (i := 1) scRow.nd rfl (Or.inl rfl)) (fun _ _ _ _ _ => pts_nil)
        (fun _ _ _ _ _ => pe_call GL hr (by rfl) DL.g DL.F.kp DL.b .nil pass0 (pa_cons (pv 1) pa_nil))) pa_nil)))) (pss_one (ps_ret pe_non)) pss_nil)
      (pss_one (ps_ret (pe_op op_catN (pe_op op_catA (pe_tup (pa_cons (pe_k kP) pa_nil)) (pe_callTy call_tuple_of (by rfl) B.tuple (by decide +kernel) (pa_cons (pv 0) pa_nil))) (pe_tup (pa_cons (pe_k kP) pa_nil)))))), ?_⟩
    have none_of : ¬ (2 ≤ l.length ∧ l.length ≤ 16 ∧ l.all PM.isLetter = true) → ∀ H', Same H H' → Q .non H' := fun hn H' hs => by
      have e : PM.rowOf l = none := if_neg hn
      rw [e] at q
      exact q H' hs
    refine ⟨.ref a, rfl, a, _, rfl, .inl ha, 2, _, rfl, rfl, _, rfl, ?_⟩
    rw [iv_len]
    refine if_b (fun e1 => ⟨_, _, rfl, rfl, _, rfl, ?_⟩) (fun e1 => ⟨_, rfl, if_t rfl (none_of (by have := of_decide_eq_false e1; omega) H (Same.refl H))⟩)
    have h1 : 2 ≤ l.length := by have := of_decide_eq_true e1; omega
    refine if_b (fun e2 => none_of ?_ H (Same.refl H)) (fun e2 => ?_)
    · have : ¬ ((l.length : Int) ≤ 16) := by simpa using e2
      omega
    · have h2 : l.length ≤ 16 := by
        have : ((l.length : Int) ≤ 16) := by simpa using e2
        omega
      refine ⟨_, rfl, a, rfl, ⟨_, ha⟩, fun D' hD => lc_it walk_list (fun i H' => Same H H' ∧ H' D' = some (.lst (((l.map PM.isLetter).take i).map V.bl))) ⟨same_upd hD, upd_same⟩ (fun i H' _ hp => hp.1.seq ha) ?_ ?_⟩
      · rintro i x H1 H2 hi ⟨s1, e1⟩ ⟨rfl, hx⟩
        obtain ⟨n, hn, rfl⟩ := iv_get hx
        refine ⟨rfl, _, rfl, n, rfl, _, e1, ?_, fun b o q => ?_, ?_⟩
        · rw [List.length_map, List.length_take, List.length_map]
          exact Nat.lt_of_le_of_lt (Nat.min_le_right _ _) (small1000 (by omega))
        · rw [upd_ne (ne_of_none q hD)]
          exact s1 b o q
        · rw [upd_same, take_snoc (x := PM.isLetter n) (by rw [List.getElem?_map, hn]; rfl), List.map_append]
          rfl
      · rintro H1 ⟨s1, e3⟩
        rw [List.take_of_length_le (by rw [List.length_map, iv_len]; exact Nat.le_refl _)] at e3
        refine ⟨D', _, rfl, seqL e3, _, rfl, ?_⟩
        have ea : (l.map PM.isLetter).all id = l.all PM.isLetter := by rw [List.all_map]; rfl
        rw [ea]
        refine if_b (fun e4 => none_of (fun z => by rw [z.2.2] at e4; cases e4) H1 s1) (fun e4 => ?_)
        have h3 : l.all PM.isLetter = true := by simpa using e4
        have e : PM.rowOf l = some (46 :: (l ++ [46])) := if_pos ⟨h1, h2, h3⟩
        rw [e] at q
        have q' : ∀ H' p, Same H H' → Nice H' p (iv (46 :: (l ++ [46]))) → Q (.ref p) H' := q
        refine ⟨by show 1 ≤ sizeLine; decide, fun p1 n1 => ⟨.ref a, rfl, a, _, rfl, .inl ⟨(s1.new n1).seq ha, fun p2 n2 => ?_⟩⟩⟩
        refine ⟨p1, p2, [.int 46], iv l, rfl, rfl, seqT (by rw [upd_ne (ne_of_none upd_same n2)]; exact upd_same), seqT upd_same, ?_, (fun z => nomatch z), (fun _ z => ?_), fun _ _ p3 n3 => ⟨by show 1 ≤ sizeLine; decide, fun p4 n4 => ?_⟩⟩
        · exact small (m := 1000) (by rw [iv_len]; show 1 + _ ≤ _; omega)
        · have : l = [] := List.map_eq_nil_iff.mp z
          rw [this] at h1; simp at h1
        · refine ⟨p3, p4, [.int 46] ++ iv l, [.int 46], rfl, rfl, seqT (by rw [upd_ne (ne_of_none upd_same n4)]; exact upd_same), seqT upd_same, (fun z => nomatch z), (fun z => nomatch z), ?_, fun p5 od n5 hod => q' _ p5 (((((s1.new n1).new n2).new n3).new n4).new n5) ⟨od, hod, ?_⟩⟩
          · refine small (m := 1000) ?_
            show (_ :: iv l).length + 1 ≤ _
            rw [List.length_cons, iv_len]
            omega
          · rw [upd_same, List.singleton_append, List.cons_append]
            show some (HO.frz od (.tup (_ :: (iv l ++ iv [46])))) = _
            rw [← iv_app]
            rfl
end
end PR
set_option Elab.async false
set_option linter.all false
set_option maxRecDepth 100000
set_option maxHeartbeats 2000000
/-! # chunks: word_of -/
namespace PR
open PySem PySem.Spec PyProof.Rows L2
section
variable {P : Program} {w : World} {K : PySem.W.Frag} {mg : Str → Option Value} {base : Heap} {k : Nat} {f : Addr} {fd : FuncData}
theorem ok_word {fR : Addr} {fdR : FuncData} (D : Dfn K mg "word_of" sWord ["chunk"] f fd) (B : Blt mg) (DR : Dfn K mg "row_of" sRow ["letters"] fR fdR) (GR : FnOk P w K mg base CX0 k fR fdR ["letters"] (spRow K))
    (kH : Kst mg "HYPHEN" (.int 45)) : FnOk P w K mg base CX0 (k + 1) f fd ["chunk"] (spAs true PM.wordOf) := by
  refine D.F.ok scWord (fun vs H Q E h => ?_) (fun cdv A outer s H vs Q E hr h => ?_)
  · obtain ⟨a, c, rfl, _⟩ := h; rfl
  · obtain ⟨a, c, rfl, ha, hc, q⟩ := h
    refine ⟨_, pss_cons (ps_set (i := 1) scWord.nd rfl (.inl rfl) (pe_lst pa_nil))
      (pss_cons (ps_set (i := 2) scWord.nd rfl (.inl rfl) (pe_lst pa_nil))
      (pss_cons (ps_set (i := 3) scWord.nd rfl (.inl rfl) pe_bl)
      (pss_cons (ps_for PassesOwn.never rfl (pi_tup (pv 0)) (pg_name (i := 4) scWord.nd rfl (.inl rfl))
        (pss_cons (ps_if (pt_cmpR op_ne (pv 4) (pe_k kH) (nomark _))
            (pss_one (ps_expr (pe_bm PySem.F.plainAttrs_list PySem.F.slot_list_append PySem.F.type_list_append mt_append (pv 1) (pa_cons (pv 4) pa_nil))))
            (pss_one (ps_if (pt_val (pv 3))
              (pss_one (ps_expr (pe_bm PySem.F.plainAttrs_list PySem.F.slot_list_append PySem.F.type_list_append mt_append (pv 2) (pa_cons (pe_callB call_len_seq (by rfl) B.len (by decide +kernel) (pa_cons (pv 1) pa_nil)) pa_nil))))
              (pss_one (ps_ret pe_non)))))
        (pss_one (ps_set (i := 3) scWord.nd rfl (.inl rfl) (pe_cmpR op_ne (pv 4) (pe_k kH) (nomark _))))))
      (pss_cons (ps_set (i := 5) scWord.nd rfl (.inl rfl) (pe_call GR hr (by rfl) DR.g DR.F.kp DR.b .nil pass0 (pa_cons (pv 1) pa_nil)))
      (pss_cons (ps_if (PW.pt (pw_or (pt_cmpR op_isN (pv 5) pe_non (nomark _)) (pw_or1 (pt_not (pt_val (pv 3)))))) (pss_one (ps_ret pe_non)) pss_nil)
      (pss_one (ps_ret (pe_tup (pa_cons (pv 5) (pa_cons (pe_callTy call_tuple_of (by rfl) B.tuple (by decide +kernel) (pa_cons (pv 2) pa_nil)) pa_nil)))))))))), ?_⟩
    refine ⟨Nat.zero_le _, fun l nl => ⟨Nat.zero_le _, fun m nm => ?_⟩⟩
    have hml : m ≠ l := fun e => by rw [e, upd_same] at nm; cases nm
    have nm0 : H m = none := (same_upd nl).free nm
    refine ⟨.ref a, rfl, a, rfl, ⟨_, seqT (((same_upd nl).new nm) a _ ha)⟩, for_it (walk_tup (xs := iv c)) (fun i σ H' => ∃ (b : Bool) (ls ms : PM.Ns) (v4 v5 : Option V), σ = [some (.ref a), some (.ref l), some (.ref m), some (.bl b), v4, v5] ∧ Same H H' ∧
        H' l = some (.lst (iv ls)) ∧ H' m = some (.lst (iv ms)) ∧ PM.wordGo c [] [] false = PM.wordGo (c.drop i) ls ms b ∧ ls.length ≤ i ∧ ms.length ≤ i)
      ⟨false, [], [], none, none, rfl, (same_upd nl).new nm, by rw [upd_ne hml.symm, upd_same]; rfl, upd_same, rfl, Nat.le_refl _, Nat.le_refl _⟩ (fun i σ H' _ hp => ?_) ?_ ?_⟩
    · obtain ⟨b, ls, ms, v4, v5, _, s1, _⟩ := hp
      exact seqT (s1 a _ ha)
    · rintro i x σ H1 H2 hi ⟨b, ls, ms, v4, v5, rfl, s1, e1, e2, ew, n1, n2⟩ ⟨rfl, hx⟩
      obtain ⟨n, hn, rfl⟩ := iv_get hx
      rw [iv_len] at hi
      have hd := drop_at hn
      refine ⟨.int n, rfl, rfl, _, rfl, ?_⟩
      rw [vint_ne]
      refine if_b (fun en => ?_) (fun en => ?_)
      · -- a letter or so
        have en' : n ≠ 45 := of_decide_eq_true en
        refine ⟨.ref l, rfl, .inl ⟨rfl, _, seqL e1⟩, .int n, rfl, l, _, _, rfl, rfl, e1, ?_, ?_⟩
        · rw [iv_len]; exact Nat.lt_of_le_of_lt (Nat.le_trans n1 (Nat.le_of_lt hi)) (by rw [sizeLine_eq]; omega)
        · refine ⟨.int n, rfl, rfl, ?_⟩
          rw [vint_ne, en]
          refine ⟨true, ls ++ [n], ms, _, _, rfl, fun b' o q' => ?_, ?_, ?_, ?_, ?_, Nat.le_succ_of_le n2⟩
          · rw [upd_ne (ne_of_none q' nl)]
            exact s1 b' o q'
          · rw [upd_same, iv_snoc]
          · rw [upd_ne hml]; exact e2
          · rw [ew, hd]
            exact if_pos en'
          · rw [List.length_append]; exact Nat.succ_le_succ n1
      · have en' : n = 45 := by simpa using en
        refine ⟨.bl b, rfl, _, rfl, if_b (fun eb => ?_) (fun eb => ?_)⟩
        · refine ⟨.ref m, rfl, .inl ⟨rfl, _, seqL e2⟩, .ref l, rfl, l, _, rfl, .inl (seqL e1), m, _, _, rfl, rfl, e2, ?_, ?_⟩
          · rw [iv_len]; exact Nat.lt_of_le_of_lt (Nat.le_trans n2 (Nat.le_of_lt hi)) (by rw [sizeLine_eq]; omega)
          · refine ⟨.int n, rfl, rfl, ?_⟩
            rw [vint_ne, en, iv_len]
            refine ⟨false, ls, ms ++ [(ls.length : Int)], _, _, rfl, fun b' o q' => ?_, ?_, ?_, ?_, Nat.le_succ_of_le n1, ?_⟩
            · rw [upd_ne (ne_of_none q' nm0)]
              exact s1 b' o q'
            · rw [upd_ne hml.symm]; exact e1
            · rw [upd_same, iv_snoc]
            · rw [ew, hd]
              show (if n ≠ 45 then _ else if b = true then _ else none) = _
              rw [if_neg (fun z => z en'), if_pos eb]
            · rw [List.length_append]; exact Nat.succ_le_succ n2
        · have e00 : PM.wordGo c [] [] false = none := by
            rw [ew, hd]
            show (if n ≠ 45 then _ else if b = true then _ else none) = none
            rw [if_neg (fun z => z en'), if_neg (by rw [eb]; exact Bool.false_ne_true)]
          have e0 : PM.wordOf c = none := by
            unfold PM.wordOf
            rw [e00]
          rw [e0] at q
          exact q _ s1
    · rintro σ H1 ⟨b, ls, ms, v4, v5, rfl, s1, e1, e2, ew, n1, n2⟩
      rw [iv_len, List.drop_length] at ew
      rw [iv_len] at n1 n2
      have ew2 : PM.wordGo c [] [] false = some (ls, ms, b) := ew
      refine ⟨.ref l, rfl, l, ls, rfl, seqL e1, by omega, ?_⟩
      have key : PM.wordOf c = match PM.rowOf ls with
        | none => none
        | some row => if b = true then some (row, ms) else none := by
        unfold PM.wordOf
        rw [ew2]
        all_goals rfl
      cases er : PM.rowOf ls with
      | none =>
        rw [er] at key
        intro H2 s2
        refine ⟨.non, rfl, rfl, _, rfl, if_t rfl (if_t rfl ?_)⟩
        rw [key] at q
        exact q H2 (s1.trans s2)
      | some row =>
        rw [er] at key
        replace key : PM.wordOf c = if b = true then some (row, ms) else none := key
        intro H2 p s2 ep
        refine ⟨.ref p, rfl, rfl, _, rfl, if_f rfl ⟨.bl b, rfl, _, rfl, if_b (fun eb => ?_) (fun eb => ?_)⟩⟩
        · have eb' : b = false := by simpa using eb
          rw [key, eb', if_neg Bool.false_ne_true] at q
          exact q H2 (s1.trans s2)
        · have eb' : b = true := by simpa using eb
          rw [key, if_pos eb'] at q
          have q' : ∀ H' t a b, Same H H' → H' t = some (.tup [.ref a, .ref b]) → Nice H' a (iv row) → H' b = some (.tup (iv ms)) → Q (.ref t) H' := q
          refine ⟨.ref p, rfl, .ref m, rfl, m, _, rfl, .inl ⟨seqL (s2 _ _ e2), fun r nr => ⟨by show 2 ≤ sizeLine; decide, fun t nt => ?_⟩⟩⟩
          have s3 := (s1.trans s2)
          refine q' _ t p r ((s3.new nr).new nt) upd_same ?_ ?_
          · exact (ep.same (same_upd nr)).same (same_upd nt)
          · exact (same_upd nt) _ _ upd_same
end
end PR
set_option Elab.async false
set_option linter.all false
set_option maxRecDepth 100000
set_option maxHeartbeats 2000000
/-! # chunks: without_points, pattern_of, digit_bytes -/
namespace PR
open PySem PySem.Spec PyProof.Rows L2
abbrev sWithout : Stmt := topS 20
abbrev sPatternOf : Stmt := topS 21
abbrev sDigitBytes : Stmt := topS 23
theorem scWithout : FnScope ["chunk"] ["chunk"] (defScope sWithout) := ⟨rfl, rfl, rfl, by decide +kernel, rfl, by decide +kernel, by decide +kernel⟩
theorem scPatternOf : FnScope ["chunk", "letters", "digits", "byte"] ["chunk"] (defScope sPatternOf) := ⟨rfl, rfl, rfl, by decide +kernel, rfl, by decide +kernel, by decide +kernel⟩
theorem scDigitBytes : FnScope ["digit"] ["digit"] (defScope sDigitBytes) := ⟨rfl, rfl, rfl, by decide +kernel, rfl, by decide +kernel, by decide +kernel⟩
/-! ### slices -/
def cutI (c : PM.Ns) (lo hi : Option Int) : PM.Ns := (c.drop (HT.sIx c.length 0 lo)).take (HT.sIx c.length c.length hi - HT.sIx c.length 0 lo)
theorem cutV_iv (c : PM.Ns) (lo hi : Option Int) : cutV (iv c) lo hi = iv (cutI c lo hi) := by
  unfold cutV cutI
  rw [iv_len, ← List.map_drop, ← List.map_take]
theorem slA {K : PySem.W.Frag} {H : Hp} {a : Addr} {c : PM.Ns} {lo hi : Option Int} {Q : VK} (ha : H a = some (.tup (iv c))) (h : ∀ H' p, Same H H' → H' p = some (.tup (iv (cutI c lo hi))) → Q (.ref p) H') : rSlA K (.ref a) lo hi H Q := by
  refine ⟨a, _, rfl, seqT ha, fun hw => h H a (Same.refl H) ?_, fun _ p hp => h _ p (same_upd hp) (by rw [upd_same, cutV_iv])⟩
  have e : cutI c lo hi = c := by
    unfold cutI
    rw [iv_len] at hw
    rw [hw.1, hw.2, List.drop_zero, Nat.sub_zero]
    exact List.take_length
  rw [e]
  exact ha
theorem cutI_to (c : PM.Ns) (k : Nat) : cutI c none (some (k : Int)) = c.take k := by
  unfold cutI
  rw [HT.sIx_nat, HT.sIx_none, List.drop_zero, Nat.sub_zero]
  by_cases h : k ≤ c.length
  · rw [Nat.min_eq_left h]
  · rw [Nat.min_eq_right (by omega), List.take_length, List.take_of_length_le (by omega)]
theorem cutI_from (c : PM.Ns) (k : Nat) : cutI c (some (k : Int)) none = c.drop k := by
  unfold cutI
  rw [HT.sIx_nat, HT.sIx_none]
  by_cases h : k ≤ c.length
  · rw [Nat.min_eq_left h]
    exact List.take_of_length_le (by rw [List.length_drop]; exact Nat.le_refl _)
  · rw [Nat.min_eq_right (by omega), Nat.sub_self, List.take_zero, List.drop_of_length_le (by omega)]
theorem sIx_neg (n d k : Nat) (hk : 0 < k) : HT.sIx n d (some (-(k : Int))) = n - k := by
  show (if -(k : Int) < 0 then (-(k : Int) + (n : Int)).toNat else min (-(k : Int)).toNat n) = n - k
  rw [if_pos (by omega)]
  omega
theorem cutI_last (c : PM.Ns) (k : Nat) (hk : 0 < k) : cutI c (some (-(k : Int))) none = c.drop (c.length - k) := by
  unfold cutI
  rw [sIx_neg _ _ _ hk, HT.sIx_none]
  exact List.take_of_length_le (by rw [List.length_drop]; exact Nat.le_refl _)
theorem cutI_front (c : PM.Ns) (k : Nat) (hk : 0 < k) : cutI c none (some (-(k : Int))) = c.take (c.length - k) := by
  unfold cutI
  rw [sIx_neg _ _ _ hk, HT.sIx_none, List.drop_zero, Nat.sub_zero]
theorem cutI_range (c : PM.Ns) (i j : Nat) : cutI c (some (i : Int)) (some (j : Int)) = (c.drop i).take (j - i) := by
  unfold cutI
  rw [HT.sIx_nat, HT.sIx_nat]
  by_cases h : i ≤ c.length
  · rw [Nat.min_eq_left h]
    by_cases h2 : j ≤ c.length
    · rw [Nat.min_eq_left h2]
    · rw [Nat.min_eq_right (by omega)]
      rw [List.take_of_length_le (by rw [List.length_drop]; omega), List.take_of_length_le (by rw [List.length_drop]; omega)]
  · rw [Nat.min_eq_right (show c.length ≤ i by omega), List.drop_of_length_le (Nat.le_refl _), List.drop_of_length_le (show c.length ≤ i by omega), List.take_nil, List.take_nil]
theorem ixN_end {xs : List V} {v : V} : ixN (xs ++ [v]).length (-1) = some xs.length := by
  unfold ixN
  have hl : (xs ++ [v]).length = xs.length + 1 := by simp
  rw [hl, if_neg (by decide), if_pos (by omega)]
  congr 1
  omega
theorem set_end {xs : List V} {v u : V} : (xs ++ [v]).set xs.length u = xs ++ [u] := by
  rw [List.set_append_right _ _ (Nat.le_refl _), Nat.sub_self]
  rfl
def spWithout : Sp := fun vs H Q _ => ∃ (a : Addr) (c : PM.Ns), vs = [.ref a] ∧ H a = some (.tup (iv c)) ∧ ∀ H' p, Same H H' → H' p = some (.tup (iv (PM.withoutPoints c))) → Q (.ref p) H'
def spDigitBytes : Sp := fun vs H Q _ => ∃ d : Int, vs = [.int d] ∧ ∀ H' p, Same H H' → H p = none → H' p = some (.lst (iv (PM.digitBytes d))) → Q (.ref p) H'
section
variable {P : Program} {w : World} {K : PySem.W.Frag} {mg : Str → Option Value} {base : Heap} {k : Nat} {f : Addr} {fd : FuncData}
theorem ok_without (D : Dfn K mg "without_points" sWithout ["chunk"] f fd) (kP : Kst mg "POINT" (.int 46)) : FnOk P w K mg base CX0 (k + 1) f fd ["chunk"] spWithout := by
  refine D.F.ok scWithout (fun vs H Q E h => ?_) (fun cdv A outer s H vs Q E hr h => ?_)
  · obtain ⟨a, c, rfl, _⟩ := h; rfl
  · obtain ⟨a, c, rfl, ha, q⟩ := h
    refine ⟨_, C8.pss_cut (ps_if (pt_cmpR (op_eqT hr.units) (pe_slice sl_tupA (pv 0) po_none (po_some pe_int)) (pe_tup (pa_cons (pe_k kP) pa_nil)) (nomark _)) (pss_one (ps_set (i := 0) scWithout.nd rfl (.inl rfl) (pe_slice sl_tupA (pv 0) (po_some pe_int) po_none))) pss_nil)
      (pss_cons (ps_if (pt_cmpR (op_eqT hr.units) (pe_slice sl_tupA (pv 0) (po_some (pe_un un_neg pe_int)) po_none) (pe_tup (pa_cons (pe_k kP) pa_nil)) (nomark _)) (pss_one (ps_set (i := 0) scWithout.nd rfl (.inl rfl) (pe_slice sl_tupA (pv 0) po_none (po_some (pe_un un_neg pe_int))))) pss_nil)
      (pss_one (ps_ret (pv 0)))), ?_⟩
    refine ⟨fun σ' H' => ∃ b, σ' = [some (.ref b)] ∧ Same H H' ∧ H' b = some (.tup (iv (PM.cutFront c))), ?_, ?_⟩
    · refine ⟨.ref a, rfl, 1, rfl, ?_⟩
      show rSlA _ (.ref a) none (some 1) _ _
      refine slA ha fun H2 p s2 e2 => ⟨by show 1 ≤ sizeLine; decide, fun p1 n1 => ⟨p, p1, _, [46], rfl, rfl, seqT ((same_upd n1) _ _ e2), seqT upd_same, _, rfl, ?_⟩⟩
      rw [show cutI c none (some 1) = c.take 1 from cutI_to c 1]
      refine if_b (fun e => ?_) (fun e => ?_)
      · refine ⟨.ref a, rfl, 1, rfl, ?_⟩
        dsimp only [tNoPart]
        refine slA ((same_upd n1) _ _ (s2 _ _ ha)) fun H3 p2 s3 e3 => ⟨p2, rfl, (s2.new n1).trans s3, ?_⟩
        rw [show cutI c (some 1) none = c.drop 1 from cutI_from c 1] at e3
        unfold PM.cutFront
        rw [if_pos (of_decide_eq_true e)]
        exact e3
      · refine ⟨a, rfl, s2.new n1, ?_⟩
        unfold PM.cutFront
        rw [if_neg (of_decide_eq_false e)]
        exact (same_upd n1) _ _ (s2 _ _ ha)
    · rintro σ' H1 ⟨b, rfl, s1, e1⟩
      refine ⟨.ref b, rfl, 1, rfl, -1, rfl, ?_⟩
      dsimp only [tNoPart]
      refine slA e1 fun H2 p s2 e2 => ⟨by show 1 ≤ sizeLine; decide, fun p1 n1 => ⟨p, p1, _, [46], rfl, rfl, seqT ((same_upd n1) _ _ e2), seqT upd_same, _, rfl, ?_⟩⟩
      rw [show cutI (PM.cutFront c) (some (-1)) none = (PM.cutFront c).drop ((PM.cutFront c).length - 1) from cutI_last _ 1 (by decide)]
      refine if_b (fun e => ?_) (fun e => ?_)
      · refine ⟨.ref b, rfl, 1, rfl, -1, rfl, ?_⟩
        show rSlA _ (.ref b) none (some (-1)) _ _
        refine slA ((same_upd n1) _ _ (s2 _ _ e1)) fun H3 p2 s3 e3 => ⟨_, rfl, q _ p2 ((s1.trans s2).trans ((same_upd n1).trans s3)) ?_⟩
        rw [show cutI (PM.cutFront c) none (some (-1)) = (PM.cutFront c).take ((PM.cutFront c).length - 1) from cutI_front _ 1 (by decide)] at e3
        unfold PM.withoutPoints PM.cutEnd
        rw [if_pos (of_decide_eq_true e), List.dropLast_eq_take]
        exact e3
      · refine ⟨.ref b, rfl, q _ b ((s1.trans s2).trans (same_upd n1)) ?_⟩
        unfold PM.withoutPoints PM.cutEnd
        rw [if_neg (of_decide_eq_false e)]
        exact (same_upd n1) _ _ (s2 _ _ e1)
theorem ok_digitBytes (D : Dfn K mg "digit_bytes" sDigitBytes ["digit"] f fd) (kZ : Kst mg "ZERO" (.int 48)) : FnOk P w K mg base CX0 (k + 1) f fd ["digit"] spDigitBytes := by
  refine D.F.ok scDigitBytes (fun vs H Q E h => ?_) (fun cdv A outer s H vs Q E hr h => ?_)
  · obtain ⟨a, rfl, _⟩ := h; rfl
  · obtain ⟨d, rfl, q⟩ := h
    refine ⟨_, pss_one (ps_ret (pe_ifExp (pt_cmpR op_gt (pv 0) pe_int (nomark _)) (pe_lst (pa_cons (pe_op op_add (pe_k kZ) (pv 0)) pa_nil)) (pe_lst pa_nil))), ?_⟩
    refine ⟨.int d, rfl, _, _, rfl, rfl, _, rfl, if_b (fun e => ⟨.int d, rfl, _, _, rfl, rfl, by show 1 ≤ sizeLine; decide, fun p hp => q _ p (same_upd hp) hp ?_⟩) (fun e => ⟨Nat.zero_le _, fun p hp => q _ p (same_upd hp) hp ?_⟩)⟩
    · rw [upd_same]
      unfold PM.digitBytes
      rw [if_pos (of_decide_eq_true e)]
      rfl
    · rw [upd_same]
      unfold PM.digitBytes
      rw [if_neg (of_decide_eq_false e)]
      rfl
end
end PR
set_option Elab.async false
set_option linter.all false
set_option maxRecDepth 100000
set_option maxHeartbeats 2000000
/-! # chunks: pattern_of -/
namespace PR
open PySem PySem.Spec PyProof.Rows L2
/-! ### a list that grows while all else stands -/
def Grow (H : Hp) (D : Addr) (out : Nat → List V) (i : Nat) (H' : Hp) : Prop := Same H H' ∧ H' D = some (.lst (out i))
section
variable {H H1 H2 : Hp} {D : Addr} {out : Nat → List V} {i : Nat} {y : V}
theorem Grow.start (hD : H D = none) (h0 : out 0 = []) : Grow H D out 0 (upd H D (.lst [])) := ⟨same_upd hD, by rw [upd_same, h0]⟩
theorem Grow.yes (g : Grow H D out i H1) (hD : H D = none) (s : Same H1 H2) (hl : (out i).length < sizeLine) (e : out (i + 1) = out i ++ [y]) :
    ∃ acc, H2 D = some (.lst acc) ∧ acc.length < sizeLine ∧ Grow H D out (i + 1) (upd H2 D (.lst (acc ++ [y]))) := by
  refine ⟨out i, s _ _ g.2, hl, fun b o q => ?_, by rw [upd_same, e]⟩
  rw [upd_ne (ne_of_none q hD)]
  exact s _ _ (g.1 _ _ q)
theorem Grow.no (g : Grow H D out i H1) (s : Same H1 H2) (e : out (i + 1) = out i) : Grow H D out (i + 1) H2 := ⟨g.1.trans s, by rw [e]; exact s _ _ g.2⟩
end
theorem filter_snoc {c : PM.Ns} {p : Int → Bool} {i : Nat} {n : Int} (h : c[i]? = some n) : iv ((c.take (i + 1)).filter p) = if p n = true then iv ((c.take i).filter p) ++ [V.int n] else iv ((c.take i).filter p) := by
  rw [take_snoc h, List.filter_append]
  by_cases hp : p n = true
  · rw [if_pos hp, iv_app]
    simp [hp, iv]
  · rw [if_neg hp]
    simp [hp]
theorem len_lt {n : Nat} (h : n ≤ 200000) : n < sizeLine := by rw [sizeLine_eq]; omega
abbrev s_is_letter : Stmt := topS 9
abbrev s_is_digit : Stmt := topS 10
abbrev s_spelled : Stmt := topS 11
abbrev s_margin_of : Stmt := topS 17
abbrev s_row_of : Stmt := topS 18
abbrev s_word_of : Stmt := topS 19
abbrev s_without_points : Stmt := topS 20
abbrev s_digit_bytes : Stmt := topS 23
abbrev s_pattern_of : Stmt := topS 21
theorem sc_pattern_of : FnScope ["chunk", "letters", "digits", "byte"] ["chunk"] (defScope s_pattern_of) := ⟨rfl, rfl, rfl, by decide +kernel, rfl, by decide +kernel, by decide +kernel⟩
theorem all_zero {ns : PM.Ns} {m : Int} (hm : m ∈ ns) (hx : ∀ y, y ∈ ns → y ≤ m) (h0 : ∀ y ∈ ns, 0 ≤ y) : decide (m = 0) = ns.all (fun d => decide (d = 0)) := by
  by_cases h : m = 0
  · rw [decide_eq_true h]
    symm
    rw [List.all_eq_true]
    intro y hy
    have := h0 y hy
    have := hx y hy
    exact decide_eq_true (by omega)
  · rw [decide_eq_false h]
    symm
    rw [List.all_eq_false]
    exact ⟨m, hm, by rw [decide_eq_false h]; exact Bool.false_ne_true⟩
theorem wp_len (c : PM.Ns) : (PM.withoutPoints c).length ≤ c.length := by
  have h1 : ∀ d : PM.Ns, (PM.cutFront d).length ≤ d.length := fun d => by
    unfold PM.cutFront
    split
    · rw [List.length_drop]; omega
    · exact Nat.le_refl _
  have h2 : ∀ d : PM.Ns, (PM.cutEnd d).length ≤ d.length := fun d => by
    unfold PM.cutEnd
    split
    · rw [List.length_dropLast]; omega
    · exact Nat.le_refl _
  exact Nat.le_trans (h2 _) (h1 _)
section
variable {P : Program} {w : World} {K : PySem.W.Frag} {mg : Str → Option Value} {base : Heap} {k : Nat} {f : Addr} {fd : FuncData}
theorem ok_pattern_of {f_without_points : Addr} {fd_without_points : FuncData} {f_is_letter : Addr} {fd_is_letter : FuncData} {f_is_digit : Addr} {fd_is_digit : FuncData} (D : Dfn K mg "pattern_of" s_pattern_of ["chunk"] f fd) (B : Blt mg)
    (D_without_points : Dfn K mg "without_points" s_without_points ["chunk"] f_without_points fd_without_points) (G_without_points : FnOk P w K mg base CX0 k f_without_points fd_without_points ["chunk"] spWithout)
    (D_is_letter : Dfn K mg "is_letter" s_is_letter ["byte"] f_is_letter fd_is_letter) (G_is_letter : FnOk P w K mg base CX0 k f_is_letter fd_is_letter ["byte"] (spTest PM.isLetter))
    (D_is_digit : Dfn K mg "is_digit" s_is_digit ["byte"] f_is_digit fd_is_digit) (G_is_digit : FnOk P w K mg base CX0 k f_is_digit fd_is_digit ["byte"] (spTest PM.isDigit))
    (k_ZERO : Kst mg "ZERO" (.int 48)) (k_MOST_PIECE_LETTERS : Kst mg "MOST_PIECE_LETTERS" (.int 6)) :
    FnOk P w K mg base CX0 (k + 1) f fd ["chunk"] (spAs false PM.patternOf) := by
  refine D.F.ok sc_pattern_of (fun vs H Q E h => ?_) (fun cdv A outer s H vs Q E hr h => ?_)
  · obtain ⟨a, c, rfl, _⟩ := h; rfl
  · obtain ⟨a, c, rfl, ha, hc, q⟩ := h
    refine ⟨_, pss_cons (ps_set (i := 1) sc_pattern_of.nd rfl (.inl rfl) (pe_lst pa_nil))
    (pss_cons (ps_set (i := 2) sc_pattern_of.nd rfl (.inl rfl) (pe_lst (pa_cons (pe_int) pa_nil)))
    (pss_cons (ps_for PassesOwn.never rfl (pi_tup (pe_call G_without_points hr (by rfl) D_without_points.g D_without_points.F.kp D_without_points.b .nil pass0 (pa_cons (pv 0) pa_nil))) (pg_name (i := 3) sc_pattern_of.nd rfl (.inl rfl))
      (pss_one (ps_if (pt_val (pe_call G_is_letter hr (by rfl) D_is_letter.g D_is_letter.F.kp D_is_letter.b .nil pass0 (pa_cons (pv 3) pa_nil)))
          (pss_cons (ps_expr (pe_bm PySem.F.plainAttrs_list PySem.F.slot_list_append PySem.F.type_list_append mt_append (pv 1) (pa_cons (pv 3) pa_nil)))
            (pss_one (ps_expr (pe_bm PySem.F.plainAttrs_list PySem.F.slot_list_append PySem.F.type_list_append mt_append (pv 2) (pa_cons (pe_int) pa_nil)))))
          (pss_one (ps_if (PW.pt (pw_and (pt_val (pe_call G_is_digit hr (by rfl) D_is_digit.g D_is_digit.F.kp D_is_digit.b .nil pass0 (pa_cons (pv 3) pa_nil))) (pw_and (pt_cmpR op_ne (pv 3) (pe_k k_ZERO) (nomark _)) (pw_and1 (pt_cmpR op_eq (pe_ix ix_list (pv 2) (pe_un un_neg (pe_int)) (fun _ _ => rfl)) (pe_int) (nomark _))))))
              (pss_one (ps_asg (pe_op op_sub (pv 3) (pe_k k_ZERO)) (pg_sub (pv 2) (pe_un un_neg (pe_int)) set_list)))
              (pss_one (ps_ret (pe_non))))))))
    (pss_cons (ps_if (PW.pt (pw_or (pt_not (pt_chain op_le op_le (pe_int) (pe_callB call_len_seq (by rfl) B.len (by decide +kernel) (pa_cons (pv 1) pa_nil)) (pe_k k_MOST_PIECE_LETTERS))) (pw_or1 (pt_cmpR op_eq (pe_callB (cr_max rfl) (by rfl) B.max (by decide +kernel) (pa_cons (pv 2) pa_nil)) (pe_int) (nomark _)))))
      (pss_one (ps_ret (pe_non))) pss_nil)
    (pss_one (ps_ret (pe_tup (pa_cons (pe_callTy call_tuple_of (by rfl) B.tuple (by decide +kernel) (pa_cons (pe_lc (own := [("byte", 3)]) (g := gName 3) (tt := _) rfl sc_pattern_of.nd (pi_tup (pv 0)) (blkOk_by (own := [("byte", 3)]) (N := ["chunk", "letters", "digits", "byte"]) (sc := defScope s_pattern_of) (by decide +kernel)) (fun _ _ _ _ _ => pg_name (i := 3) sc_pattern_of.nd rfl (Or.inl rfl)) (fun _ _ _ _ _ => pts_one (pt_not (pt_val (pe_call G_is_digit hr (by rfl) D_is_digit.g D_is_digit.F.kp D_is_digit.b .nil pass0 (pa_cons (pv 3) pa_nil))))) (fun _ _ _ _ _ => pv 3)) pa_nil)) (pa_cons (pe_callTy call_tupleN (by rfl) B.tuple (by decide +kernel) (pa_cons (pv 2) pa_nil)) pa_nil)))))))), ?_⟩
    refine ⟨Nat.zero_le _, fun l nl => ⟨by show 1 ≤ sizeLine; decide, fun m nm => ?_⟩⟩
    have hml : m ≠ l := fun e => by rw [e, upd_same] at nm; cases nm
    have nm0 : H m = none := (same_upd nl).free nm
    have sm : Same H (upd (upd H l (.lst [])) m (.lst [.int 0])) := (same_upd nl).new nm
    refine ⟨.ref a, rfl, a, c, rfl, sm _ _ ha, fun H0 p s0 ep => ⟨p, rfl, ⟨_, seqT ep⟩, ?_⟩⟩
    have hwl := wp_len c
    refine for_it (walk_tup (xs := iv (PM.withoutPoints c))) (fun i σ H' => ∃ (ls ds : PM.Ns) (d : Int) (v3 : Option V), σ = [some (.ref a), some (.ref l), some (.ref m), v3] ∧ Same H H' ∧ H' p = some (.tup (iv (PM.withoutPoints c))) ∧
        H' l = some (.lst (iv ls)) ∧ H' m = some (.lst (iv (ds ++ [d]))) ∧ PM.patGo (PM.withoutPoints c) [] [] 0 = PM.patGo ((PM.withoutPoints c).drop i) ls ds d ∧ ls.length ≤ i ∧ ds.length ≤ i ∧ (∀ y ∈ ds ++ [d], 0 ≤ y))
      ⟨[], [], 0, none, rfl, sm.trans s0, ep, s0 _ _ (by rw [upd_ne hml.symm, upd_same]; rfl), s0 _ _ upd_same, rfl, Nat.le_refl _, Nat.le_refl _, fun y hy => by rcases List.mem_singleton.mp hy with rfl; decide⟩ (fun i σ H' _ hp => ?_) ?_ ?_
    · obtain ⟨ls, ds, d, v3, _, _, e0, _⟩ := hp
      exact seqT e0
    · rintro i x σ H1 H2 hi ⟨ls, ds, d, v3, rfl, s1, ep1, e1, e2, ew, n1, n2, hpos⟩ ⟨rfl, hx⟩
      obtain ⟨n, hn, rfl⟩ := iv_get hx
      rw [iv_len] at hi
      have hd := drop_at hn
      have none_of : PM.isLetter n = false → ¬ (PM.isDigit n = true ∧ n ≠ 48 ∧ d = 0) → ∀ H', Same H H' → Q .non H' := fun g1 g2 H' hs => by
        have e00 : PM.patGo (PM.withoutPoints c) [] [] 0 = none := by
          rw [ew, hd]
          show (if PM.isLetter n = true then _ else if PM.isDigit n = true ∧ n ≠ 48 ∧ d = 0 then _ else none) = none
          rw [if_neg (by rw [g1]; exact Bool.false_ne_true), if_neg g2]
        have e : PM.patternOf c = none := by
          unfold PM.patternOf
          rw [e00]
        rw [e] at q
        exact q H' hs
      have lp : p ≠ l := fun e => by rw [e, e1] at ep1; cases ep1
      have mp : p ≠ m := fun e => by rw [e, e2] at ep1; cases ep1
      have sk : ∀ {x : Addr} {o : HO} {H3 : Hp}, H x = none → Same H H3 → Same H (upd H3 x o) := fun hx s3 b' o q' => by
        rw [upd_ne (ne_of_none q' hx)]
        exact s3 b' o q'
      refine ⟨.int n, rfl, n, rfl, _, rfl, if_b (fun en => ?_) (fun en => ?_)⟩
      · refine ⟨.ref l, rfl, .inl ⟨rfl, _, seqL e1⟩, .int n, rfl, l, _, _, rfl, rfl, e1, by rw [iv_len]; exact len_lt (by omega), ?_⟩
        refine ⟨.ref m, rfl, .inl ⟨rfl, _, seqL (by rw [upd_ne hml]; exact e2)⟩, m, _, _, rfl, rfl, by rw [upd_ne hml]; exact e2, by rw [iv_len, List.length_append]; exact len_lt (by show ds.length + 1 ≤ _; omega), ?_⟩
        refine ⟨ls ++ [n], ds ++ [d], 0, _, rfl, sk nm0 (sk nl s1), ?_, ?_, ?_, ?_, ?_, ?_, ?_⟩
        · rw [upd_ne mp, upd_ne lp]; exact ep1
        · rw [upd_ne hml.symm, upd_same, iv_snoc]
        · rw [upd_same, iv_snoc]
        · rw [ew, hd]
          exact if_pos en
        · rw [List.length_append]; exact Nat.succ_le_succ n1
        · rw [List.length_append]; exact Nat.succ_le_succ n2
        · intro y hy
          rcases List.mem_append.mp hy with hy | hy
          · exact hpos y hy
          · rcases List.mem_singleton.mp hy with rfl; decide
      · refine ⟨.int n, rfl, n, rfl, _, rfl, if_b (fun ed => ?_) (fun ed => none_of en (fun z => by rw [z.1] at ed; cases ed) _ s1)⟩
        refine ⟨.int n, rfl, rfl, _, rfl, ?_⟩
        rw [vint_ne]
        refine if_b (fun e48 => ?_) (fun e48 => none_of en (fun z => by rw [decide_eq_true z.2.1] at e48; cases e48) _ s1)
        refine ⟨.ref m, rfl, 1, rfl, m, _, _, _, rfl, rfl, seqL e2, by rw [← iv_snoc]; exact atI_last _ _, rfl, _, rfl, ?_⟩
        rw [vint_dec]
        refine if_b (fun e0 => ?_) (fun e0 => none_of en (fun z => by rw [decide_eq_true z.2.2] at e0; cases e0) _ s1)
        have d0 : d = 0 := of_decide_eq_true e0
        have n48 : n ≠ 48 := of_decide_eq_true e48
        refine ⟨.int n, rfl, _, _, rfl, rfl, .ref m, rfl, 1, rfl, m, _, _, ds.length, rfl, rfl, e2, by rw [← iv_snoc, ixN_end, iv_len], ?_⟩
        refine ⟨ls, ds, n - 48, _, rfl, sk nm0 s1, ?_, ?_, ?_, ?_, Nat.le_succ_of_le n1, Nat.le_succ_of_le n2, ?_⟩
        · rw [upd_ne mp]; exact ep1
        · rw [upd_ne hml.symm]; exact e1
        · rw [upd_same, ← iv_snoc, ← iv_len ds, set_end, iv_snoc]
        · rw [ew, hd]
          show (if PM.isLetter n = true then _ else if PM.isDigit n = true ∧ n ≠ 48 ∧ d = 0 then _ else none) = _
          rw [if_neg (by rw [en]; exact Bool.false_ne_true), if_pos ⟨ed, n48, d0⟩]
        · intro y hy
          rcases List.mem_append.mp hy with hy | hy
          · exact hpos y (List.mem_append_left _ hy)
          · rcases List.mem_singleton.mp hy with rfl
            have : PM.isDigit n = true := ed
            unfold PM.isDigit at this
            have h48 : 48 ≤ n := by
              by_cases h : 48 ≤ n
              · exact h
              · rw [decide_eq_false h] at this; cases this
            omega
    · rintro σ H1 ⟨ls, ds, d, v3, rfl, s1, ep1, e1, e2, ew, n1, n2, hpos⟩
      rw [iv_len] at n1 n2
      rw [iv_len, List.drop_length] at ew
      have key : PM.patternOf c = if ¬ (1 ≤ ls.length ∧ ls.length ≤ 6) ∨ (ds ++ [d]).all (fun d => decide (d = 0)) = true then none else some (c.filter (fun b => !PM.isDigit b), ds ++ [d]) := by
        unfold PM.patternOf
        rw [ew]
        rfl
      have none_of : ¬ (1 ≤ ls.length ∧ ls.length ≤ 6) ∨ (ds ++ [d]).all (fun d => decide (d = 0)) = true → ∀ H', Same H H' → Q .non H' := fun hn H' hs => by
        rw [key, if_pos hn] at q
        exact q H' hs
      refine ⟨.ref l, rfl, l, _, rfl, .inl (seqL e1), 1, _, rfl, rfl, _, rfl, ?_⟩
      rw [iv_len]
      refine if_b (fun g1 => ⟨_, _, rfl, rfl, _, rfl, ?_⟩) (fun g1 => ⟨_, rfl, if_t rfl (if_t rfl (none_of (.inl (by have := of_decide_eq_false g1; omega)) H1 s1))⟩)
      have h1 : 1 ≤ ls.length := by have := of_decide_eq_true g1; omega
      refine if_b (fun g2 => if_t rfl (none_of (.inl (by have h3 : ¬ ((ls.length : Int) ≤ 6) := (fun z => by rw [decide_eq_true z] at g2; cases g2); omega)) H1 s1)) (fun g2 => ?_)
      have h2 : ls.length ≤ 6 := by
        have : ((ls.length : Int) ≤ 6) := by simpa using g2
        omega
      refine ⟨.ref m, rfl, m, _, rfl, seqL e2, by rw [List.length_append]; exact Nat.succ_pos _, fun top ht hx => ⟨rfl, _, rfl, ?_⟩⟩
      rw [vint_dec, all_zero ht hx hpos]
      refine if_b (fun g3 => none_of (.inr g3) H1 s1) (fun g3 => ?_)
      rw [key, if_neg (by rintro (z | z); exact z ⟨h1, h2⟩; rw [g3] at z; cases z)] at q
      have q' : ∀ H' t a b, Same H H' → H' t = some (.tup [.ref a, .ref b]) → Rd H' a (.tup (iv (c.filter (fun b => !PM.isDigit b)))) → Nice H' b (iv (ds ++ [d])) → Q (.ref t) H' := q
      refine ⟨.ref a, rfl, a, rfl, ⟨_, seqT (s1 _ _ ha)⟩, fun D' hD => lc_it (walk_tup (xs := iv c)) (Grow H1 D' fun i => iv ((c.take i).filter (fun b => !PM.isDigit b))) (Grow.start hD rfl) (fun i H' _ hp => seqT (hp.1 _ _ (s1 _ _ ha))) ?_ ?_⟩
      · rintro i x H2 H3 hi hg ⟨rfl, hx⟩
        obtain ⟨n, hn, rfl⟩ := iv_get hx
        rw [iv_len] at hi
        refine ⟨rfl, .int n, rfl, n, rfl, _, rfl, if_b (fun g4 => ⟨.int n, rfl, hg.yes hD (Same.refl _) ?_ ?_⟩) (fun g4 => hg.no (Same.refl _) ?_)⟩
        · rw [iv_len]
          exact len_lt (Nat.le_trans (List.length_filter_le _ _) (by rw [List.length_take]; omega))
        · rw [filter_snoc hn, if_pos g4]
        · rw [filter_snoc hn, if_neg (by rw [g4]; exact Bool.false_ne_true)]
      · rintro H2 ⟨s2, e3⟩
        replace e3 : H2 D' = some (.lst (iv ((c.take (iv c).length).filter (fun b => !PM.isDigit b)))) := e3
        rw [iv_len, List.take_length] at e3
        refine ⟨D', _, rfl, .inl ⟨seqL e3, fun p1 np1 => ⟨.ref m, rfl, m, _, rfl, seqL (((s2.new np1)) _ _ e2), fun p2 od np2 hod => ⟨by show 2 ≤ sizeLine; decide, fun t nt => ?_⟩⟩⟩⟩
        refine q' _ t p1 p2 ((((s1.trans s2).new np1).new np2).new nt) upd_same ?_ ?_
        · exact .inl ((same_upd nt) _ _ ((same_upd np2) _ _ upd_same))
        · exact ⟨od, hod, (same_upd nt) _ _ upd_same⟩
end
end PR
set_option Elab.async false
set_option linter.all false
set_option maxRecDepth 100000
set_option maxHeartbeats 2000000
/-! # chunks: pattern_bytes -/
namespace PR
open PySem PySem.Spec PyProof.Rows L2
abbrev s_pattern_bytes : Stmt := topS 22
theorem sc_pattern_bytes : FnScope ["piece", "digits", "told", "gap", "place", "byte"] ["piece", "digits"] (defScope s_pattern_bytes) := ⟨rfl, rfl, rfl, by decide +kernel, rfl, by decide +kernel, by decide +kernel⟩
theorem _root_.L2.FnOk.up {P : Program} {w : World} {K : PySem.W.Frag} {mg : Str → Option Value} {base : Heap} {CX : CXT} {j k : Nat} {f : Addr} {fd : FuncData} {ps : List Str} {sp : Sp} (G : FnOk P w K mg base CX j f fd ps sp) (h : j ≤ k) : FnOk P w K mg base CX k f fd ps sp :=
  ⟨G.len, fun A outer s H args us vs Q E hr => G.run A outer s H args us vs Q E (hr.mono h)⟩
/-- the digits are enough for the piece's gaps -/
def Fits (piece digits : PM.Ns) : Prop := piece.length ≤ 1000 ∧ (piece.length ≤ digits.length ∨ (piece.length ≤ digits.length + 1 ∧ piece.headD 0 = 46))
def spPatBytes : Sp := fun vs H Q _ => ∃ (a b : Addr) (piece digits : PM.Ns), vs = [.ref a, .ref b] ∧ Rd H a (.tup (iv piece)) ∧ Rd H b (.tup (iv digits)) ∧ Fits piece digits ∧
  ∀ H' p, Same H H' → H p = none → H' p = some (.lst (iv (PM.patternBytes piece digits))) → Q (.ref p) H'
theorem len_db (d : Int) : (PM.digitBytes d).length ≤ 1 := by
  unfold PM.digitBytes
  split
  · exact Nat.le_refl _
  · exact Nat.zero_le _
section
variable {P : Program} {w : World} {K : PySem.W.Frag} {mg : Str → Option Value} {base : Heap} {k : Nat} {f : Addr} {fd : FuncData}
theorem ok_pattern_bytes {f_digit_bytes : Addr} {fd_digit_bytes : FuncData} (D : Dfn K mg "pattern_bytes" s_pattern_bytes ["piece", "digits"] f fd) (B : Blt mg)
    (D_digit_bytes : Dfn K mg "digit_bytes" s_digit_bytes ["digit"] f_digit_bytes fd_digit_bytes) (G_digit_bytes : FnOk P w K mg base CX0 k f_digit_bytes fd_digit_bytes ["digit"] spDigitBytes)
    (k_POINT : Kst mg "POINT" (.int 46)) :
    FnOk P w K mg base CX0 (k + 1) f fd ["piece", "digits"] spPatBytes := by
  refine D.F.ok sc_pattern_bytes (fun vs H Q E h => ?_) (fun cdv A outer s H vs Q E hr h => ?_)
  · obtain ⟨a, b, p, ds, rfl, _⟩ := h; rfl
  · obtain ⟨a, b, piece, digits, rfl, ha, hb0, hf, q⟩ := h
    refine ⟨_, pss_cons (ps_set (i := 2) sc_pattern_bytes.nd rfl (.inl rfl) (pe_lst pa_nil))
    (pss_cons (ps_set (i := 3) sc_pattern_bytes.nd rfl (.inl rfl) (pe_int))
    (pss_cons (ps_for PassesOwn.never rfl (pi_enumT (by rfl) B.enumerate (pa_cons (pv 0) pa_nil)) (pg_tup rfl (pgs_cons (pg_name (i := 4) sc_pattern_bytes.nd rfl (.inl rfl)) (pgs_cons (pg_name (i := 5) sc_pattern_bytes.nd rfl (.inl rfl)) pgs_nil)))
      (C8.pss_cut (ps_if (PW.pt (pw_or (pt_cmpR op_ne (pv 5) (pe_k k_POINT) (nomark _)) (pw_or1 (pt_cmpR op_gt (pv 4) (pe_int) (nomark _)))))
          (pss_cons (ps_expr (pe_bm PySem.F.plainAttrs_list PySem.F.slot_list_extend PySem.F.type_list_extend mt_extend (pv 2) (pa_cons (pe_call G_digit_bytes hr (by rfl) D_digit_bytes.g D_digit_bytes.F.kp D_digit_bytes.b .nil pass0 (pa_cons (pe_ix ix_tup (pv 1) (pv 3) (fun _ _ => rfl)) pa_nil)) pa_nil)))
            (pss_one (ps_aug (i := 3) sc_pattern_bytes.nd rfl (.inl rfl) (pe_int) ip_add))) pss_nil)
        (pss_one (ps_expr (pe_bm PySem.F.plainAttrs_list PySem.F.slot_list_append PySem.F.type_list_append mt_append (pv 2) (pa_cons (pv 5) pa_nil))))))
    (pss_cons (ps_if (pt_cmpR op_lt (pv 3) (pe_callB call_len_seq (by rfl) B.len (by decide +kernel) (pa_cons (pv 1) pa_nil)) (nomark _))
      (pss_one (ps_expr (pe_bm PySem.F.plainAttrs_list PySem.F.slot_list_extend PySem.F.type_list_extend mt_extend (pv 2) (pa_cons (pe_call G_digit_bytes hr (by rfl) D_digit_bytes.g D_digit_bytes.F.kp D_digit_bytes.b .nil pass0 (pa_cons (pe_ix ix_tup (pv 1) (pv 3) (fun _ _ => rfl)) pa_nil)) pa_nil)))) pss_nil)
    (pss_one (ps_ret (pv 2)))))), ?_⟩
    refine ⟨Nat.zero_le _, fun l nl => ⟨.ref a, rfl, a, _, rfl, .inl (L2.Rd.same ha (same_upd nl)), ?_⟩⟩
    have hlen := hf.1
    have sk : ∀ {o : HO} {H3 : Hp}, Same H H3 → Same H (upd H3 l o) := fun s3 b' o q' => by
      rw [upd_ne (ne_of_none q' nl)]
      exact s3 b' o q'
    refine for_it (walkET (xs := iv piece)) (fun i σ H' => ∃ (g : Nat) (told : PM.Ns) (v4 v5 : Option V), σ = [some (.ref a), some (.ref b), some (.ref l), some (.int (g : Int)), v4, v5] ∧ Same H H' ∧ H' l = some (.lst (iv told)) ∧
        PM.pbGo piece true digits [] = PM.pbGo (piece.drop i) (decide (i = 0)) (digits.drop g) told ∧ ((i = 0 ∧ g = 0) ∨ (0 < i ∧ piece.length + g ≤ digits.length + i)) ∧ told.length ≤ 2 * i)
      ⟨0, [], none, none, rfl, same_upd nl, upd_same, rfl, .inl ⟨rfl, rfl⟩, Nat.le_refl _⟩ (fun i σ H' _ hp => ?_) ?_ ?_
    · obtain ⟨_, _, _, _, _, s1, _⟩ := hp
      exact .inl (L2.Rd.same ha s1)
    · rintro i x σ H1 H2 hi ⟨g, told, v4, v5, rfl, s1, e1, ew, hb, hl⟩ ⟨T, x1, y1, rfl, nT, rfl, hx, hy⟩
      cases hx
      obtain ⟨n, hn, rfl⟩ := iv_get hy
      rw [iv_len] at hi
      have hd := drop_at hn
      have s2 : Same H (upd H1 T (.tup [.int (i : Nat), .int n])) := s1.new nT
      have e2 : upd H1 T (.tup [.int (i : Nat), .int n]) l = some (.lst (iv told)) := (same_upd nT) _ _ e1
      refine ⟨T, _, rfl, seqT upd_same, rfl, _, _, rfl, _, _, rfl, rfl, ?_⟩
      -- where a digit is told
      have yes : n ≠ 46 ∨ 0 < i → ∃ d, digits[g]? = some d ∧ (0 < i + 1 ∧ piece.length + (g + 1) ≤ digits.length + (i + 1)) ∧
          PM.pbGo piece true digits [] = PM.pbGo (piece.drop (i + 1)) (decide (i + 1 = 0)) (digits.drop (g + 1)) (told ++ PM.digitBytes d ++ [n]) := fun hc => by
        have hh : g < digits.length ∧ piece.length + g ≤ digits.length + i := by
          rcases hb with ⟨i0, g0⟩ | ⟨ip, hb⟩
          · subst i0 g0
            rcases hf.2 with z | ⟨z1, z2⟩
            · omega
            · have h46 : n = 46 := by
                rw [List.drop_zero] at hd
                rw [hd] at z2
                exact z2
              rcases hc with hc | hc
              · exact absurd h46 hc
              · omega
          · omega
        obtain ⟨d, hd2⟩ : ∃ d, digits[g]? = some d := ⟨digits[g], List.getElem?_eq_getElem hh.1⟩
        refine ⟨d, hd2, ⟨Nat.succ_pos _, by omega⟩, ?_⟩
        rw [ew, hd, drop_at hd2]
        refine (if_pos ?_).trans rfl
        rcases hc with hc | hc
        · exact .inl hc
        · exact .inr (decide_eq_false (by omega))
      refine ⟨fun σ' H3 => ∃ (g' : Nat) (told' : PM.Ns), σ' = [some (.ref a), some (.ref b), some (.ref l), some (.int (g' : Int)), some (.int (i : Int)), some (.int n)] ∧ Same H H3 ∧ H3 l = some (.lst (iv told')) ∧
        PM.pbGo piece true digits [] = PM.pbGo (piece.drop (i + 1)) (decide (i + 1 = 0)) (digits.drop g') (told' ++ [n]) ∧ (0 < i + 1 ∧ piece.length + g' ≤ digits.length + (i + 1)) ∧ told'.length ≤ 2 * i + 1, ?_, ?_⟩
      · refine ⟨.int n, rfl, rfl, _, rfl, ?_⟩
        rw [vint_ne]
        refine if_b (fun e46 => ?_) (fun e46 => ⟨_, rfl, _, _, rfl, rfl, _, rfl, if_b (fun ei => ?_) (fun ei => ?_)⟩)
        · obtain ⟨d, hd2, hb2, ew2⟩ := yes (.inl (of_decide_eq_true e46))
          refine ⟨.ref l, rfl, .inl ⟨rfl, _, seqL e2⟩, .ref b, rfl, _, rfl, b, _, _, _, rfl, rfl, .inl (L2.Rd.same hb0 s2), atI_nat (by rw [List.getElem?_map, hd2]; rfl), d, rfl, fun H3 p s3 np e3 => ?_⟩
          refine ⟨l, p, _, _, rfl, rfl, s3 _ _ e2, e3, ?_, _, rfl, _, _, rfl, rfl, g + 1, told ++ PM.digitBytes d, rfl, sk (s2.trans s3), by rw [upd_same, iv_app], ew2, hb2, ?_⟩
          · rw [iv_len, iv_len]
            exact small (m := 5000) (by have := len_db d; omega)
          · rw [List.length_append]
            have := len_db d
            omega
        · obtain ⟨d, hd2, hb2, ew2⟩ := yes (.inr (by have := of_decide_eq_true ei; omega))
          refine ⟨.ref l, rfl, .inl ⟨rfl, _, seqL e2⟩, .ref b, rfl, _, rfl, b, _, _, _, rfl, rfl, .inl (L2.Rd.same hb0 s2), atI_nat (by rw [List.getElem?_map, hd2]; rfl), d, rfl, fun H3 p s3 np e3 => ?_⟩
          refine ⟨l, p, _, _, rfl, rfl, s3 _ _ e2, e3, ?_, _, rfl, _, _, rfl, rfl, g + 1, told ++ PM.digitBytes d, rfl, sk (s2.trans s3), by rw [upd_same, iv_app], ew2, hb2, ?_⟩
          · rw [iv_len, iv_len]
            exact small (m := 5000) (by have := len_db d; omega)
          · rw [List.length_append]
            have := len_db d
            omega
        · have i0 : i = 0 := by have := of_decide_eq_false ei; omega
          have n46 : n = 46 := by simpa using e46
          refine ⟨g, told, rfl, s2, e2, ?_, ⟨Nat.succ_pos _, ?_⟩, by omega⟩
          · rw [ew, hd]
            refine (if_neg ?_).trans rfl
            rintro (z | z)
            · exact z n46
            · rw [decide_eq_true i0] at z; cases z
          · rcases hb with ⟨_, g0⟩ | ⟨ip, _⟩
            · rcases hf.2 with z | ⟨z, _⟩ <;> omega
            · omega
      · rintro σ' H3 ⟨g', told', rfl, s3, e3, ew3, hb3, hl3⟩
        refine ⟨.ref l, rfl, .inl ⟨rfl, _, seqL e3⟩, .int n, rfl, l, _, _, rfl, rfl, e3, by rw [iv_len]; exact len_lt (by omega), ?_⟩
        exact ⟨g', told' ++ [n], _, _, rfl, sk s3, by rw [upd_same, iv_snoc], ew3, .inr hb3, by rw [List.length_append]; show told'.length + 1 ≤ _; omega⟩
    · rintro σ H1 ⟨g, told, v4, v5, rfl, s1, e1, ew, hb, hl⟩
      rw [iv_len, List.drop_length] at ew
      rw [iv_len] at hb hl
      have key : PM.patternBytes piece digits = match digits.drop g with
        | [] => told
        | d :: _ => told ++ PM.digitBytes d := by
        unfold PM.patternBytes
        rw [ew]
        rfl
      refine ⟨_, rfl, .ref b, rfl, b, _, rfl, .inr (.inl (L2.Rd.same hb0 s1)), _, _, rfl, rfl, _, rfl, ?_⟩
      rw [iv_len]
      refine if_b (fun e => ?_) (fun e => ?_)
      · have hg : g < digits.length := by have := of_decide_eq_true e; omega
        have hd2 : digits[g]? = some digits[g] := List.getElem?_eq_getElem hg
        rw [drop_at hd2] at key
        refine ⟨.ref l, rfl, .inl ⟨rfl, _, seqL e1⟩, .ref b, rfl, _, rfl, b, _, _, _, rfl, rfl, .inl (L2.Rd.same hb0 s1), atI_nat (by rw [List.getElem?_map, hd2]; rfl), digits[g], rfl, fun H3 p s3 np e3 => ?_⟩
        refine ⟨l, p, _, _, rfl, rfl, s3 _ _ e1, e3, ?_, _, rfl, q _ l (sk (s1.trans s3)) nl ?_⟩
        · rw [iv_len, iv_len]
          exact small (m := 5000) (by have := len_db digits[g]; omega)
        · rw [upd_same, ← iv_app, key]
      · have hg : digits.length ≤ g := by have := of_decide_eq_false e; omega
        rw [List.drop_of_length_le hg] at key
        exact ⟨_, rfl, q _ l s1 nl (by rw [key]; exact e1)⟩
end
end PR
set_option Elab.async false
set_option linter.all false
set_option maxRecDepth 100000
set_option maxHeartbeats 2000000
/-! # tokens -/
namespace PR
open PySem PySem.Spec PyProof.Rows L2
abbrev s_Fault___init__ : Stmt := inClass (topS 26) 0
theorem sc_Fault___init__ : FnScope ["self", "code", "place"] ["self", "code", "place"] (defScope s_Fault___init__) := ⟨rfl, rfl, rfl, by decide +kernel, rfl, by decide +kernel, by decide +kernel⟩
abbrev s_is_chunk_byte : Stmt := topS 27
theorem sc_is_chunk_byte : FnScope ["byte"] ["byte"] (defScope s_is_chunk_byte) := ⟨rfl, rfl, rfl, by decide +kernel, rfl, by decide +kernel, by decide +kernel⟩
abbrev s_remark_end : Stmt := topS 28
theorem sc_remark_end : FnScope ["text", "place"] ["text", "place"] (defScope s_remark_end) := ⟨rfl, rfl, rfl, by decide +kernel, rfl, by decide +kernel, by decide +kernel⟩
abbrev s_chunk_end : Stmt := topS 29
theorem sc_chunk_end : FnScope ["text", "place"] ["text", "place"] (defScope s_chunk_end) := ⟨rfl, rfl, rfl, by decide +kernel, rfl, by decide +kernel, by decide +kernel⟩
abbrev s_tokens_of : Stmt := topS 30
theorem sc_tokens_of : FnScope ["text", "tokens", "place", "byte", "end"] ["text"] (defScope s_tokens_of) := ⟨rfl, rfl, rfl, by decide +kernel, rfl, by decide +kernel, by decide +kernel⟩
/-- the way out by an own error -/
def FEnd (C : Addr) (H : Hp) (E : XK) (f : PM.Flt) : Prop := ∀ d fs H', Same H H' → H' d = some (.xd fs) → List.lookup ("code" : Str) fs = some (V.int f.1) → List.lookup ("place" : Str) fs = some (V.int f.2) → E (.ref C) (some d) H'
theorem FEnd.go {C : Addr} {H H' : Hp} {E : XK} {f : PM.Flt} (h : FEnd C H E f) (s : Same H H') : FEnd C H' E f := fun d fs H2 s2 => h d fs H2 (s.trans s2)
def fsOf (c p : Int) : List (Str × V) := [(("place" : Str), V.int p), (("code" : Str), V.int c)]
/-- Fault.__init__(self, code, place) -/
def spFault (C : Addr) : Sp := fun vs H Q _ => ∃ (x : Addr) (c p : Int), vs = [.ref x, .int c, .int p] ∧ H x = some (exo x C none) ∧
  ∀ dx, H dx = none → dx ≠ x → Q .non (upd (upd (upd H dx (exd dx [(("code" : Str), V.int c)])) x (exo x C (some dx))) dx (exd dx (fsOf c p)))
/-- what the top says of Fault -/
structure FaultT (K : PySem.W.Frag) (mg : Str → Option Value) (C f : Addr) (fd : FuncData) : Prop where
  T : OexE K C
  g : mg "Fault" = some (.ref C)
  iC : PySem.W.findIn K (.ref C) "__init__" = some (some (.ref f))
  tI : PySem.W.typeIn K (.ref f) = some (.type "function")
  F : Fun K "__init__" "Fault.__init__" s_Fault___init__ f fd
  b : Binds K fd ["self", "code", "place"] []
  nC : PySem.W.findIn K (.ref C) "code" = some none
  nP : PySem.W.findIn K (.ref C) "place" = some none
  xf : XfC K C
  te : PySem.W.exmOne K (.ref C) (.ref C) = some true
  vV : PySem.W.findCls K (.type "Exception") (.type "type") "__init__" = some (.val (.builtin "Exception.__init__"))
theorem lookup_here {f : Str} {v : V} {r : List (Str × V)} : List.lookup f ((f, v) :: r) = some v := by
  have e : (f == f) = true := beq_self_eq_true f
  simp only [List.lookup, e]
theorem lookup_past {f g : Str} {v u : V} {r : List (Str × V)} (h : (f == g) = false) : List.lookup f ((g, u) :: (f, v) :: r) = some v := by
  have e : (f == f) = true := beq_self_eq_true f
  simp only [List.lookup, h, e]
theorem fault_mk {C : Addr} {H1 : Hp} {c p : Int} {Q : XK} (h : FEnd C H1 Q (c, p)) : [V.int c, V.int p].length ≤ 1000 ∧ ∀ a, H1 a = none → spFault C (V.ref a :: ([V.int c, V.int p] ++ [])) (upd H1 a (exo a C none))
    (fun v H2 => v = .non ∧ ∃ d fs, H2 a = some (exo a C (some d)) ∧ H2 d = some (exd d fs) ∧ H1 d = none ∧ Q (.ref C) (some d) (upd (del H2 a) d (.xd fs))) (fun _ _ _ => False) := by
  refine ⟨by show 2 ≤ 1000; decide, fun a na => ⟨a, c, p, rfl, upd_same, fun dx nx ne => ⟨rfl, dx, fsOf c p, ?_, upd_same, ?_, h dx _ _ (fun b o e => ?_) upd_same ?_ ?_⟩⟩⟩
  · rw [upd_ne (Ne.symm ne), upd_same]
  · rw [upd_ne ne] at nx
    exact nx
  · rw [upd_ne ne] at nx
    have h1 : b ≠ dx := ne_of_none e nx
    have h2 : b ≠ a := ne_of_none e na
    rw [upd_ne h1]
    show (if b = a then none else _) = _
    rw [if_neg h2, upd_ne h1, upd_ne h2, upd_ne h1, upd_ne h2]
    exact e
  · exact lookup_past (by decide +kernel)
  · exact lookup_here
/-! ### tokens in the heap -/
def Tups (H H' : Hp) : Prop := (∀ b ys, H b = some (.tup ys) → H' b = some (.tup ys)) ∧ ∀ b od ys, H b = some (.frz od (.tup ys)) → H' b = some (.frz od (.tup ys))
theorem Tups.of {H H' : Hp} (s : Same H H') : Tups H H' := ⟨fun b ys e => s _ _ e, fun b od ys e => s _ _ e⟩
/-- one object changes, which is no tuple -/
theorem Tups.but {H H' : Hp} {a : Addr} {o : HO} (b : But a H H') (e : H a = some o) (h1 : ∀ ys, o ≠ .tup ys) (h2 : ∀ od ys, o ≠ .frz od (.tup ys)) : Tups H H' :=
  ⟨fun c ys z => b c _ (fun q => by rw [q, e] at z; exact h1 ys (Option.some.inj z)) z, fun c od ys z => b c _ (fun q => by rw [q, e] at z; exact h2 od ys (Option.some.inj z)) z⟩
theorem But.at {a : Addr} {H : Hp} {o : HO} : But a H (upd H a o) := fun b u n e => by
  rw [upd_ne n]
  exact e
theorem Tups.lst {H : Hp} {l : Addr} {xs ys : List V} (e : H l = some (.lst xs)) : Tups H (upd H l (.lst ys)) := Tups.but But.at e (fun _ z => nomatch z) (fun _ _ z => nomatch z)
theorem Tups.trans {A B C : Hp} (h : Tups A B) (g : Tups B C) : Tups A C := ⟨fun b ys e => g.1 _ _ (h.1 _ _ e), fun b od ys e => g.2 _ _ _ (h.2 _ _ _ e)⟩
theorem Tups.rd {A B : Hp} (h : Tups A B) {a : Addr} {ys : List V} (e : Rd A a (.tup ys)) : Rd B a (.tup ys) := by
  rcases e with e | ⟨o, e⟩
  · exact .inl (h.1 _ _ e)
  · exact .inr ⟨o, h.2 _ _ _ e⟩
theorem Tups.nice {A B : Hp} (h : Tups A B) {a : Addr} {ys : List V} (e : Nice A a ys) : Nice B a ys := by
  obtain ⟨od, e1, e2⟩ := e
  exact ⟨od, e1, h.2 _ _ _ e2⟩
theorem Tups.ko {fz : Bool} {A B : Hp} (h : Tups A B) {a : Addr} {ns : PM.Ns} (e : KO fz A a ns) : KO fz B a ns := by
  cases fz with
  | true => exact h.nice e
  | false => exact h.rd e
def TokAt (H : Hp) (v : V) (tk : PM.Tk) : Prop := ∃ a c, v = .ref a ∧ H a = some (.tup [.int tk.1, .ref c]) ∧ H c = some (.tup (iv tk.2))
theorem TokAt.go {H H' : Hp} {v : V} {tk : PM.Tk} (h : TokAt H v tk) (t : Tups H H') : TokAt H' v tk := by
  obtain ⟨a, c, e, h1, h2⟩ := h
  exact ⟨a, c, e, t.1 _ _ h1, t.1 _ _ h2⟩
theorem paired_mono {α β : Type} {R S : α → β → Prop} (h : ∀ a b, R a b → S a b) : ∀ {xs : List α} {ys : List β}, Paired R xs ys → Paired S xs ys
  | _, _, .nil => .nil
  | _, _, .cons r t => .cons (h _ _ r) (paired_mono h t)
theorem paired_len {α β : Type} {R : α → β → Prop} : ∀ {xs : List α} {ys : List β}, Paired R xs ys → xs.length = ys.length
  | _, _, .nil => rfl
  | _, _, .cons _ t => congrArg Nat.succ (paired_len t)
/-- a scan: from the place on over all that p takes -/
def spRun (p : Int → Bool) : Sp := fun vs H Q _ => ∃ (a : Addr) (t : PM.Ns) (j : Nat), vs = [.ref a, .int j] ∧ H a = some (.lst (iv t)) ∧ t.length ≤ 100000 ∧ Q (.int ((j + ((t.drop j).takeWhile p).length : Nat) : Int)) H
def spTokens (C : Addr) : Sp := fun vs H Q E => ∃ (a : Addr) (t : PM.Ns), vs = [.ref a] ∧ H a = some (.lst (iv t)) ∧ t.length ≤ 100000 ∧ (match PM.tokensOf t with
  | .error f => FEnd C H E f
  | .ok l => ∀ H' p us, Same H H' → H' p = some (.lst us) → Paired (TokAt H') us l → Q (.ref p) H')
theorem while_dir {c : TT} {tb : TS} {D : Ends} {σ : L2.St} {H : Hp} (W : Nat → L2.St → Hp → Prop) (h0 : ∃ m, W m σ H) (hs : ∀ m σ H, W m σ H → c σ H fun b H1 => if b = true then
    ∃ N : L2.St → Hp → Prop, (∀ σ' H', N σ' H' → ∃ m', m' < m ∧ W m' σ' H') ∧ tb { D with nx := N, ct := N, bk := D.nx } σ H1 else D.nx σ H1) : tWhile c tb D σ H := ⟨W, h0, hs⟩
theorem inV_iv (b : Int) : ∀ ns : PM.Ns, inV (.int b) (iv ns) = decide (b ∈ ns)
  | [] => by rw [decide_eq_false (fun z => nomatch z)]; rfl
  | n :: r => by
    show ((n == b) || inV (.int b) (iv r)) = _
    rw [inV_iv b r]
    by_cases h : b = n
    · subst h
      rw [decide_eq_true List.mem_cons_self, beq_self_eq_true, Bool.true_or]
    · have h2 : (n == b) = false := by simpa using fun z : n = b => h z.symm
      rw [h2, Bool.false_or]
      refine decide_eq_decide.mpr ⟨List.mem_cons_of_mem _, fun z => ?_⟩
      rcases List.mem_cons.mp z with z | z
      · exact absurd z h
      · exact z
theorem blank_in (b : Int) : inV (.int b) [.int 32, .int 9, .int 10] = PM.isBlank b := by
  refine (inV_iv b [32, 9, 10]).trans ?_
  unfold PM.isBlank
  rw [← Bool.decide_or, ← Bool.decide_or]
  exact decide_eq_decide.mpr ⟨fun z => by simpa using z, fun z => by simpa using z⟩
theorem tw_yes {p : Int → Bool} {t : PM.Ns} {i : Nat} {x : Int} (h : t[i]? = some x) (hp : p x = true) : i + ((t.drop i).takeWhile p).length = (i + 1) + ((t.drop (i + 1)).takeWhile p).length := by
  rw [drop_at h, List.takeWhile_cons, if_pos hp, List.length_cons]
  omega
theorem tw_no {p : Int → Bool} {t : PM.Ns} {i : Nat} {x : Int} (h : t[i]? = some x) (hp : p x = false) : i + ((t.drop i).takeWhile p).length = i := by
  rw [drop_at h, List.takeWhile_cons, if_neg (by rw [hp]; exact Bool.false_ne_true)]
  rfl
theorem tw_end {p : Int → Bool} {t : PM.Ns} {i : Nat} (h : t.length ≤ i) : i + ((t.drop i).takeWhile p).length = i := by
  rw [List.drop_of_length_le h]
  rfl
theorem tw_le (p : Int → Bool) : ∀ l : PM.Ns, (l.takeWhile p).length ≤ l.length
  | [] => Nat.le_refl _
  | x :: r => by
    rw [List.takeWhile_cons]
    split
    · exact Nat.succ_le_succ (tw_le p r)
    · exact Nat.zero_le _
theorem dw_drop (p : Int → Bool) : ∀ l : PM.Ns, l.dropWhile p = l.drop (l.takeWhile p).length
  | [] => rfl
  | x :: r => by
    rw [List.dropWhile_cons, List.takeWhile_cons]
    by_cases h : p x = true
    · rw [if_pos h, if_pos h, List.length_cons, List.drop_succ_cons]
      exact dw_drop p r
    · rw [if_neg h, if_neg h]
      rfl
theorem lex_blank {n : Nat} {p b : Int} {r : PM.Ns} (h : PM.isBlank b = true) : PM.lexGo (n + 1) p (b :: r) = PM.lexGo n (p + 1) r := if_pos h
theorem lex_rem {n : Nat} {p b : Int} {r : PM.Ns} (h : PM.isBlank b = false) (h2 : b = 35) : PM.lexGo (n + 1) p (b :: r) = PM.lexGo n (p + 1 + (r.takeWhile (fun x => decide (x ≠ 10))).length) (r.dropWhile (fun x => decide (x ≠ 10))) :=
  (if_neg (by rw [h]; exact Bool.false_ne_true)).trans (if_pos h2)
def tokLen (b : Int) (r : PM.Ns) : Nat := if b = 59 then 1 else ((b :: r).takeWhile PM.isChunk).length
theorem lex_tok {n : Nat} {p b : Int} {r : PM.Ns} (h : PM.isBlank b = false) (h2 : ¬ b = 35) : PM.lexGo (n + 1) p (b :: r) = if 1 ≤ tokLen b r ∧ tokLen b r ≤ 40 then (PM.lexGo n (p + tokLen b r) ((b :: r).drop (tokLen b r))).map fun l => (p, (b :: r).take (tokLen b r)) :: l else .error (2, p) :=
  (if_neg (by rw [h]; exact Bool.false_ne_true)).trans (if_neg h2)
theorem map_more (x : Except PM.Flt (List PM.Tk)) (ts : List PM.Tk) (k : PM.Tk) : (x.map fun l => k :: l).map (fun l => ts ++ l) = x.map fun l => (ts ++ [k]) ++ l := by
  cases x with
  | error e => rfl
  | ok l => show Except.ok (ts ++ k :: l) = Except.ok ((ts ++ [k]) ++ l); rw [List.append_assoc]; rfl
section
variable {P : Program} {w : World} {K : PySem.W.Frag} {mg : Str → Option Value} {base : Heap} {k : Nat} {f : Addr} {fd : FuncData}
theorem ok_Fault_init {C : Addr} (TF : FaultT K mg C f fd) (B : Blt mg) : FnOk P w K mg base CX0 (k + 1) f fd ["self", "code", "place"] (spFault C) := by
  refine TF.F.ok sc_Fault___init__ (fun vs H Q E h => ?_) (fun cdv A outer s H vs Q E hr h => ?_)
  · obtain ⟨x, c, p, rfl, _⟩ := h; rfl
  · obtain ⟨x, c, p, rfl, hx, q⟩ := h
    refine ⟨_, pss_cons (ps_expr (pe_exinit (by rfl) B.exc TF.vV (pa_cons (pv 0) (pa_cons (pv 1) (pa_cons (pv 2) pa_nil))))) (pss_cons (ps_setE (pv 0) (pv 1)) (pss_one (ps_setE (pv 0) (pv 2)))), ?_⟩
    refine ⟨.ref x, rfl, .int c, rfl, .int p, rfl, x, C, _, rfl, by show 2 ≤ 1000; decide, TF.T, hx, ?_⟩
    refine ⟨.int c, rfl, .ref x, rfl, x, C, rfl, TF.T, TF.nC, .inl ⟨hx, fun dx nx ne => ?_⟩⟩
    refine ⟨.int p, rfl, .ref x, rfl, x, C, rfl, TF.T, TF.nP, .inr ⟨dx, _, upd_same, ?_, by show 1 ≤ 900; decide, q dx nx ne⟩⟩
    rw [upd_ne ne, upd_same]
theorem ok_is_chunk_byte {f_is_digit : Addr} {fd_is_digit : FuncData} {f_is_letter : Addr} {fd_is_letter : FuncData} (D : Dfn K mg "is_chunk_byte" s_is_chunk_byte ["byte"] f fd) (B : Blt mg)
    (D_is_digit : Dfn K mg "is_digit" s_is_digit ["byte"] f_is_digit fd_is_digit) (G_is_digit : FnOk P w K mg base CX0 k f_is_digit fd_is_digit ["byte"] (spTest PM.isDigit))
    (D_is_letter : Dfn K mg "is_letter" s_is_letter ["byte"] f_is_letter fd_is_letter) (G_is_letter : FnOk P w K mg base CX0 k f_is_letter fd_is_letter ["byte"] (spTest PM.isLetter))
    (k_POINT : Kst mg "POINT" (.int 46)) (k_HYPHEN : Kst mg "HYPHEN" (.int 45)) :
    FnOk P w K mg base CX0 (k + 1) f fd ["byte"] (spTest PM.isChunk) := by
  refine D.F.ok sc_is_chunk_byte (fun vs H Q E h => ?_) (fun cdv A outer s H vs Q E hr h => ?_)
  · obtain ⟨b, rfl, _⟩ := h; rfl
  · obtain ⟨b, rfl, q⟩ := h
    refine ⟨_, pss_one (ps_ret (pe_or (pe_call G_is_letter hr (by rfl) D_is_letter.g D_is_letter.F.kp D_is_letter.b .nil pass0 (pa_cons (pv 0) pa_nil)) (pe_or (pe_call G_is_digit hr (by rfl) D_is_digit.g D_is_digit.F.kp D_is_digit.b .nil pass0 (pa_cons (pv 0) pa_nil)) (pe_or (pe_cmpR op_eq (pv 0) (pe_k k_HYPHEN) (nomark _)) (pe_one (pe_cmpR op_eq (pv 0) (pe_k k_POINT) (nomark _))))))), ?_⟩
    have e : PM.isChunk b = (PM.isLetter b || (PM.isDigit b || (decide (b = 45) || decide (b = 46)))) := rfl
    rw [e] at q
    refine ⟨.int b, rfl, b, rfl, _, rfl, if_b (fun g1 => ?_) (fun g1 => ⟨.int b, rfl, b, rfl, _, rfl, if_b (fun g2 => ?_) (fun g2 => ⟨.int b, rfl, rfl, _, rfl, ?_⟩)⟩)⟩
    · rw [g1, Bool.true_or] at q
      exact q
    · rw [g1, g2, Bool.false_or, Bool.true_or] at q
      exact q
    · rw [g1, g2, Bool.false_or, Bool.false_or] at q
      rw [vint_dec]
      refine if_b (fun g3 => ?_) (fun g3 => ?_)
      · rw [g3, Bool.true_or] at q
        exact q
      · rw [g3, Bool.false_or] at q
        refine ⟨.int b, rfl, rfl, ?_⟩
        rw [vint_dec]
        exact q
theorem ok_remark_end (D : Dfn K mg "remark_end" s_remark_end ["text", "place"] f fd) (B : Blt mg)
    (k_LINE_FEED : Kst mg "LINE_FEED" (.int 10)) :
    FnOk P w K mg base CX0 (k + 1) f fd ["text", "place"] (spRun fun x => decide (x ≠ 10)) := by
  refine D.F.ok sc_remark_end (fun vs H Q E h => ?_) (fun cdv A outer s H vs Q E hr h => ?_)
  · obtain ⟨a, t, j, rfl, _⟩ := h; rfl
  · obtain ⟨a, t, j, rfl, ha, ht, q⟩ := h
    refine ⟨_, pss_cons (ps_while PassesOwn.never (PW.pt (pw_and (pt_cmpR op_lt (pv 1) (pe_callB call_len_seq (by rfl) B.len (by decide +kernel) (pa_cons (pv 0) pa_nil)) (nomark _)) (pw_and1 (pt_cmpR op_ne (pe_ix ix_list (pv 0) (pv 1) (fun _ _ => rfl)) (pe_k k_LINE_FEED) (nomark _)))))
      (pss_one (ps_aug (i := 1) sc_remark_end.nd rfl (.inl rfl) (pe_int) ip_add)))
    (pss_one (ps_ret (pv 1))), ?_⟩
    refine while_dir (fun m σ H' => ∃ i : Nat, σ = [some (.ref a), some (.int (i : Int))] ∧ H' = H ∧ j + ((t.drop j).takeWhile (fun x => decide (x ≠ 10))).length = i + ((t.drop i).takeWhile (fun x => decide (x ≠ 10))).length ∧ m = t.length - i) ⟨_, j, rfl, rfl, rfl, rfl⟩ ?_
    rintro m σ H' ⟨i, rfl, rfl, e, rfl⟩
    have fin : i + ((t.drop i).takeWhile (fun x => decide (x ≠ 10))).length = i → Q (.int (i : Int)) H' := fun z => by
      rw [e, z] at q
      exact q
    refine ⟨_, rfl, .ref a, rfl, a, _, rfl, .inl (seqL ha), _, _, rfl, rfl, _, rfl, ?_⟩
    rw [iv_len]
    refine if_b (fun c => ?_) (fun c => if_f rfl ⟨_, rfl, fin (tw_end (by have := of_decide_eq_false c; omega))⟩)
    have hi : i < t.length := by have := of_decide_eq_true c; omega
    have hx : t[i]? = some t[i] := List.getElem?_eq_getElem hi
    refine ⟨.ref a, rfl, _, rfl, a, _, _, _, rfl, rfl, seqL ha, atI_nat (by rw [List.getElem?_map, hx]; rfl), rfl, _, rfl, ?_⟩
    rw [vint_ne]
    refine if_b (fun c2 => ?_) (fun c2 => ⟨_, rfl, fin (tw_no hx c2)⟩)
    exact ⟨_, fun _ _ z => z, _, rfl, _, _, rfl, rfl, t.length - (i + 1), by omega, i + 1, rfl, rfl, e.trans (tw_yes hx c2), rfl⟩
theorem ok_chunk_end {f_is_chunk_byte : Addr} {fd_is_chunk_byte : FuncData} (D : Dfn K mg "chunk_end" s_chunk_end ["text", "place"] f fd) (B : Blt mg)
    (D_is_chunk_byte : Dfn K mg "is_chunk_byte" s_is_chunk_byte ["byte"] f_is_chunk_byte fd_is_chunk_byte) (G_is_chunk_byte : FnOk P w K mg base CX0 k f_is_chunk_byte fd_is_chunk_byte ["byte"] (spTest PM.isChunk)) :
    FnOk P w K mg base CX0 (k + 1) f fd ["text", "place"] (spRun PM.isChunk) := by
  refine D.F.ok sc_chunk_end (fun vs H Q E h => ?_) (fun cdv A outer s H vs Q E hr h => ?_)
  · obtain ⟨a, t, j, rfl, _⟩ := h; rfl
  · obtain ⟨a, t, j, rfl, ha, ht, q⟩ := h
    refine ⟨_, pss_cons (ps_while PassesOwn.never (PW.pt (pw_and (pt_cmpR op_lt (pv 1) (pe_callB call_len_seq (by rfl) B.len (by decide +kernel) (pa_cons (pv 0) pa_nil)) (nomark _)) (pw_and1 (pt_val (pe_call G_is_chunk_byte hr (by rfl) D_is_chunk_byte.g D_is_chunk_byte.F.kp D_is_chunk_byte.b .nil pass0 (pa_cons (pe_ix ix_list (pv 0) (pv 1) (fun _ _ => rfl)) pa_nil))))))
      (pss_one (ps_aug (i := 1) sc_chunk_end.nd rfl (.inl rfl) (pe_int) ip_add)))
    (pss_one (ps_ret (pv 1))), ?_⟩
    refine while_dir (fun m σ H' => ∃ i : Nat, σ = [some (.ref a), some (.int (i : Int))] ∧ H' = H ∧ j + ((t.drop j).takeWhile (PM.isChunk)).length = i + ((t.drop i).takeWhile (PM.isChunk)).length ∧ m = t.length - i) ⟨_, j, rfl, rfl, rfl, rfl⟩ ?_
    rintro m σ H' ⟨i, rfl, rfl, e, rfl⟩
    have fin : i + ((t.drop i).takeWhile (PM.isChunk)).length = i → Q (.int (i : Int)) H' := fun z => by
      rw [e, z] at q
      exact q
    refine ⟨_, rfl, .ref a, rfl, a, _, rfl, .inl (seqL ha), _, _, rfl, rfl, _, rfl, ?_⟩
    rw [iv_len]
    refine if_b (fun c => ?_) (fun c => if_f rfl ⟨_, rfl, fin (tw_end (by have := of_decide_eq_false c; omega))⟩)
    have hi : i < t.length := by have := of_decide_eq_true c; omega
    have hx : t[i]? = some t[i] := List.getElem?_eq_getElem hi
    refine ⟨.ref a, rfl, _, rfl, a, _, _, _, rfl, rfl, seqL ha, atI_nat (by rw [List.getElem?_map, hx]; rfl), _, rfl, _, rfl, ?_⟩
    refine if_b (fun c2 => ?_) (fun c2 => ⟨_, rfl, fin (tw_no hx c2)⟩)
    exact ⟨_, fun _ _ z => z, _, rfl, _, _, rfl, rfl, t.length - (i + 1), by omega, i + 1, rfl, rfl, e.trans (tw_yes hx c2), rfl⟩
theorem ok_tokens_of {C fF : Addr} {fdF : FuncData} {f_remark_end : Addr} {fd_remark_end : FuncData} {f_chunk_end : Addr} {fd_chunk_end : FuncData} (D : Dfn K mg "tokens_of" s_tokens_of ["text"] f fd) (B : Blt mg)
    (D_remark_end : Dfn K mg "remark_end" s_remark_end ["text", "place"] f_remark_end fd_remark_end) (G_remark_end : FnOk P w K mg base CX0 k f_remark_end fd_remark_end ["text", "place"] (spRun fun x => decide (x ≠ 10)))
    (D_chunk_end : Dfn K mg "chunk_end" s_chunk_end ["text", "place"] f_chunk_end fd_chunk_end) (G_chunk_end : FnOk P w K mg base CX0 k f_chunk_end fd_chunk_end ["text", "place"] (spRun PM.isChunk))
    (k_LINE_FEED : Kst mg "LINE_FEED" (.int 10)) (k_TAB : Kst mg "TAB" (.int 9)) (k_BLANK : Kst mg "BLANK" (.int 32)) (k_REMARK : Kst mg "REMARK" (.int 35)) (k_SIGN : Kst mg "SIGN" (.int 59)) (k_MOST_CHUNK : Kst mg "MOST_CHUNK" (.int 40))
    (TF : FaultT K mg C fF fdF) (GF : FnOk P w K mg base CX0 1 fF fdF ["self", "code", "place"] (spFault C)) (hk : 2 ≤ k) :
    FnOk P w K mg base (L2.CX P w) (k + 1) f fd ["text"] (spTokens C) := by
  refine D.F.okX sc_tokens_of (fun vs H Q E h => ?_) (fun cdv A outer s H vs Q E hr h => ?_)
  · obtain ⟨a, t, rfl, _⟩ := h; rfl
  · obtain ⟨a, t, rfl, ha, ht, q⟩ := h
    refine ⟨_, pss_cons (ps_set (i := 1) sc_tokens_of.nd rfl (.inl rfl) (pe_lst pa_nil))
    (pss_cons (ps_set (i := 2) sc_tokens_of.nd rfl (.inl rfl) (pe_int))
    (pss_cons (ps_while PassesOwn.leaving (pt_cmpR op_lt (pv 2) (pe_callB call_len_seq (by rfl) B.len (by decide +kernel) (pa_cons (pv 0) pa_nil)) (nomark _))
      (pss_cons (ps_set (i := 3) sc_tokens_of.nd rfl (.inl rfl) (pe_ix ix_list (pv 0) (pv 2) (fun _ _ => rfl)))
        (pss_one (ps_if (pt_cmpR op_in_seq (pv 3) (pe_tup (pa_cons (pe_k k_BLANK) (pa_cons (pe_k k_TAB) (pa_cons (pe_k k_LINE_FEED) pa_nil)))) (by rfl))
          (pss_one (ps_aug (i := 2) sc_tokens_of.nd rfl (.inl rfl) (pe_int) ip_add))
          (pss_one (ps_if (pt_cmpR op_eq (pv 3) (pe_k k_REMARK) (nomark _))
              (pss_one (ps_set (i := 2) sc_tokens_of.nd rfl (.inl rfl) (pe_call G_remark_end hr (by rfl) D_remark_end.g D_remark_end.F.kp D_remark_end.b .nil pass0 (pa_cons (pv 0) (pa_cons (pv 2) pa_nil)))))
              (C8.pss_cut (ps_set (i := 4) sc_tokens_of.nd rfl (.inl rfl) (pe_ifExp (pt_cmpR op_eq (pv 3) (pe_k k_SIGN) (nomark _)) (pe_op op_add (pv 2) (pe_int)) (pe_call G_chunk_end hr (by rfl) D_chunk_end.g D_chunk_end.F.kp D_chunk_end.b .nil pass0 (pa_cons (pv 0) (pa_cons (pv 2) pa_nil)))))
                (pss_cons (ps_if (pt_not (pt_chain op_le op_le (pe_int) (pe_op op_sub (pv 4) (pv 2)) (pe_k k_MOST_CHUNK)))
                  (pss_one (ps_raise rfl (takes_of rfl rfl rfl rfl) (pmk_oexE TF.T TF.iC TF.tI GF (hr.mono hk) TF.b pass0 rfl TF.g (pa_cons (pe_int) (pa_cons (pv 2) pa_nil))))) pss_nil)
                (pss_cons (ps_expr (pe_bm PySem.F.plainAttrs_list PySem.F.slot_list_append PySem.F.type_list_append mt_append (pv 1) (pa_cons (pe_tup (pa_cons (pv 2) (pa_cons (pe_callTy call_tuple_of (by rfl) B.tuple (by decide +kernel) (pa_cons (pe_slice sl_list (pv 0) (po_some (pv 2)) (po_some (pv 4))) pa_nil)) pa_nil))) pa_nil)))
                (pss_one (ps_set (i := 2) sc_tokens_of.nd rfl (.inl rfl) (pv 4))))))))))))
    (pss_cons (ps_expr (pe_bm PySem.F.plainAttrs_list PySem.F.slot_list_append PySem.F.type_list_append mt_append (pv 1) (pa_cons (pe_tup (pa_cons (pv 2) (pa_cons (pe_tup pa_nil) pa_nil))) pa_nil)))
    (pss_one (ps_ret (pv 1)))))), ?_⟩
    refine ⟨Nat.zero_le _, fun l nl => ?_⟩
    have sk : ∀ {o : HO} {H3 : Hp}, Same H H3 → Same H (upd H3 l o) := fun s3 b' o q' => by
      rw [upd_ne (ne_of_none q' nl)]
      exact s3 b' o q'
    refine while_dir (fun m σ H' => ∃ (p : Nat) (toks : List PM.Tk) (us : List V) (v3 v4 : Option V) (n : Nat), σ = [some (.ref a), some (.ref l), some (.int (p : Int)), v3, v4] ∧ Same H H' ∧ H' l = some (.lst us) ∧ Paired (TokAt H') us toks ∧
        PM.tokensOf t = (PM.lexGo n p (t.drop p)).map (fun r => toks ++ r) ∧ t.length - p + 1 ≤ n ∧ us.length ≤ p ∧ p ≤ t.length ∧ m = t.length - p)
      ⟨_, 0, [], [], none, none, t.length + 1, rfl, same_upd nl, upd_same, .nil, ?_, by omega, Nat.le_refl _, Nat.zero_le _, rfl⟩ ?_
    · unfold PM.tokensOf
      rw [List.drop_zero]
      show PM.lexGo (t.length + 1) 0 t = _
      cases PM.lexGo (t.length + 1) 0 t <;> rfl
    rintro m σ H1 ⟨p, toks, us, v3, v4, n, rfl, s1, el, hp, ew, hn, hul, hpl, rfl⟩
    refine ⟨_, rfl, .ref a, rfl, a, _, rfl, .inl (seqL (s1 _ _ ha)), _, _, rfl, rfl, _, rfl, ?_⟩
    rw [iv_len]
    refine if_b (fun c => ?_) (fun c => ?_)
    · have hi : p < t.length := by have := of_decide_eq_true c; omega
      obtain ⟨b, hb⟩ : ∃ b, t[p]? = some b := ⟨t[p], List.getElem?_eq_getElem hi⟩
      have hd := drop_at hb
      obtain ⟨n, rfl⟩ : ∃ n', n = n' + 1 := ⟨n - 1, by omega⟩
      refine ⟨_, fun _ _ z => z, ?_⟩
      refine ⟨.ref a, rfl, _, rfl, a, _, _, _, rfl, rfl, seqL (s1 _ _ ha), atI_nat (by rw [List.getElem?_map, hb]; rfl), ?_⟩
      refine ⟨.int b, rfl, by show 3 ≤ sizeLine; decide, fun q1 nq1 => ⟨q1, _, rfl, .inr (seqT upd_same), rfl, rfl, _, rfl, ?_⟩⟩
      have hbl : (if false = true then !inV (.int b) [.int 32, .int 9, .int 10] else inV (.int b) [.int 32, .int 9, .int 10]) = PM.isBlank b := by
        exact blank_in b
      rw [hbl]
      have s2 : Same H (upd H1 q1 (.tup [.int 32, .int 9, .int 10])) := s1.new nq1
      have el2 := (same_upd (o := .tup [.int 32, .int 9, .int 10]) nq1) _ _ el
      have hp2 : Paired (TokAt (upd H1 q1 (.tup [.int 32, .int 9, .int 10]))) us toks := paired_mono (fun _ _ z => z.go (Tups.of (same_upd nq1))) hp
      refine if_b (fun hB => ?_) (fun hB => ⟨.int b, rfl, rfl, _, rfl, ?_⟩)
      · refine ⟨_, rfl, _, _, rfl, rfl, t.length - (p + 1), by omega, p + 1, toks, us, _, _, n, rfl, s2, el2, hp2, ?_, by omega, by omega, hi, rfl⟩
        rw [ew, hd, lex_blank hB]
        rfl
      · rw [vint_dec]
        refine if_b (fun h35 => ?_) (fun h35 => ?_)
        · have e35 : b = 35 := of_decide_eq_true h35
          refine ⟨.ref a, rfl, _, rfl, a, t, p, rfl, s2 _ _ ha, ht, ?_⟩
          have hlen : p + ((t.drop p).takeWhile (fun x => decide (x ≠ 10))).length = p + 1 + ((t.drop (p + 1)).takeWhile (fun x => decide (x ≠ 10))).length := tw_yes hb (decide_eq_true (by omega))
          have hle := tw_le (fun x => decide (x ≠ 10)) (t.drop (p + 1))
          rw [List.length_drop] at hle
          refine ⟨t.length - (p + ((t.drop p).takeWhile (fun x => decide (x ≠ 10))).length), by omega, _, toks, us, _, _, n, rfl, s2, el2, hp2, ?_, by omega, by omega, by omega, rfl⟩
          rw [ew, hd, lex_rem hB e35, dw_drop, List.drop_drop, ← hd, hlen]
          congr 2
        · have e35 : ¬ b = 35 := of_decide_eq_false h35
          have hk0 : tokLen b (t.drop (p + 1)) ≤ t.length - p := by
            unfold tokLen
            split
            · omega
            · rw [← hd]
              have := tw_le PM.isChunk (t.drop p)
              rw [List.length_drop] at this
              exact this
          refine ⟨fun σ' H3 => ∃ v3', σ' = [some (.ref a), some (.ref l), some (.int (p : Int)), v3', some (.int ((p + tokLen b (t.drop (p + 1)) : Nat) : Int))] ∧ H3 = upd H1 q1 (.tup [.int 32, .int 9, .int 10]), ?_, ?_⟩
          · refine ⟨.int b, rfl, rfl, _, rfl, ?_⟩
            rw [vint_dec]
            refine if_b (fun h59 => ?_) (fun h59 => ?_)
            · refine ⟨_, rfl, _, _, rfl, rfl, some (.int b), ?_, rfl⟩
              unfold tokLen
              rw [if_pos (of_decide_eq_true h59)]
              rfl
            · refine ⟨.ref a, rfl, _, rfl, a, t, p, rfl, s2 _ _ ha, ht, some (.int b), ?_, rfl⟩
              unfold tokLen
              rw [if_neg (of_decide_eq_false h59), ← hd]
              rfl
          · rintro σ' H3 ⟨v3', rfl, rfl⟩
            have ew2 := ew
            rw [hd, lex_tok hB e35] at ew2
            have bad : ¬ (1 ≤ tokLen b (t.drop (p + 1)) ∧ tokLen b (t.drop (p + 1)) ≤ 40) → FEnd C (upd H1 q1 (.tup [.int 32, .int 9, .int 10])) E (2, (p : Int)) := fun hb' => by
              rw [if_neg hb'] at ew2
              rw [ew2] at q
              exact FEnd.go q s2
            refine ⟨_, rfl, _, rfl, _, _, rfl, rfl, _, _, rfl, rfl, _, rfl, if_b (fun g1 => ⟨_, _, rfl, rfl, _, rfl, ?_⟩) (fun g1 => ?_)⟩
            · refine if_b (fun g2 => ?_) (fun g2 => ?_)
              · exact ⟨_, rfl, fault_mk (bad (by have z : ¬ ((p + tokLen b (t.drop (p + 1)) : Nat) : Int) - (p : Int) ≤ 40 := (fun z => by rw [decide_eq_true z] at g2; cases g2); omega))⟩
              · have hk : 1 ≤ tokLen b (t.drop (p + 1)) ∧ tokLen b (t.drop (p + 1)) ≤ 40 := by
                  have z1 := of_decide_eq_true g1
                  have z2 : ((p + tokLen b (t.drop (p + 1)) : Nat) : Int) - (p : Int) ≤ 40 := by simpa using g2
                  omega
                rw [if_pos hk, ← hd] at ew2
                rw [map_more, List.drop_drop] at ew2
                refine ⟨.ref l, rfl, .inl ⟨rfl, _, seqL el2⟩, _, rfl, .ref a, rfl, _, rfl, _, rfl, _, rfl, _, rfl, a, _, rfl, seqL (s2 _ _ ha), fun q2 nq2 => ⟨q2, _, rfl, .inl ⟨seqL upd_same, fun q3 nq3 => ⟨by show 2 ≤ sizeLine; decide, fun q4 nq4 => ?_⟩⟩⟩⟩
                have s3 := (((s2.new nq2).new nq3).new (o := .tup [.int (p : Int), .ref q3]) nq4)
                have el5 := (same_upd (o := .tup [.int (p : Int), .ref q3]) nq4) _ _ ((same_upd (o := .tup (cutV (iv t) (some (p : Int)) (some ((p + tokLen b (t.drop (p + 1)) : Nat) : Int)))) nq3) _ _ ((same_upd (o := .lst (cutV (iv t) (some (p : Int)) (some ((p + tokLen b (t.drop (p + 1)) : Nat) : Int)))) nq2) _ _ el2))
                have hp5 := paired_mono (fun _ _ z => ((z.go (Tups.of (same_upd (o := .lst (cutV (iv t) (some (p : Int)) (some ((p + tokLen b (t.drop (p + 1)) : Nat) : Int)))) nq2))).go (Tups.of (same_upd (o := .tup (cutV (iv t) (some (p : Int)) (some ((p + tokLen b (t.drop (p + 1)) : Nat) : Int)))) nq3))).go (Tups.of (same_upd (o := .tup [.int (p : Int), .ref q3]) nq4))) hp2
                have ecut : cutV (iv t) (some (p : Int)) (some ((p + tokLen b (t.drop (p + 1)) : Nat) : Int)) = iv ((t.drop p).take (tokLen b (t.drop (p + 1)))) := by
                  rw [cutV_iv, cutI_range, Nat.add_sub_cancel_left]
                refine ⟨l, us, _, rfl, rfl, el5, len_lt (by omega), _, rfl, t.length - (p + tokLen b (t.drop (p + 1))), by omega, p + tokLen b (t.drop (p + 1)), toks ++ [((p : Int), (t.drop p).take (tokLen b (t.drop (p + 1))))], us ++ [.ref q4], _, _, n, rfl, sk s3, upd_same, ?_, ?_, by omega, by rw [List.length_append]; show us.length + 1 ≤ _; omega, by omega, rfl⟩
                · refine Paired.snoc (paired_mono (fun _ _ z => z.go (Tups.lst el5)) hp5) ⟨q4, q3, rfl, ?_, ?_⟩
                  · exact (Tups.lst el5).1 _ _ upd_same
                  · refine (Tups.lst el5).1 _ _ ((same_upd nq4) _ _ ?_)
                    rw [upd_same, ecut]
                · rw [ew2, Nat.add_comm p]
                  congr 2
            · exact ⟨_, rfl, if_t rfl ⟨_, rfl, fault_mk (bad (by have := of_decide_eq_false g1; omega))⟩⟩
    · have hpe : p = t.length := by have := of_decide_eq_false c; omega
      have hdn : t.drop p = [] := List.drop_of_length_le (by omega)
      rw [hdn] at ew
      have e0 : PM.lexGo n (p : Int) [] = .ok [((p : Int), [])] := by cases n <;> rfl
      rw [e0] at ew
      rw [ew] at q
      refine ⟨.ref l, rfl, .inl ⟨rfl, _, seqL el⟩, _, rfl, Nat.zero_le _, fun q3 nq3 => ⟨by show 2 ≤ sizeLine; decide, fun q4 nq4 => ?_⟩⟩
      have el5 := (same_upd (o := .tup [.int (p : Int), .ref q3]) nq4) _ _ ((same_upd (o := .tup []) nq3) _ _ el)
      have hp5 := paired_mono (fun _ _ z => (z.go (Tups.of (same_upd (o := .tup []) nq3))).go (Tups.of (same_upd (o := .tup [.int (p : Int), .ref q3]) nq4))) hp
      refine ⟨l, us, _, rfl, rfl, el5, len_lt (by omega), _, rfl, ?_⟩
      refine q _ l (us ++ [.ref q4]) (sk ((s1.new nq3).new nq4)) upd_same ?_
      refine Paired.snoc (paired_mono (fun _ _ z => z.go (Tups.lst el5)) hp5) ⟨q4, q3, rfl, ?_, ?_⟩
      · exact (Tups.lst el5).1 _ _ upd_same
      · exact (Tups.lst el5).1 _ _ ((same_upd nq4) _ _ upd_same)
end
end PR
set_option Elab.async false
set_option linter.all false
set_option maxRecDepth 100000
set_option maxHeartbeats 2000000
/-! # dicts of patterns; the reader -/
namespace PR
open PySem PySem.Spec PyProof.Rows L2
abbrev s_HeldList___init__ : Stmt := inClass (topS 35) 0
theorem sc_HeldList___init__ : FnScope ["self", "left", "right", "words", "patterns"] ["self", "left", "right", "words", "patterns"] (defScope s_HeldList___init__) := ⟨rfl, rfl, rfl, by decide +kernel, rfl, by decide +kernel, by decide +kernel⟩
abbrev s_Reader___init__ : Stmt := inClass (topS 36) 0
theorem sc_Reader___init__ : FnScope ["self", "tokens"] ["self", "tokens"] (defScope s_Reader___init__) := ⟨rfl, rfl, rfl, by decide +kernel, rfl, by decide +kernel, by decide +kernel⟩
abbrev s_Reader_where : Stmt := inClass (topS 36) 1
theorem sc_Reader_where : FnScope ["self"] ["self"] (defScope s_Reader_where) := ⟨rfl, rfl, rfl, by decide +kernel, rfl, by decide +kernel, by decide +kernel⟩
abbrev s_Reader_is_at : Stmt := inClass (topS 36) 2
theorem sc_Reader_is_at : FnScope ["self", "word"] ["self", "word"] (defScope s_Reader_is_at) := ⟨rfl, rfl, rfl, by decide +kernel, rfl, by decide +kernel, by decide +kernel⟩
abbrev s_Reader_pass_over : Stmt := inClass (topS 36) 3
theorem sc_Reader_pass_over : FnScope ["self", "word"] ["self", "word"] (defScope s_Reader_pass_over) := ⟨rfl, rfl, rfl, by decide +kernel, rfl, by decide +kernel, by decide +kernel⟩
abbrev s_Reader_take_chunk : Stmt := inClass (topS 36) 4
theorem sc_Reader_take_chunk : FnScope ["self", "chunk"] ["self"] (defScope s_Reader_take_chunk) := ⟨rfl, rfl, rfl, by decide +kernel, rfl, by decide +kernel, by decide +kernel⟩
abbrev s_read_margin : Stmt := topS 38
theorem sc_read_margin : FnScope ["reader", "place", "margin"] ["reader"] (defScope s_read_margin) := ⟨rfl, rfl, rfl, by decide +kernel, rfl, by decide +kernel, by decide +kernel⟩
/-! ### dicts whose keys are tuples of whole numbers and whose values are such tuples -/
theorem hu_of8 {k : Nat} {A : Around} (hr : Room k A) : A.units + 8 < cLine := by have := hr.units; omega
theorem hu_of9 {k : Nat} {A : Around} (hr : Room k A) : A.units + 1 + 8 < cLine := by have := hr.units; omega
def EntAt (fz : Bool) (H : Hp) (q : GQ) (e : PM.Ns × PM.Ns) : Prop := q.1 = tk e.1 ∧ KO fz H q.2.1 e.1 ∧ ∃ b, q.2.2 = .ref b ∧ Rd H b (.tup (iv e.2))
theorem EntAt.go {fz : Bool} {H H' : Hp} {q : GQ} {e : PM.Ns × PM.Ns} (h : EntAt fz H q e) (t : Tups H H') : EntAt fz H' q e := by
  obtain ⟨e1, e0, b, e2, e3⟩ := h
  exact ⟨e1, t.ko e0, b, e2, t.rd e3⟩
def DictAt (w : World) (fz : Bool) (H : Hp) (d : Addr) (dict : PM.Dict) : Prop := ∃ qs, H d = some (gdO w d qs) ∧ Paired (EntAt fz H) qs dict
theorem DictAt.go {w : World} {fz : Bool} {H H' : Hp} {d : Addr} {dict : PM.Dict} (h : DictAt w fz H d dict) (s : ∀ qs, H d = some (gdO w d qs) → H' d = some (gdO w d qs)) (t : Tups H H') : DictAt w fz H' d dict := by
  obtain ⟨qs, e1, e2⟩ := h
  exact ⟨qs, s _ e1, paired_mono (fun _ _ z => z.go t) e2⟩
theorem DictAt.same {w : World} {fz : Bool} {H H' : Hp} {d : Addr} {dict : PM.Dict} (h : DictAt w fz H d dict) (s : Same H H') : DictAt w fz H' d dict := h.go (fun _ e => s _ _ e) (Tups.of s)
theorem gd_no_tup {w : World} {d : Addr} {qs : List GQ} {ys : List V} : gdO w d qs ≠ .tup ys := fun z => by unfold gdO at z; cases z
theorem gd_no_frz {w : World} {d : Addr} {qs : List GQ} {od : Obj} {u : HO} : gdO w d qs ≠ .frz od u := fun z => by unfold gdO at z; cases z
theorem gd_no_lst {w : World} {d : Addr} {qs : List GQ} {ys : List V} : gdO w d qs ≠ .lst ys := fun z => by unfold gdO at z; cases z
theorem gd_no_ins {w : World} {d : Addr} {qs : List GQ} {C dx : Addr} {fs : List (Str × V)} : gdO w d qs ≠ .ins C dx fs := fun z => by unfold gdO at z; cases z
theorem Tups.gd {H : Hp} {d : Addr} {w : World} {qs qs' : List GQ} (e : H d = some (gdO w d qs)) : Tups H (upd H d (gdO w d qs')) := Tups.but But.at e (fun _ => gd_no_tup) (fun _ _ => gd_no_frz)
theorem Tups.ins {H : Hp} {a C dx : Addr} {fs gs : List (Str × V)} (e : H a = some (.ins C dx fs)) : Tups H (upd H a (.ins C dx gs)) := Tups.but But.at e (fun _ z => nomatch z) (fun _ _ z => nomatch z)
theorem KO.key {fz : Bool} {H : Hp} {a : Addr} {ns : PM.Ns} (h : KO fz H a ns) : KAt H a (tk ns) := .inl ⟨ns, rfl, h.rd⟩
theorem dict_keys {fz : Bool} {H : Hp} : ∀ {qs : List GQ} {dict : PM.Dict}, Paired (EntAt fz H) qs dict → ∀ q ∈ qs, KAt H q.2.1 q.1
  | _, _, .nil, _, hq => nomatch hq
  | _, _, .cons r t, q, hq => by
    rcases List.mem_cons.mp hq with z | z
    · rw [z, r.1]
      exact r.2.1.key
    · exact dict_keys t q z
theorem dict_get {fz : Bool} {H : Hp} : ∀ {qs : List GQ} {dict : PM.Dict}, Paired (EntAt fz H) qs dict → ∀ k, match PM.dget dict k with
    | none => atG qs (tk k) = none
    | some v => ∃ b, atG qs (tk k) = some (.ref b) ∧ Rd H b (.tup (iv v))
  | _, _, .nil, k => rfl
  | _, _, .cons (a := q) (b := e) r t, k => by
    obtain ⟨e1, e0, b, e2, e3⟩ := r
    have ih := dict_get t k
    unfold PM.dget atG at *
    rw [List.find?_cons, List.find?_cons, e1]
    by_cases h : e.1 = k
    · subst h
      simp only [decide_true]
      exact ⟨b, congrArg some e2, e3⟩
    · have h2 : ¬ tk e.1 = tk k := fun z => h (tk_inj z)
      simp only [h, h2, decide_false]
      exact ih
theorem dict_isSome {fz : Bool} {H : Hp} {qs : List GQ} {dict : PM.Dict} (p : Paired (EntAt fz H) qs dict) (k : PM.Ns) : (atG qs (tk k)).isSome = (PM.dget dict k).isSome := by
  have h := dict_get p k
  cases e : PM.dget dict k with
  | none => rw [e] at h; rw [show atG qs (tk k) = none from h]; rfl
  | some v => rw [e] at h; obtain ⟨b, h1, _⟩ := h; rw [h1]; rfl
theorem dict_any {fz : Bool} {H : Hp} : ∀ {qs : List GQ} {dict : PM.Dict}, Paired (EntAt fz H) qs dict → ∀ k, (qs.any fun q => decide (q.1 = tk k)) = dict.any fun e => decide (e.1 = k)
  | _, _, .nil, k => rfl
  | _, _, .cons (a := q) (b := e) r t, k => by
    rw [List.any_cons, List.any_cons, r.1, dict_any t k]
    congr 1
    exact decide_eq_decide.mpr ⟨fun z => tk_inj z, fun z => by rw [z]⟩
theorem dict_map {fz : Bool} {H : Hp} {k v : PM.Ns} {b : Addr} (e : Rd H b (.tup (iv v))) : ∀ {qs : List GQ} {dict : PM.Dict}, Paired (EntAt fz H) qs dict →
    Paired (EntAt fz H) (qs.map fun q => if q.1 = tk k then (q.1, q.2.1, V.ref b) else q) (dict.map fun e => if e.1 = k then (e.1, v) else e)
  | _, _, .nil => .nil
  | _, _, .cons (a := q) (b := en) r t => by
    rw [List.map_cons, List.map_cons]
    refine .cons ?_ (dict_map e t)
    by_cases h : en.1 = k
    · rw [if_pos h, if_pos (by rw [r.1, h])]
      exact ⟨r.1, r.2.1, b, rfl, e⟩
    · rw [if_neg (fun z => h (tk_inj (r.1.symm.trans z))), if_neg h]
      exact r
theorem dict_put {fz : Bool} {H : Hp} {qs : List GQ} {dict : PM.Dict} (p : Paired (EntAt fz H) qs dict) {k v : PM.Ns} {a b : Addr} (ka : KO fz H a k) (e : Rd H b (.tup (iv v))) : Paired (EntAt fz H) (putG qs (tk k) a (.ref b)) (PM.dput dict k v) := by
  unfold putG PM.dput
  rw [dict_any p k]
  split
  · exact dict_map e p
  · exact Paired.snoc p ⟨rfl, ka, b, rfl, e⟩
theorem dput_len {A B : Type} [DecidableEq A] (d : List (A × B)) (k : A) (v : B) : (PM.dput d k v).length ≤ d.length + 1 := by
  unfold PM.dput
  split
  · rw [List.length_map]; omega
  · rw [List.length_append]; exact Nat.le_refl _
/-! ### all but one object stands -/
theorem But.refl {a : Addr} {H : Hp} : But a H H := fun _ _ _ e => e
theorem But.of {a : Addr} {H H' : Hp} (s : Same H H') : But a H H' := fun b o _ e => s b o e
theorem But.trans {a : Addr} {A B C : Hp} (h : But a A B) (g : But a B C) : But a A C := fun b o n e => g b o n (h b o n e)
theorem But.new {a : Addr} {H0 H H' : Hp} (s : Same H0 H) (n : H0 a = none) (b : But a H H') : Same H0 H' := fun c o e => b c o (fun z => by rw [z, n] at e; cases e) (s c o e)
theorem But.tups {a C dx : Addr} {H H' : Hp} {fs : List (Str × V)} (b : But a H H') (e : H a = some (.ins C dx fs)) : Tups H H' := Tups.but b e (fun _ z => nomatch z) (fun _ _ z => nomatch z)
def FEndB (r C : Addr) (H : Hp) (E : XK) (f : PM.Flt) : Prop := ∀ d fs H', But r H H' → H' d = some (.xd fs) → List.lookup ("code" : Str) fs = some (V.int f.1) → List.lookup ("place" : Str) fs = some (V.int f.2) → E (.ref C) (some d) H'
theorem FEndB.go {r C : Addr} {H H' : Hp} {E : XK} {f : PM.Flt} (h : FEndB r C H E f) (s : But r H H') : FEndB r C H' E f := fun d fs H2 s2 => h d fs H2 (s.trans s2)
theorem FEndB.here {r C : Addr} {H : Hp} {E : XK} {f : PM.Flt} (h : FEndB r C H E f) : FEnd C H E f := fun d fs H2 s2 => h d fs H2 (But.of s2)
/-! ### the reader in the heap -/
def EndsOk (rest : List PM.Tk) : Prop := (∃ i p, rest = i ++ [(p, [])]) ∧ ∀ tk ∈ rest, tk.2.length ≤ 100000
def rdF (l : Addr) (i : Nat) : List (Str × V) := [(("tokens" : Str), .ref l), (("spot" : Str), .int (i : Int))]
def RdAt (C : Addr) (H : Hp) (r : Addr) (rest : List PM.Tk) : Prop := ∃ dx l us i, H r = some (.ins C dx (rdF l i)) ∧ H l = some (.lst us) ∧ us.length ≤ 200000 ∧ Paired (TokAt H) (us.drop i) rest ∧ EndsOk rest
theorem RdAt.same {C : Addr} {H H' : Hp} {r : Addr} {rest : List PM.Tk} (h : RdAt C H r rest) (s : Same H H') : RdAt C H' r rest := by
  obtain ⟨dx, l, us, i, h1, h2, h3, h4, h5⟩ := h
  exact ⟨dx, l, us, i, s _ _ h1, s _ _ h2, h3, paired_mono (fun _ _ z => z.go (Tups.of s)) h4, h5⟩
theorem rdF_tokens (l : Addr) (i : Nat) : (rdF l i).lookup ("tokens" : Str) = some (.ref l) := lookup_here
theorem rdF_spot (l : Addr) (i : Nat) : (rdF l i).lookup ("spot" : Str) = some (.int (i : Int)) := lookup_past (by decide +kernel)
theorem rdF_put (l : Addr) (i : Nat) : putF "spot" (.int ((i : Int) + 1)) (rdF l i) = rdF l (i + 1) := rfl
theorem lookup_none1 {f g : Str} {u : V} {r : List (Str × V)} (h : (f == g) = false) (h2 : List.lookup f r = none) : List.lookup f ((g, u) :: r) = none := by
  simp only [List.lookup, h, h2]
theorem rdF_no (l : Addr) (i : Nat) {m : Str} (h1 : (m == ("tokens" : Str)) = false) (h2 : (m == ("spot" : Str)) = false) : (rdF l i).lookup m = none := lookup_none1 h1 (lookup_none1 h2 rfl)
/-- the token at the spot -/
theorem rd_head {C : Addr} {H : Hp} {us : List V} {i : Nat} {rest : List PM.Tk} (h4 : Paired (TokAt H) (us.drop i) rest) (h5 : EndsOk rest) : ∃ a c tk r, us[i]? = some (.ref a) ∧ H a = some (.tup [.int tk.1, .ref c]) ∧ H c = some (.tup (iv tk.2)) ∧ rest = tk :: r ∧ Paired (TokAt H) (us.drop (i + 1)) r := by
  obtain ⟨⟨ini, p, e⟩, _⟩ := h5
  have hne : rest ≠ [] := by rw [e]; simp
  cases h : us.drop i with
  | nil =>
    rw [h] at h4
    cases h4
    exact absurd rfl hne
  | cons v vr =>
    rw [h] at h4
    cases h4 with
    | @cons _ tk _ r hv hr =>
      obtain ⟨a, c, e1, e2, e3⟩ := hv
      have hi : us[i]? = some v := by
        have := congrArg (fun z => z[0]?) h
        simpa using this
      refine ⟨a, c, tk, r, by rw [hi, e1], e2, e3, rfl, ?_⟩
      rw [show us.drop (i + 1) = vr from by rw [← List.tail_drop, h]; rfl]
      exact hr
theorem ends_tail {tk : PM.Tk} {r : List PM.Tk} (h : EndsOk (tk :: r)) (hc : tk.2 ≠ []) : EndsOk r := by
  obtain ⟨⟨ini, p, e⟩, h2⟩ := h
  refine ⟨?_, fun t ht => h2 t (List.mem_cons_of_mem _ ht)⟩
  cases ini with
  | nil =>
    injection e with e1 e2
    rw [e1] at hc
    exact absurd rfl hc
  | cons x xs =>
    injection e with e1 e2
    exact ⟨xs, p, e2⟩
theorem rd_next {C : Addr} {H : Hp} {dx l r : Addr} {us : List V} {i : Nat} {tk : PM.Tk} {rest : List PM.Tk} (h1 : H r = some (.ins C dx (rdF l i))) (h2 : H l = some (.lst us)) (h3 : us.length ≤ 200000)
    (h4 : Paired (TokAt H) (us.drop (i + 1)) rest) (h5 : EndsOk (tk :: rest)) (hc : tk.2 ≠ []) : RdAt C (upd H r (.ins C dx (rdF l (i + 1)))) r rest :=
  ⟨dx, l, us, i + 1, upd_same, by rw [upd_ne (fun z => by rw [z, h1] at h2; cases h2)]; exact h2, h3, paired_mono (fun _ _ z => z.go (Tups.ins h1)) h4, ends_tail h5 hc⟩
theorem take_err {tk : PM.Tk} {r : List PM.Tk} (h : tk.2 = [] ∨ tk.2 = [59]) : PM.takeChunk (tk :: r) = .error (3, PM.here (tk :: r)) := if_pos h
theorem take_ok {tk : PM.Tk} {r : List PM.Tk} (h : ¬ (tk.2 = [] ∨ tk.2 = [59])) : PM.takeChunk (tk :: r) = .ok (tk.2, r) := if_neg h
theorem rm_err {l : List PM.Tk} {f : PM.Flt} (h : PM.takeChunk l = .error f) : PM.readMargin l = .error f := by
  unfold PM.readMargin
  rw [h]
theorem rm_none {l r : List PM.Tk} {c : PM.Ns} (h : PM.takeChunk l = .ok (c, r)) (h2 : PM.marginOf c = none) : PM.readMargin l = .error (7, PM.here l) := by
  unfold PM.readMargin
  rw [h]
  simp only [h2]
theorem rm_some {l r : List PM.Tk} {c : PM.Ns} {m : Int} (h : PM.takeChunk l = .ok (c, r)) (h2 : PM.marginOf c = some m) : PM.readMargin l = .ok (m, r) := by
  unfold PM.readMargin
  rw [h]
  simp only [h2]
/-- what the top says of Reader -/
structure RdT (K : PySem.W.Frag) (mg : Str → Option Value) (C : Addr) : Prop where
  cl : Cls K C
  nT : NoAttr K C "tokens"
  nS : NoAttr K C "spot"
  g : mg "Reader" = some (.ref C)
/-! ### promises -/
def spRdInit (C : Addr) : Sp := fun vs H Q _ => ∃ (r dx l : Addr), vs = [.ref r, .ref l] ∧ H r = some (.ins C dx []) ∧ Q .non (upd (upd H r (.ins C dx [(("tokens" : Str), .ref l)])) r (.ins C dx (rdF l 0)))
def spWhere (C : Addr) : Sp := fun vs H Q _ => ∃ (r : Addr) (rest : List PM.Tk), vs = [.ref r] ∧ RdAt C H r rest ∧ Q (.int (PM.here rest)) H
def spIsAt (C : Addr) : Sp := fun vs H Q _ => ∃ (r : Addr) (rest : List PM.Tk) (z : Str), vs = [.ref r, .str z] ∧ RdAt C H r rest ∧ z.cps.size ≤ 100 ∧ ∀ H', Same H H' → Q (.bl (PM.isAt (codes z) rest)) H'
def spPassOver (C CF : Addr) : Sp := fun vs H Q E => ∃ (r : Addr) (rest : List PM.Tk) (z : Str), vs = [.ref r, .str z] ∧ RdAt C H r rest ∧ z.cps.size ≤ 100 ∧ codes z ≠ [] ∧ (match PM.passOver (codes z) rest with
  | .error f => FEndB r CF H E f
  | .ok rest' => ∀ H', But r H H' → RdAt C H' r rest' → Q .non H')
def spTake (C CF : Addr) : Sp := fun vs H Q E => ∃ (r : Addr) (rest : List PM.Tk), vs = [.ref r] ∧ RdAt C H r rest ∧ (match PM.takeChunk rest with
  | .error f => FEndB r CF H E f
  | .ok (c, rest') => ∀ H' a, But r H H' → RdAt C H' r rest' → H' a = some (.tup (iv c)) → c.length ≤ 100000 → Q (.ref a) H')
def spReadMargin (C CF : Addr) : Sp := fun vs H Q E => ∃ (r : Addr) (rest : List PM.Tk), vs = [.ref r] ∧ RdAt C H r rest ∧ (match PM.readMargin rest with
  | .error f => FEndB r CF H E f
  | .ok (m, rest') => ∀ H', But r H H' → RdAt C H' r rest' → Q (.int m) H')
section
variable {P : Program} {w : World} {K : PySem.W.Frag} {mg : Str → Option Value} {base : Heap} {k : Nat} {f CR : Addr} {fd : FuncData}
theorem ok_Reader___init__ (D : Fun K "__init__" "Reader.__init__" s_Reader___init__ f fd) (TR : RdT K mg CR) (B : Blt mg) :
    FnOk P w K mg base CX0 (k + 1) f fd ["self", "tokens"] (spRdInit CR) := by
  refine D.ok sc_Reader___init__ (fun vs H Q E h => ?_) (fun cdv A outer s H vs Q E hr h => ?_)
  · obtain ⟨r, dx, l, rfl, _⟩ := h; rfl
  · obtain ⟨r, dx, l, rfl, hr0, q⟩ := h
    refine ⟨_, pss_cons (ps_fld (pv 0) (pv 1) rfl)
    (pss_one (ps_fld (pv 0) (pe_int) rfl)), ?_⟩
    refine ⟨.ref l, rfl, .ref r, rfl, r, CR, dx, _, rfl, hr0, TR.cl, TR.nT, (by show 0 < 1000; decide), ?_⟩
    refine ⟨.ref r, rfl, r, CR, dx, _, rfl, upd_same, TR.cl, TR.nS, (by show 1 < 1000; decide), ?_⟩
    exact q
theorem ok_Reader_where (D : Fun K "where" "Reader.where" s_Reader_where f fd) (TR : RdT K mg CR) (B : Blt mg) :
    FnOk P w K mg base CX0 (k + 1) f fd ["self"] (spWhere CR) := by
  refine D.ok sc_Reader_where (fun vs H Q E h => ?_) (fun cdv A outer s H vs Q E hr h => ?_)
  · obtain ⟨r, rest, rfl, _⟩ := h; rfl
  · obtain ⟨r, rest, rfl, hr0, q⟩ := h
    refine ⟨_, pss_one (ps_ret (pe_ix ix_tup (pe_ix ix_list (pe_fld (pv 0) rfl) (pe_fld (pv 0) rfl) (fun _ _ => rfl)) (pe_int) (fun _ _ => rfl))), ?_⟩
    obtain ⟨dx, l, us, i, h1, h2, h3, h4, h5⟩ := hr0
    obtain ⟨a, c, tk, r', e1, e2, e3, e4, e5⟩ := rd_head (C := CR) h4 h5
    refine ⟨.ref r, rfl, r, CR, dx, _, _, rfl, h1, TR.cl, TR.nT, rdF_tokens l i, .ref r, rfl, r, CR, dx, _, _, rfl, h1, TR.cl, TR.nS, rdF_spot l i, l, us, _, _, rfl, rfl, seqL h2, atI_nat e1, a, _, 0, _, rfl, rfl, seqT e2, atI_nat (j := 0) rfl, ?_⟩
    rw [e4] at q
    exact q
theorem ok_Reader_is_at {f_spelled : Addr} {fd_spelled : FuncData} (D : Fun K "is_at" "Reader.is_at" s_Reader_is_at f fd) (TR : RdT K mg CR) (B : Blt mg)
    (D_spelled : Dfn K mg "spelled" s_spelled ["word"] f_spelled fd_spelled) (G_spelled : FnOk P w K mg base CX0 k f_spelled fd_spelled ["word"] spSpelled) :
    FnOk P w K mg base CX0 (k + 1) f fd ["self", "word"] (spIsAt CR) := by
  refine D.ok sc_Reader_is_at (fun vs H Q E h => ?_) (fun cdv A outer s H vs Q E hr h => ?_)
  · obtain ⟨r, rest, z, rfl, _⟩ := h; rfl
  · obtain ⟨r, rest, z, rfl, hr0, hz, q⟩ := h
    refine ⟨_, pss_one (ps_ret (pe_cmpR (op_eqT hr.units) (pe_ix ix_tup (pe_ix ix_list (pe_fld (pv 0) rfl) (pe_fld (pv 0) rfl) (fun _ _ => rfl)) (pe_int) (fun _ _ => rfl)) (pe_call G_spelled hr (by rfl) D_spelled.g D_spelled.F.kp D_spelled.b .nil pass0 (pa_cons (pv 1) pa_nil)) (nomark _))), ?_⟩
    obtain ⟨dx, l, us, i, h1, h2, h3, h4, h5⟩ := hr0
    obtain ⟨a, c, tk, r', e1, e2, e3, e4, e5⟩ := rd_head (C := CR) h4 h5
    refine ⟨.ref r, rfl, r, CR, dx, _, _, rfl, h1, TR.cl, TR.nT, rdF_tokens l i, .ref r, rfl, r, CR, dx, _, _, rfl, h1, TR.cl, TR.nS, rdF_spot l i, l, us, _, _, rfl, rfl, seqL h2, atI_nat e1, a, _, 1, _, rfl, rfl, seqT e2, atI_nat (j := 1) rfl, ?_⟩
    refine ⟨.str z, rfl, z, rfl, hz, fun H' p s' np ep => ⟨c, p, _, _, rfl, rfl, seqT (s' _ _ e3), seqT ep, ?_⟩⟩
    rw [e4] at q
    exact q H' s'
theorem ok_Reader_pass_over {C fF : Addr} {fdF : FuncData} {f_Reader_is_at : Addr} {fd_Reader_is_at : FuncData} {f_Reader_where : Addr} {fd_Reader_where : FuncData} (D : Fun K "pass_over" "Reader.pass_over" s_Reader_pass_over f fd) (TR : RdT K mg CR) (B : Blt mg)
    (D_Reader_is_at : Mth K CR "is_at" "Reader.is_at" s_Reader_is_at ["self", "word"] f_Reader_is_at fd_Reader_is_at) (G_Reader_is_at : FnOk P w K mg base CX0 k f_Reader_is_at fd_Reader_is_at ["self", "word"] (spIsAt CR))
    (D_Reader_where : Mth K CR "where" "Reader.where" s_Reader_where ["self"] f_Reader_where fd_Reader_where) (G_Reader_where : FnOk P w K mg base CX0 k f_Reader_where fd_Reader_where ["self"] (spWhere CR))
    (TF : FaultT K mg C fF fdF) (GF : FnOk P w K mg base CX0 1 fF fdF ["self", "code", "place"] (spFault C)) (hk : 2 ≤ k) :
    FnOk P w K mg base (L2.CX P w) (k + 1) f fd ["self", "word"] (spPassOver CR C) := by
  refine D.okX sc_Reader_pass_over (fun vs H Q E h => ?_) (fun cdv A outer s H vs Q E hr h => ?_)
  · obtain ⟨r, rest, z, rfl, _⟩ := h; rfl
  · obtain ⟨r, rest, z, rfl, hr0, hz, hne, q⟩ := h
    refine ⟨_, pss_cons (ps_if (pt_not (pt_val (pe_meth (pv 0) TR.cl D_Reader_is_at.m G_Reader_is_at hr D_Reader_is_at.b .nil pass0 (pa_cons (pv 1) pa_nil))))
      (pss_one (ps_raise rfl (takes_of rfl rfl rfl rfl) (pmk_oexE TF.T TF.iC TF.tI GF (hr.mono hk) TF.b pass0 rfl TF.g (pa_cons (pe_int) (pa_cons (pe_meth0 (pv 0) TR.cl D_Reader_where.m G_Reader_where hr D_Reader_where.b .nil pass0) pa_nil))))) pss_nil)
    (pss_one (ps_fldaug (pv 0) (pe_int) in_add)), ?_⟩
    obtain ⟨dx, l, us, i, h1, h2, h3, h4, h5⟩ := id hr0
    obtain ⟨a, c, tk, r', e1, e2, e3, e4, e5⟩ := rd_head (C := CR) h4 h5
    refine ⟨.ref r, rfl, r, dx, _, rfl, h1, rdF_no l i (by decide +kernel) (by decide +kernel), .str z, rfl, r, rest, z, rfl, hr0, hz, fun H1 s1 => ⟨_, rfl, if_b (fun g => ?_) (fun g => ?_)⟩⟩
    · refine ⟨.ref r, rfl, r, dx, _, rfl, s1 _ _ h1, rdF_no l i (by decide +kernel) (by decide +kernel), r, rest, rfl, hr0.same s1, fault_mk ?_⟩
      unfold PM.passOver at q
      rw [if_neg (fun z => by rw [z] at g; cases g)] at q
      exact (FEndB.go q (But.of s1)).here
    · have g' : PM.isAt (codes z) rest = true := by simpa using g
      unfold PM.passOver at q
      rw [if_pos g'] at q
      refine ⟨.ref r, rfl, r, CR, dx, _, _, rfl, s1 _ _ h1, TR.cl, TR.nS, rdF_spot l i, _, _, rfl, rfl, dx, _, s1 _ _ h1, (by show 2 < 1000; decide), ?_⟩
      rw [e4] at q g' h5
      refine q _ ((But.of s1).trans But.at) (rd_next (tk := tk) (s1 _ _ h1) (s1 _ _ h2) h3 (paired_mono (fun _ _ z => z.go (Tups.of s1)) e5) h5 fun z0 => hne ?_)
      have : tk.2 = codes z := of_decide_eq_true g'
      rw [← this, z0]
theorem ok_Reader_take_chunk {C fF : Addr} {fdF : FuncData} {f_Reader_where : Addr} {fd_Reader_where : FuncData} (D : Fun K "take_chunk" "Reader.take_chunk" s_Reader_take_chunk f fd) (TR : RdT K mg CR) (B : Blt mg)
    (D_Reader_where : Mth K CR "where" "Reader.where" s_Reader_where ["self"] f_Reader_where fd_Reader_where) (G_Reader_where : FnOk P w K mg base CX0 k f_Reader_where fd_Reader_where ["self"] (spWhere CR))
    (k_SIGN : Kst mg "SIGN" (.int 59))
    (TF : FaultT K mg C fF fdF) (GF : FnOk P w K mg base CX0 1 fF fdF ["self", "code", "place"] (spFault C)) (hk : 2 ≤ k) :
    FnOk P w K mg base (L2.CX P w) (k + 1) f fd ["self"] (spTake CR C) := by
  refine D.okX sc_Reader_take_chunk (fun vs H Q E h => ?_) (fun cdv A outer s H vs Q E hr h => ?_)
  · obtain ⟨r, rest, rfl, _⟩ := h; rfl
  · obtain ⟨r, rest, rfl, hr0, q⟩ := h
    refine ⟨_, pss_cons (ps_set (i := 1) sc_Reader_take_chunk.nd rfl (.inl rfl) (pe_ix ix_tup (pe_ix ix_list (pe_fld (pv 0) rfl) (pe_fld (pv 0) rfl) (fun _ _ => rfl)) (pe_int) (fun _ _ => rfl)))
    (pss_cons (ps_if (pt_cmpR (op_inTT hr.units) (pv 1) (pe_tup (pa_cons (pe_tup pa_nil) (pa_cons (pe_tup (pa_cons (pe_k k_SIGN) pa_nil)) pa_nil))) (by rfl))
      (pss_one (ps_raise rfl (takes_of rfl rfl rfl rfl) (pmk_oexE TF.T TF.iC TF.tI GF (hr.mono hk) TF.b pass0 rfl TF.g (pa_cons (pe_int) (pa_cons (pe_meth0 (pv 0) TR.cl D_Reader_where.m G_Reader_where hr D_Reader_where.b .nil pass0) pa_nil))))) pss_nil)
    (pss_cons (ps_fldaug (pv 0) (pe_int) in_add)
    (pss_one (ps_ret (pv 1))))), ?_⟩
    obtain ⟨dx, l, us, i, h1, h2, h3, h4, h5⟩ := id hr0
    obtain ⟨a, c, tk, r', e1, e2, e3, e4, e5⟩ := rd_head (C := CR) h4 h5
    refine ⟨.ref r, rfl, r, CR, dx, _, _, rfl, h1, TR.cl, TR.nT, rdF_tokens l i, .ref r, rfl, r, CR, dx, _, _, rfl, h1, TR.cl, TR.nS, rdF_spot l i, l, us, _, _, rfl, rfl, seqL h2, atI_nat e1, a, _, 1, _, rfl, rfl, seqT e2, atI_nat (j := 1) rfl, ?_⟩
    refine ⟨.ref c, rfl, Nat.zero_le _, fun p1 n1 => ⟨by show 1 ≤ sizeLine; decide, fun p2 n2 => ⟨by show 2 ≤ sizeLine; decide, fun p3 n3 => ?_⟩⟩⟩
    have s1 : Same H (upd (upd (upd H p1 (.tup [])) p2 (.tup [.int 59])) p3 (.tup [.ref p1, .ref p2])) := ((same_upd n1).new n2).new n3
    refine ⟨c, p3, p1, p2, tk.2, [], [59], rfl, rfl, seqT (s1 _ _ e3), seqT upd_same, seqT ?_, seqT ?_, _, rfl, ?_⟩
    · exact (same_upd n3) _ _ ((same_upd n2) _ _ upd_same)
    · exact (same_upd n3) _ _ upd_same
    rw [← Bool.decide_or]
    rw [e4] at q
    refine if_b (fun g => ?_) (fun g => ?_)
    · refine ⟨.ref r, rfl, r, dx, _, rfl, s1 _ _ h1, rdF_no l i (by decide +kernel) (by decide +kernel), r, rest, rfl, hr0.same s1, fault_mk ?_⟩
      rw [take_err (of_decide_eq_true g)] at q
      rw [e4]
      exact (FEndB.go q (But.of s1)).here
    · have hn := of_decide_eq_false g
      rw [take_ok hn] at q
      refine ⟨.ref r, rfl, r, CR, dx, _, _, rfl, s1 _ _ h1, TR.cl, TR.nS, rdF_spot l i, _, _, rfl, rfl, dx, _, s1 _ _ h1, (by show 2 < 1000; decide), ?_⟩
      rw [e4] at h5
      refine ⟨.ref c, rfl, ?_⟩
      have q' : ∀ H' a, But r H H' → RdAt CR H' r r' → H' a = some (.tup (iv tk.2)) → tk.2.length ≤ 100000 → Q (.ref a) H' := q
      refine q' _ c ((But.of s1).trans But.at) (rd_next (tk := tk) (s1 _ _ h1) (s1 _ _ h2) h3 (paired_mono (fun _ _ z => z.go (Tups.of s1)) e5) h5 fun z0 => hn (.inl z0)) ?_ (h5.2 _ List.mem_cons_self)
      exact (Tups.ins (s1 _ _ h1)).1 _ _ (s1 _ _ e3)
theorem ok_read_margin {C fF : Addr} {fdF : FuncData} {f_Reader_where : Addr} {fd_Reader_where : FuncData} {f_margin_of : Addr} {fd_margin_of : FuncData} {f_Reader_take_chunk : Addr} {fd_Reader_take_chunk : FuncData} (D : Dfn K mg "read_margin" s_read_margin ["reader"] f fd) (B : Blt mg)
    (D_Reader_where : Mth K CR "where" "Reader.where" s_Reader_where ["self"] f_Reader_where fd_Reader_where) (G_Reader_where : FnOk P w K mg base CX0 k f_Reader_where fd_Reader_where ["self"] (spWhere CR))
    (D_margin_of : Dfn K mg "margin_of" s_margin_of ["chunk"] f_margin_of fd_margin_of) (G_margin_of : FnOk P w K mg base CX0 k f_margin_of fd_margin_of ["chunk"] spMargin)
    (D_Reader_take_chunk : Mth K CR "take_chunk" "Reader.take_chunk" s_Reader_take_chunk ["self"] f_Reader_take_chunk fd_Reader_take_chunk) (G_Reader_take_chunk : FnOk P w K mg base (L2.CX P w) k f_Reader_take_chunk fd_Reader_take_chunk ["self"] (spTake CR C)) (TR : RdT K mg CR)
    (TF : FaultT K mg C fF fdF) (GF : FnOk P w K mg base CX0 1 fF fdF ["self", "code", "place"] (spFault C)) (hk : 2 ≤ k) :
    FnOk P w K mg base (L2.CX P w) (k + 1) f fd ["reader"] (spReadMargin CR C) := by
  refine D.F.okX sc_read_margin (fun vs H Q E h => ?_) (fun cdv A outer s H vs Q E hr h => ?_)
  · obtain ⟨r, rest, rfl, _⟩ := h; rfl
  · obtain ⟨r, rest, rfl, hr0, q⟩ := h
    refine ⟨_, pss_cons (ps_set (i := 1) sc_read_margin.nd rfl (.inl rfl) (pe_meth0 (pv 0) TR.cl D_Reader_where.m G_Reader_where hr D_Reader_where.b .nil pass0))
    (pss_cons (ps_set (i := 2) sc_read_margin.nd rfl (.inl rfl) (pe_call G_margin_of hr (by rfl) D_margin_of.g D_margin_of.F.kp D_margin_of.b .nil pass0 (pa_cons (pe_meth0 (pv 0) TR.cl D_Reader_take_chunk.m G_Reader_take_chunk hr D_Reader_take_chunk.b .nil (passes_call (takes_of rfl rfl rfl rfl) (fun _ _ _ _ z => z))) pa_nil)))
    (pss_cons (ps_if (pt_cmpR op_isN (pv 2) (pe_non) (nomark _))
      (pss_one (ps_raise rfl (takes_of rfl rfl rfl rfl) (pmk_oexE TF.T TF.iC TF.tI GF (hr.mono hk) TF.b pass0 rfl TF.g (pa_cons (pe_int) (pa_cons (pv 1) pa_nil))))) pss_nil)
    (pss_one (ps_ret (pv 2))))), ?_⟩
    obtain ⟨dx, l, us, i, h1, h2, h3, h4, h5⟩ := id hr0
    refine ⟨.ref r, rfl, r, dx, _, rfl, h1, rdF_no l i (by decide +kernel) (by decide +kernel), r, rest, rfl, hr0, ?_⟩
    refine ⟨.ref r, rfl, r, dx, _, rfl, h1, rdF_no l i (by decide +kernel) (by decide +kernel), r, rest, rfl, hr0, ?_⟩
    cases ht : PM.takeChunk rest with
    | error f =>
      rw [rm_err ht] at q
      exact q
    | ok cr =>
      obtain ⟨c, rest'⟩ := cr
      intro H1 a b1 r1 ea hc
      refine ⟨a, c, rfl, ea, ?_⟩
      cases hm : PM.marginOf c with
      | none =>
        refine ⟨.non, rfl, rfl, _, rfl, if_t rfl ?_⟩
        refine ⟨_, rfl, fault_mk ?_⟩
        rw [rm_none ht hm] at q
        exact (FEndB.go q b1).here
      | some m =>
        refine ⟨.int m, rfl, rfl, _, rfl, if_f rfl ?_⟩
        rw [rm_some ht hm] at q
        exact ⟨_, rfl, q H1 b1 r1⟩
end
end PR
set_option Elab.async false
set_option linter.all false
set_option maxRecDepth 100000
set_option maxHeartbeats 2000000
/-! # read_named, list_of -/
namespace PR
open PySem PySem.Spec PyProof.Rows L2
abbrev s_read_named : Stmt := topS 39
theorem sc_read_named : FnScope ["reader", "name", "most", "read_as", "known", "place", "told"] ["reader", "name", "most", "read_as"] (defScope s_read_named) := ⟨rfl, rfl, rfl, by decide +kernel, rfl, by decide +kernel, by decide +kernel⟩
abbrev s_list_of : Stmt := topS 37
theorem sc_list_of : FnScope ["text", "reader", "left", "right", "words", "patterns"] ["text"] (defScope s_list_of) := ⟨rfl, rfl, rfl, by decide +kernel, rfl, by decide +kernel, by decide +kernel⟩
theorem rn_stop {w : PM.Ns} {most n : Nat} {as : PM.Ns → Option (PM.Ns × PM.Ns)} {known : PM.Dict} {l : List PM.Tk} (h : PM.isAt w l = false) : PM.readNamed w most as (n + 1) known l = .ok (known, l) := if_neg (by rw [h]; exact Bool.false_ne_true)
theorem rn_full {w : PM.Ns} {most n : Nat} {as : PM.Ns → Option (PM.Ns × PM.Ns)} {known : PM.Dict} {l : List PM.Tk} (h : PM.isAt w l = true) (h2 : known.length = most) : PM.readNamed w most as (n + 1) known l = .error (4, PM.here l) := (if_pos h).trans (if_pos h2)
theorem rn_err {w : PM.Ns} {most n : Nat} {as : PM.Ns → Option (PM.Ns × PM.Ns)} {known : PM.Dict} {l : List PM.Tk} {f : PM.Flt} (h : PM.isAt w l = true) (h2 : ¬ known.length = most) (h3 : PM.readOne as known l.tail = .error f) : PM.readNamed w most as (n + 1) known l = .error f := by
  refine ((if_pos h).trans (if_neg h2)).trans ?_
  rw [h3]
theorem rn_ok {w : PM.Ns} {most n : Nat} {as : PM.Ns → Option (PM.Ns × PM.Ns)} {known k2 : PM.Dict} {l r : List PM.Tk} (h : PM.isAt w l = true) (h2 : ¬ known.length = most) (h3 : PM.readOne as known l.tail = .ok (k2, r)) : PM.readNamed w most as (n + 1) known l = PM.readNamed w most as n k2 r := by
  refine ((if_pos h).trans (if_neg h2)).trans ?_
  rw [h3]
section
variable {as : PM.Ns → Option (PM.Ns × PM.Ns)} {known : PM.Dict} {l r r2 : List PM.Tk} {f : PM.Flt} {c k v : PM.Ns}
theorem ro_take (h : PM.takeChunk l = .error f) : PM.readOne as known l = .error f := by
  unfold PM.readOne
  rw [h]
theorem ro_none (h : PM.takeChunk l = .ok (c, r)) (h2 : as c = none) : PM.readOne as known l = .error (7, PM.here l) := by
  unfold PM.readOne
  rw [h]
  simp only [h2]
theorem ro_dup (h : PM.takeChunk l = .ok (c, r)) (h2 : as c = some (k, v)) (h3 : (PM.dget known k).isSome = true) : PM.readOne as known l = .error (5, PM.here l) := by
  unfold PM.readOne
  rw [h]
  simp only [h2]
  rw [if_pos h3]
theorem ro_sign (h : PM.takeChunk l = .ok (c, r)) (h2 : as c = some (k, v)) (h3 : (PM.dget known k).isSome = false) (h4 : PM.passOver [59] r = .error f) : PM.readOne as known l = .error f := by
  unfold PM.readOne
  rw [h]
  simp only [h2]
  rw [if_neg (by rw [h3]; exact Bool.false_ne_true), h4]
theorem ro_ok (h : PM.takeChunk l = .ok (c, r)) (h2 : as c = some (k, v)) (h3 : (PM.dget known k).isSome = false) (h4 : PM.passOver [59] r = .ok r2) : PM.readOne as known l = .ok (PM.dput known k v, r2) := by
  unfold PM.readOne
  rw [h]
  simp only [h2]
  rw [if_neg (by rw [h3]; exact Bool.false_ne_true), h4]
end
theorem take_len {l r : List PM.Tk} {c : PM.Ns} (h : PM.takeChunk l = .ok (c, r)) : r = l.tail := by
  unfold PM.takeChunk at h
  split at h
  · cases h
  · injection h with h
    injection h with h1 h2
    exact h2.symm
theorem pass_len {w : PM.Ns} {l r : List PM.Tk} (h : PM.passOver w l = .ok r) : r = l.tail := by
  unfold PM.passOver at h
  split at h
  · injection h with h
    exact h.symm
  · cases h
theorem RdAt.ne {C : Addr} {H : Hp} {r : Addr} {rest : List PM.Tk} (h : RdAt C H r rest) : rest ≠ [] := by
  obtain ⟨dx, l, us, i, h1, h2, h3, h4, ⟨ini, p, e⟩, _⟩ := h
  rw [e]
  simp
theorem RdAt.at_ {C : Addr} {H : Hp} {r : Addr} {rest : List PM.Tk} (h : RdAt C H r rest) : ∃ dx l i, H r = some (.ins C dx (rdF l i)) := by
  obtain ⟨dx, l, us, i, h1, _⟩ := h
  exact ⟨dx, l, i, h1⟩
theorem RdAt.gd {C : Addr} {H : Hp} {r d : Addr} {rest : List PM.Tk} {w : World} {xs ys : List GQ} (h : RdAt C H r rest) (e : H d = some (gdO w d xs)) : RdAt C (upd H d (gdO w d ys)) r rest := by
  obtain ⟨dx, l, us, i, h1, h2, h3, h4, h5⟩ := h
  exact ⟨dx, l, us, i, by rw [upd_ne (fun z => by rw [z, e] at h1; exact gd_no_ins (Option.some.inj h1))]; exact h1, by rw [upd_ne (fun z => by rw [z, e] at h2; exact gd_no_lst (Option.some.inj h2))]; exact h2, h3, paired_mono (fun _ _ z => z.go (Tups.gd e)) h4, h5⟩
theorem DictAt.but {w : World} {fz : Bool} {C : Addr} {H H' : Hp} {r d dx : Addr} {fs : List (Str × V)} {dict : PM.Dict} (h : DictAt w fz H d dict) (b : But r H H') (e : H r = some (.ins C dx fs)) : DictAt w fz H' d dict :=
  h.go (fun qs e2 => b _ _ (fun z => by rw [z, e] at e2; exact gd_no_ins (Option.some.inj e2).symm) e2) (b.tups e)
theorem But.upd {r d : Addr} {H H1 : Hp} {o : HO} (b : But r H H1) (n : H d = none) : But r H (upd H1 d o) := fun c u hc e => by
  rw [upd_ne (ne_of_none e n)]
  exact b c u hc e
def spReadNamed (w : World) (S : Addr → Option Sp) (C CF : Addr) : Sp := fun vs H Q E => ∃ (r g : Addr) (rest : List PM.Tk) (z : Str) (most : Nat) (fz : Bool) (as : PM.Ns → Option (PM.Ns × PM.Ns)), vs = [.ref r, .str z, .int (most : Int), .ref g] ∧ RdAt C H r rest ∧ rest.length ≤ 200000 ∧ z.cps.size ≤ 100 ∧ codes z ≠ [] ∧ S g = some (spAs fz as) ∧
  (match PM.readNamed (codes z) most as rest.length [] rest with
  | .error f => FEndB r CF H E f
  | .ok (dict, rest') => ∀ H' d, But r H H' → DictAt w fz H' d dict → RdAt C H' r rest' → rest'.length ≤ 200000 → Q (.ref d) H')
theorem codes_sign : codes (";" : Str) = [59] := by decide +kernel
section
variable {P : Program} {w : World} {K : PySem.W.Frag} {mg : Str → Option Value} {base : Heap} {k : Nat} {f CR : Addr} {S : Addr → Option Sp} {fd : FuncData}
theorem ok_read_named {C fF : Addr} {fdF : FuncData} {f_Reader_is_at : Addr} {fd_Reader_is_at : FuncData} {f_Reader_where : Addr} {fd_Reader_where : FuncData} {f_Reader_pass_over : Addr} {fd_Reader_pass_over : FuncData} {f_Reader_take_chunk : Addr} {fd_Reader_take_chunk : FuncData} (D : Dfn K mg "read_named" s_read_named ["reader", "name", "most", "read_as"] f fd) (B : Blt mg)
    (D_Reader_is_at : Mth K CR "is_at" "Reader.is_at" s_Reader_is_at ["self", "word"] f_Reader_is_at fd_Reader_is_at) (G_Reader_is_at : FnOk P w K mg base CX0 k f_Reader_is_at fd_Reader_is_at ["self", "word"] (spIsAt CR))
    (D_Reader_where : Mth K CR "where" "Reader.where" s_Reader_where ["self"] f_Reader_where fd_Reader_where) (G_Reader_where : FnOk P w K mg base CX0 k f_Reader_where fd_Reader_where ["self"] (spWhere CR))
    (D_Reader_pass_over : Mth K CR "pass_over" "Reader.pass_over" s_Reader_pass_over ["self", "word"] f_Reader_pass_over fd_Reader_pass_over) (G_Reader_pass_over : FnOk P w K mg base (L2.CX P w) k f_Reader_pass_over fd_Reader_pass_over ["self", "word"] (spPassOver CR C))
    (D_Reader_take_chunk : Mth K CR "take_chunk" "Reader.take_chunk" s_Reader_take_chunk ["self"] f_Reader_take_chunk fd_Reader_take_chunk) (G_Reader_take_chunk : FnOk P w K mg base (L2.CX P w) k f_Reader_take_chunk fd_Reader_take_chunk ["self"] (spTake CR C)) (TR : RdT K mg CR) (AS : ∀ g sp, S g = some sp → L2.Held P w K mg base k g sp)
    (TF : FaultT K mg C fF fdF) (GF : FnOk P w K mg base CX0 1 fF fdF ["self", "code", "place"] (spFault C)) (hk : 2 ≤ k) :
    FnOk P w K mg base (L2.CX P w) (k + 1) f fd ["reader", "name", "most", "read_as"] (spReadNamed w S CR C) := by
  refine D.F.okX sc_read_named (fun vs H Q E h => ?_) (fun cdv A outer s H vs Q E hr h => ?_)
  · obtain ⟨r, g, rest, z, most, fz, as, rfl, _⟩ := h; rfl
  · obtain ⟨r, g, rest, z, most, fz, as, rfl, hr0, hrl, hz, hcz, hS, q⟩ := h
    refine ⟨_, pss_cons (ps_set (i := 4) sc_read_named.nd rfl (.inl rfl) (pe_gnew))
    (pss_cons (ps_while PassesOwn.leaving (pt_val (pe_meth (pv 0) TR.cl D_Reader_is_at.m G_Reader_is_at hr D_Reader_is_at.b .nil pass0 (pa_cons (pv 1) pa_nil)))
      (pss_cons (ps_if (pt_cmpR op_eq (pe_callB call_len_g (by rfl) B.len (by decide +kernel) (pa_cons (pv 4) pa_nil)) (pv 2) (nomark _))
          (pss_one (ps_raise rfl (takes_of rfl rfl rfl rfl) (pmk_oexE TF.T TF.iC TF.tI GF (hr.mono hk) TF.b pass0 rfl TF.g (pa_cons (pe_int) (pa_cons (pe_meth0 (pv 0) TR.cl D_Reader_where.m G_Reader_where hr D_Reader_where.b .nil pass0) pa_nil))))) pss_nil)
        (pss_cons (ps_expr (pe_meth (pv 0) TR.cl D_Reader_pass_over.m G_Reader_pass_over hr D_Reader_pass_over.b .nil (passes_call (takes_of rfl rfl rfl rfl) (fun _ _ _ _ z => z)) (pa_cons (pv 1) pa_nil)))
        (pss_cons (ps_set (i := 5) sc_read_named.nd rfl (.inl rfl) (pe_meth0 (pv 0) TR.cl D_Reader_where.m G_Reader_where hr D_Reader_where.b .nil pass0))
        (pss_cons (ps_set (i := 6) sc_read_named.nd rfl (.inl rfl) (pe_callF AS hr (pv 3) (pa_cons (pe_meth0 (pv 0) TR.cl D_Reader_take_chunk.m G_Reader_take_chunk hr D_Reader_take_chunk.b .nil (passes_call (takes_of rfl rfl rfl rfl) (fun _ _ _ _ z => z))) pa_nil)))
        (pss_cons (ps_if (pt_cmpR op_isN (pv 6) (pe_non) (nomark _))
          (pss_one (ps_raise rfl (takes_of rfl rfl rfl rfl) (pmk_oexE TF.T TF.iC TF.tI GF (hr.mono hk) TF.b pass0 rfl TF.g (pa_cons (pe_int) (pa_cons (pv 5) pa_nil))))) pss_nil)
        (pss_cons (ps_if (pt_cmp (pc_gin (hu_of9 hr) (pe_ix ix_tup (pv 6) (pe_int) (fun _ _ => rfl)) (pv 4)))
          (pss_one (ps_raise rfl (takes_of rfl rfl rfl rfl) (pmk_oexE TF.T TF.iC TF.tI GF (hr.mono hk) TF.b pass0 rfl TF.g (pa_cons (pe_int) (pa_cons (pv 5) pa_nil))))) pss_nil)
        (pss_cons (ps_gput (hu_of9 hr) (pv 4) (pe_ix ix_tup (pv 6) (pe_int) (fun _ _ => rfl)) (pe_ix ix_tup (pv 6) (pe_int) (fun _ _ => rfl)) rfl)
        (pss_one (ps_expr (pe_meth (pv 0) TR.cl D_Reader_pass_over.m G_Reader_pass_over hr D_Reader_pass_over.b .nil (passes_call (takes_of rfl rfl rfl rfl) (fun _ _ _ _ z => z)) (pa_cons (pe_str) pa_nil))))))))))))
    (pss_one (ps_ret (pv 4)))), ?_⟩
    intro d nd
    have hrd := hr0
    obtain ⟨dx0, l0, i0, hr1⟩ := hr0.at_
    have hdr : d ≠ r := fun z => by rw [z, hr1] at nd; cases nd
    refine while_dir (fun m σ H' => ∃ (known : PM.Dict) (l : List PM.Tk) (n : Nat) (v5 v6 : Option V), σ = [some (.ref r), some (.str z), some (.int (most : Int)), some (.ref g), some (.ref d), v5, v6] ∧ But r H H' ∧ DictAt w fz H' d known ∧ RdAt CR H' r l ∧
        PM.readNamed (codes z) most as rest.length [] rest = PM.readNamed (codes z) most as n known l ∧ l.length ≤ n ∧ known.length + l.length ≤ rest.length ∧ m = l.length)
      ⟨_, [], rest, rest.length, none, none, rfl, But.of (same_upd nd), ⟨[], upd_same, .nil⟩, hr0.same (same_upd nd), rfl, Nat.le_refl _, by simp, rfl⟩ ?_
    rintro m σ H1 ⟨known, l, n, v5, v6, rfl, b1, hD, hR, ew, hn, hkl, rfl⟩
    obtain ⟨dx, lt, i, h1⟩ := hR.at_
    have hne := hR.ne
    have hlp : 0 < l.length := List.length_pos_iff.mpr hne
    obtain ⟨n, rfl⟩ : ∃ n', n = n' + 1 := ⟨n - 1, by omega⟩
    have bad : ∀ f, PM.readNamed (codes z) most as (n + 1) known l = .error f → FEndB r C H E f := fun f e => by
      rw [ew, e] at q
      exact q
    have no : ∀ {m : Str}, (m == ("tokens" : Str)) = false → (m == ("spot" : Str)) = false → ∀ lt i, (rdF lt i).lookup m = none := fun a b lt i => rdF_no lt i a b
    refine ⟨.ref r, rfl, r, dx, _, rfl, h1, no (by decide +kernel) (by decide +kernel) _ _, .str z, rfl, r, l, z, rfl, hR, hz, fun H2 s2 => ⟨_, rfl, if_b (fun g1 => ⟨_, fun _ _ z => z, ?_⟩) (fun g1 => ?_)⟩⟩
    · obtain ⟨kvs, ed, hp⟩ := hD.same s2
      have hR2 := hR.same s2
      have b2 : But r H H2 := b1.trans (But.of s2)
      refine ⟨.ref d, rfl, d, kvs, rfl, .inl ed, dict_keys hp, _, rfl, rfl, _, rfl, ?_⟩
      rw [vint_dec, paired_len hp]
      refine if_b (fun g2 => ?_) (fun g2 => ?_)
      · have e2 : known.length = most := by have := of_decide_eq_true g2; omega
        refine ⟨.ref r, rfl, r, dx, _, rfl, s2 _ _ h1, no (by decide +kernel) (by decide +kernel) _ _, r, l, rfl, hR2, fault_mk ?_⟩
        exact ((bad _ (rn_full g1 e2)).go b2).here
      · have e2 : ¬ known.length = most := by have := of_decide_eq_false g2; omega
        refine ⟨.ref r, rfl, r, dx, _, rfl, s2 _ _ h1, no (by decide +kernel) (by decide +kernel) _ _, .str z, rfl, r, l, z, rfl, hR2, hz, hcz, ?_⟩
        rw [show PM.passOver (codes z) l = .ok l.tail from if_pos g1]
        intro H3 b3 hR3
        obtain ⟨dx3, lt3, i3, h3⟩ := hR3.at_
        refine ⟨.ref r, rfl, r, dx3, _, rfl, h3, no (by decide +kernel) (by decide +kernel) _ _, r, l.tail, rfl, hR3, ?_⟩
        refine ⟨.ref g, rfl, g, _, rfl, hS, .ref r, rfl, r, dx3, _, rfl, h3, no (by decide +kernel) (by decide +kernel) _ _, r, l.tail, rfl, hR3, ?_⟩
        have hD3 : DictAt w fz H3 d known := (hD.same s2).but b3 (s2 _ _ h1)
        have b3' := b2.trans b3
        cases ht : PM.takeChunk l.tail with
        | error f => exact (bad f (rn_err g1 e2 (ro_take ht))).go b3'
        | ok cr =>
          obtain ⟨c, l2⟩ := cr
          intro H4 a b4 hR4 ea hc
          have hD4 : DictAt w fz H4 d known := hD3.but b4 h3
          have b4' := b3'.trans b4
          refine ⟨a, c, rfl, ea, hc, ?_⟩
          cases has : as c with
          | none =>
            intro H5 s5
            refine ⟨.non, rfl, rfl, _, rfl, if_t rfl ⟨_, rfl, fault_mk ?_⟩⟩
            exact ((bad _ (rn_err g1 e2 (ro_none ht has))).go (b4'.trans (But.of s5))).here
          | some kv =>
            obtain ⟨ky, va⟩ := kv
            intro H5 t ka vb s5 et ek ev
            have hD5 := hD4.same s5
            have b5 := b4'.trans (But.of s5)
            obtain ⟨kvs5, ed5, hp5⟩ := hD5
            refine ⟨.ref t, rfl, rfl, _, rfl, if_f rfl ?_⟩
            refine ⟨.ref t, rfl, t, _, 0, _, rfl, rfl, seqT et, atI_nat (j := 0) rfl, .ref d, rfl, d, ka, tk ky, _, rfl, rfl, .inl ed5, dict_keys hp5, ek.key, _, rfl, ?_⟩
            rw [dict_isSome hp5]
            refine if_b (fun g3 => ⟨_, rfl, fault_mk ?_⟩) (fun g3 => ?_)
            · exact ((bad _ (rn_err g1 e2 (ro_dup ht has g3))).go b5).here
            · have hkl5 : kvs5.length ≤ 200000 := by rw [paired_len hp5]; omega
              refine ⟨.ref t, rfl, t, _, 1, _, rfl, rfl, seqT et, atI_nat (j := 1) rfl, .ref d, rfl, .ref t, rfl, t, _, 0, _, rfl, rfl, seqT et, atI_nat (j := 0) rfl, d, ka, tk ky, _, rfl, rfl, ed5, dict_keys hp5, ek.key, len_lt hkl5, ?_⟩
              have hD6 : DictAt w fz (upd H5 d (gdO w d (putG kvs5 (tk ky) ka (.ref vb)))) d (PM.dput known ky va) := ⟨_, upd_same, dict_put (paired_mono (fun _ _ z => z.go (Tups.gd ed5)) hp5) ((Tups.gd ed5).ko ek) ((Tups.gd ed5).rd ev.rd)⟩
              have hR6 : RdAt CR (upd H5 d (gdO w d (putG kvs5 (tk ky) ka (.ref vb)))) r l2 := (hR4.same s5).gd ed5
              obtain ⟨dx6, lt6, i6, h6⟩ := hR6.at_
              have b6 : But r H (upd H5 d (gdO w d (putG kvs5 (tk ky) ka (.ref vb)))) := b5.upd nd
              refine ⟨.ref r, rfl, r, dx6, _, rfl, h6, no (by decide +kernel) (by decide +kernel) _ _, r, l2, ";", rfl, hR6, by decide +kernel, by rw [codes_sign]; exact List.cons_ne_nil _ _, ?_⟩
              rw [codes_sign]
              cases hps : PM.passOver [59] l2 with
              | error f => exact (bad f (rn_err g1 e2 (ro_sign ht has g3 hps))).go b6
              | ok l3 =>
                intro H7 b7 hR7
                have t1 := take_len ht
                have t2 := pass_len hps
                have hl3 : l3.length + 1 ≤ l.length := by
                  rw [t2, t1, List.length_tail, List.length_tail, List.length_tail]
                  omega
                have := dput_len known ky va
                refine ⟨l3.length, by omega, PM.dput known ky va, l3, n, _, _, rfl, b6.trans b7, hD6.but b7 h6, hR7, ?_, by omega, by omega, rfl⟩
                rw [ew, rn_ok g1 e2 (ro_ok ht has g3 hps)]
    · rw [ew, rn_stop g1] at q
      exact ⟨_, rfl, q _ d (b1.trans (But.of s2)) (hD.same s2) (hR.same s2) (by omega)⟩
end
end PR
set_option Elab.async false
set_option linter.all false
set_option maxRecDepth 100000
set_option maxHeartbeats 2000000
/-! # list_of -/
namespace PR
open PySem PySem.Spec PyProof.Rows L2
theorem lex_ends : ∀ (n : Nat) (p : Int) (l : PM.Ns) (toks : List PM.Tk), PM.lexGo n p l = .ok toks → EndsOk toks ∧ toks.length ≤ n + 1
  | 0, p, l, toks, h => by
    injection h with h
    subst h
    refine ⟨⟨⟨[], p, rfl⟩, fun tk ht => ?_⟩, Nat.le_refl _⟩
    rw [List.mem_singleton.mp ht]
    exact Nat.zero_le _
  | n + 1, p, [], toks, h => by
    injection h with h
    subst h
    refine ⟨⟨⟨[], p, rfl⟩, fun tk ht => ?_⟩, by show 1 ≤ _; omega⟩
    rw [List.mem_singleton.mp ht]
    exact Nat.zero_le _
  | n + 1, p, b :: r, toks, h => by
    cases hB : PM.isBlank b with
    | true =>
      rw [lex_blank hB] at h
      have ih := lex_ends n _ _ _ h
      exact ⟨ih.1, by omega⟩
    | false =>
      by_cases h35 : b = 35
      · rw [lex_rem hB h35] at h
        have ih := lex_ends n _ _ _ h
        exact ⟨ih.1, by omega⟩
      · rw [lex_tok hB h35] at h
        by_cases hk : 1 ≤ tokLen b r ∧ tokLen b r ≤ 40
        · rw [if_pos hk] at h
          cases e : PM.lexGo n (p + tokLen b r) ((b :: r).drop (tokLen b r)) with
          | error f => rw [e] at h; cases h
          | ok l' =>
            rw [e] at h
            have h : Except.ok ((p, (b :: r).take (tokLen b r)) :: l') = Except.ok toks := h
            injection h with h
            subst h
            obtain ⟨⟨⟨ini, pp, e1⟩, e2⟩, e3⟩ := lex_ends n _ _ _ e
            refine ⟨⟨⟨(p, (b :: r).take (tokLen b r)) :: ini, pp, by rw [e1]; rfl⟩, fun tk ht => ?_⟩, by rw [List.length_cons]; omega⟩
            rcases List.mem_cons.mp ht with z | z
            · rw [z]
              show ((b :: r).take (tokLen b r)).length ≤ _
              rw [List.length_take]
              omega
            · exact e2 _ z
        · rw [if_neg hk] at h
          cases h
theorem tokens_ends {t : PM.Ns} {toks : List PM.Tk} (h : PM.tokensOf t = .ok toks) : EndsOk toks ∧ toks.length ≤ t.length + 2 := lex_ends _ _ _ _ h
/-! ### the held list -/
def hlF (h : PM.Held) (wd pd : Addr) : List (Str × V) := [(("left" : Str), .int h.left), (("right" : Str), .int h.right), (("words" : Str), .ref wd), (("patterns" : Str), .ref pd)]
def HeldAt (w : World) (C : Addr) (H : Hp) (x : Addr) (h : PM.Held) : Prop := ∃ dx wd pd, H x = some (.ins C dx (hlF h wd pd)) ∧ DictAt w true H wd h.words ∧ DictAt w false H pd h.pats
theorem HeldAt.same {w : World} {C : Addr} {H H' : Hp} {x : Addr} {h : PM.Held} (g : HeldAt w C H x h) (s : Same H H') : HeldAt w C H' x h := by
  obtain ⟨dx, wd, pd, h1, h2, h3⟩ := g
  exact ⟨dx, wd, pd, s _ _ h1, h2.same s, h3.same s⟩
structure HlT (K : PySem.W.Frag) (mg : Str → Option Value) (C : Addr) : Prop where
  cl : Cls K C
  nL : NoAttr K C "left"
  nR : NoAttr K C "right"
  nW : NoAttr K C "words"
  nP : NoAttr K C "patterns"
  g : mg "HeldList" = some (.ref C)
def spHlInit (C : Addr) : Sp := fun vs H Q _ => ∃ (x dx wd pd : Addr) (h : PM.Held), vs = [.ref x, .int h.left, .int h.right, .ref wd, .ref pd] ∧ H x = some (.ins C dx []) ∧ ∀ H', But x H H' → H' x = some (.ins C dx (hlF h wd pd)) → Q .non H'
def spListOf (w : World) (C CF : Addr) : Sp := fun vs H Q E => ∃ (a : Addr) (t : PM.Ns), vs = [.ref a] ∧ H a = some (.lst (iv t)) ∧ t.length ≤ 100000 ∧ (match PM.listOf t with
  | .error f => FEnd CF H E f
  | .ok h => ∀ H' x, Same H H' → HeldAt w C H' x h → Q (.ref x) H')
theorem codes_margins : codes ("margins" : Str) = PM.sMargins := by decide +kernel
theorem codes_word : codes ("word" : Str) = PM.sWord := by decide +kernel
theorem codes_pattern : codes ("pattern" : Str) = PM.sPattern := by decide +kernel
theorem codes_none : codes ("" : Str) = [] := by decide +kernel
theorem FEnd.but {x CF : Addr} {H0 H : Hp} {E : XK} {f : PM.Flt} (h : FEnd CF H0 E f) (s : Same H0 H) (n : H0 x = none) : FEndB x CF H E f := fun d fs H' b => h d fs H' (But.new s n b)
theorem rm_len {l r : List PM.Tk} {m : Int} (h : PM.readMargin l = .ok (m, r)) : r = l.tail := by
  cases ht : PM.takeChunk l with
  | error f =>
    rw [rm_err ht] at h
    cases h
  | ok cr =>
    obtain ⟨c, r'⟩ := cr
    cases hm : PM.marginOf c with
    | none =>
      rw [rm_none ht hm] at h
      cases h
    | some k =>
      rw [rm_some ht hm] at h
      injection h with h
      injection h with h1 h2
      rw [← h2]
      exact take_len ht
section
variable {P : Program} {w : World} {K : PySem.W.Frag} {mg : Str → Option Value} {base : Heap} {k : Nat} {f CR CH : Addr} {S : Addr → Option Sp} {fd : FuncData}
theorem ok_HeldList___init__ (D : Fun K "__init__" "HeldList.__init__" s_HeldList___init__ f fd) (TH : HlT K mg CH) (B : Blt mg) :
    FnOk P w K mg base CX0 (k + 1) f fd ["self", "left", "right", "words", "patterns"] (spHlInit CH) := by
  refine D.ok sc_HeldList___init__ (fun vs H Q E h => ?_) (fun cdv A outer s H vs Q E hr h => ?_)
  · obtain ⟨x, dx, wd, pd, hl, rfl, _⟩ := h; rfl
  · obtain ⟨x, dx, wd, pd, hl, rfl, hx, q⟩ := h
    refine ⟨_, pss_cons (ps_fld (pv 0) (pv 1) rfl)
    (pss_cons (ps_fld (pv 0) (pv 2) rfl)
    (pss_cons (ps_fld (pv 0) (pv 3) rfl)
    (pss_one (ps_fld (pv 0) (pv 4) rfl)))), ?_⟩
    refine ⟨.int hl.left, rfl, .ref x, rfl, x, CH, dx, _, rfl, hx, TH.cl, TH.nL, (by show 0 < 1000; decide), ?_⟩
    refine ⟨.int hl.right, rfl, .ref x, rfl, x, CH, dx, _, rfl, upd_same, TH.cl, TH.nR, (by show 1 < 1000; decide), ?_⟩
    refine ⟨.ref wd, rfl, .ref x, rfl, x, CH, dx, _, rfl, upd_same, TH.cl, TH.nW, (by show 2 < 1000; decide), ?_⟩
    refine ⟨.ref pd, rfl, .ref x, rfl, x, CH, dx, _, rfl, upd_same, TH.cl, TH.nP, (by show 3 < 1000; decide), ?_⟩
    exact q _ (((But.at.trans But.at).trans But.at).trans But.at) upd_same
theorem ok_list_of {C fF : Addr} {fdF : FuncData} {f_tokens_of : Addr} {fd_tokens_of : FuncData} {f_Reader_pass_over : Addr} {fd_Reader_pass_over : FuncData} {f_read_margin : Addr} {fd_read_margin : FuncData} {f_read_named : Addr} {fd_read_named : FuncData} {f_Reader_is_at : Addr} {fd_Reader_is_at : FuncData} {f_Reader_where : Addr} {fd_Reader_where : FuncData} (D : Dfn K mg "list_of" s_list_of ["text"] f fd) (B : Blt mg)
    (D_tokens_of : Dfn K mg "tokens_of" s_tokens_of ["text"] f_tokens_of fd_tokens_of) (G_tokens_of : FnOk P w K mg base (L2.CX P w) k f_tokens_of fd_tokens_of ["text"] (spTokens C))
    (D_Reader_pass_over : Mth K CR "pass_over" "Reader.pass_over" s_Reader_pass_over ["self", "word"] f_Reader_pass_over fd_Reader_pass_over) (G_Reader_pass_over : FnOk P w K mg base (L2.CX P w) k f_Reader_pass_over fd_Reader_pass_over ["self", "word"] (spPassOver CR C))
    (D_read_margin : Dfn K mg "read_margin" s_read_margin ["reader"] f_read_margin fd_read_margin) (G_read_margin : FnOk P w K mg base (L2.CX P w) k f_read_margin fd_read_margin ["reader"] (spReadMargin CR C))
    (D_read_named : Dfn K mg "read_named" s_read_named ["reader", "name", "most", "read_as"] f_read_named fd_read_named) (G_read_named : FnOk P w K mg base (L2.CX P w) k f_read_named fd_read_named ["reader", "name", "most", "read_as"] (spReadNamed w S CR C))
    (D_Reader_is_at : Mth K CR "is_at" "Reader.is_at" s_Reader_is_at ["self", "word"] f_Reader_is_at fd_Reader_is_at) (G_Reader_is_at : FnOk P w K mg base CX0 k f_Reader_is_at fd_Reader_is_at ["self", "word"] (spIsAt CR))
    (D_Reader_where : Mth K CR "where" "Reader.where" s_Reader_where ["self"] f_Reader_where fd_Reader_where) (G_Reader_where : FnOk P w K mg base CX0 k f_Reader_where fd_Reader_where ["self"] (spWhere CR))
    (k_MOST_BYTES : Kst mg "MOST_BYTES" (.int 4096)) (k_MOST_WORDS : Kst mg "MOST_WORDS" (.int 24)) (k_MOST_PATTERNS_lists : Kst mg "MOST_PATTERNS_lists" (.int 40)) (TR : RdT K mg CR) (TH : HlT K mg CH) {fI fH gW gP : Addr} {fdI fdH : FuncData} (MR : Mk K CR fI) (GI : FnOk P w K mg base CX0 1 fI fdI ["self", "tokens"] (spRdInit CR)) (bI : Binds K fdI ["self", "tokens"] [])
    (MH : Mk K CH fH) (GH : FnOk P w K mg base CX0 1 fH fdH ["self", "left", "right", "words", "patterns"] (spHlInit CH)) (bH : Binds K fdH ["self", "left", "right", "words", "patterns"] [])
    (KW : Kst mg "word_of" (.ref gW)) (SW : S gW = some (spAs true PM.wordOf)) (KP : Kst mg "pattern_of" (.ref gP)) (SP : S gP = some (spAs false PM.patternOf))
    (TF : FaultT K mg C fF fdF) (GF : FnOk P w K mg base CX0 1 fF fdF ["self", "code", "place"] (spFault C)) (hk : 2 ≤ k) :
    FnOk P w K mg base (L2.CX P w) (k + 1) f fd ["text"] (spListOf w CH C) := by
  refine D.F.okX sc_list_of (fun vs H Q E h => ?_) (fun cdv A outer s H vs Q E hr h => ?_)
  · obtain ⟨a, t, rfl, _⟩ := h; rfl
  · obtain ⟨a, t, rfl, ha, ht, q⟩ := h
    refine ⟨_, pss_cons (ps_if (pt_cmpR op_gt (pe_callB call_len_seq (by rfl) B.len (by decide +kernel) (pa_cons (pv 0) pa_nil)) (pe_k k_MOST_BYTES) (nomark _))
      (pss_one (ps_raise rfl (takes_of rfl rfl rfl rfl) (pmk_oexE TF.T TF.iC TF.tI GF (hr.mono hk) TF.b pass0 rfl TF.g (pa_cons (pe_int) (pa_cons (pe_k k_MOST_BYTES) pa_nil))))) pss_nil)
    (pss_cons (ps_set (i := 1) sc_list_of.nd rfl (.inl rfl) (pe_make MR GI (hr.mono hk) (by rfl) TR.g bI .nil pass0 (pa_cons (pe_call G_tokens_of hr (by rfl) D_tokens_of.g D_tokens_of.F.kp D_tokens_of.b .nil (passes_call (takes_of rfl rfl rfl rfl) (fun _ _ _ _ z => z)) (pa_cons (pv 0) pa_nil)) pa_nil)))
    (pss_cons (ps_expr (pe_meth (pv 1) TR.cl D_Reader_pass_over.m G_Reader_pass_over hr D_Reader_pass_over.b .nil (passes_call (takes_of rfl rfl rfl rfl) (fun _ _ _ _ z => z)) (pa_cons (pe_str) pa_nil)))
    (pss_cons (ps_set (i := 2) sc_list_of.nd rfl (.inl rfl) (pe_call G_read_margin hr (by rfl) D_read_margin.g D_read_margin.F.kp D_read_margin.b .nil (passes_call (takes_of rfl rfl rfl rfl) (fun _ _ _ _ z => z)) (pa_cons (pv 1) pa_nil)))
    (pss_cons (ps_set (i := 3) sc_list_of.nd rfl (.inl rfl) (pe_call G_read_margin hr (by rfl) D_read_margin.g D_read_margin.F.kp D_read_margin.b .nil (passes_call (takes_of rfl rfl rfl rfl) (fun _ _ _ _ z => z)) (pa_cons (pv 1) pa_nil)))
    (pss_cons (ps_expr (pe_meth (pv 1) TR.cl D_Reader_pass_over.m G_Reader_pass_over hr D_Reader_pass_over.b .nil (passes_call (takes_of rfl rfl rfl rfl) (fun _ _ _ _ z => z)) (pa_cons (pe_str) pa_nil)))
    (pss_cons (ps_set (i := 4) sc_list_of.nd rfl (.inl rfl) (pe_call G_read_named hr (by rfl) D_read_named.g D_read_named.F.kp D_read_named.b .nil (passes_call (takes_of rfl rfl rfl rfl) (fun _ _ _ _ z => z)) (pa_cons (pv 1) (pa_cons (pe_str) (pa_cons (pe_k k_MOST_WORDS) (pa_cons (pe_k KW) pa_nil))))))
    (pss_cons (ps_set (i := 5) sc_list_of.nd rfl (.inl rfl) (pe_call G_read_named hr (by rfl) D_read_named.g D_read_named.F.kp D_read_named.b .nil (passes_call (takes_of rfl rfl rfl rfl) (fun _ _ _ _ z => z)) (pa_cons (pv 1) (pa_cons (pe_str) (pa_cons (pe_k k_MOST_PATTERNS_lists) (pa_cons (pe_k KP) pa_nil))))))
    (pss_cons (ps_if (pt_not (pt_val (pe_meth (pv 1) TR.cl D_Reader_is_at.m G_Reader_is_at hr D_Reader_is_at.b .nil pass0 (pa_cons (pe_str) pa_nil))))
      (pss_one (ps_raise rfl (takes_of rfl rfl rfl rfl) (pmk_oexE TF.T TF.iC TF.tI GF (hr.mono hk) TF.b pass0 rfl TF.g (pa_cons (pe_int) (pa_cons (pe_meth0 (pv 1) TR.cl D_Reader_where.m G_Reader_where hr D_Reader_where.b .nil pass0) pa_nil))))) pss_nil)
    (pss_one (ps_ret (pe_make MH GH (hr.mono hk) (by rfl) TH.g bH .nil pass0 (pa_cons (pv 2) (pa_cons (pv 3) (pa_cons (pv 4) (pa_cons (pv 5) pa_nil))))))))))))))), ?_⟩
    have no : ∀ {m : Str}, (m == ("tokens" : Str)) = false → (m == ("spot" : Str)) = false → ∀ lt i, (rdF lt i).lookup m = none := fun a b lt i => rdF_no lt i a b
    refine ⟨.ref a, rfl, a, _, rfl, .inl (seqL ha), _, _, rfl, rfl, _, rfl, ?_⟩
    rw [iv_len]
    refine if_b (fun g1 => ?_) (fun g1 => ?_)
    · have hb : 4096 < t.length := by have := of_decide_eq_true g1; omega
      refine fault_mk ?_
      have e : PM.listOf t = .error (1, 4096) := if_pos hb
      rw [e] at q
      exact q
    have hb : ¬ 4096 < t.length := by have := of_decide_eq_false g1; omega
    have e0 : PM.listOf t = match PM.tokensOf t with
        | .error f => .error f
        | .ok l => PM.parse l := if_neg hb
    refine ⟨.ref a, rfl, a, t, rfl, ha, ht, ?_⟩
    cases hk0 : PM.tokensOf t with
    | error f =>
      rw [e0, hk0] at q
      exact q
    | ok l =>
      rw [e0, hk0] at q
      replace q : match PM.parse l with
        | .error f => FEnd C H E f
        | .ok h => ∀ H' x, Same H H' → HeldAt w CH H' x h → Q (.ref x) H' := q
      obtain ⟨hends, hlen⟩ := tokens_ends hk0
      intro H1 p us s1 ep hp x dx nx ndx ne
      have nx0 : H x = none := s1.free nx
      refine ⟨x, dx, p, rfl, upd_same, rfl, ?_⟩
      have s2 : Same H (upd (upd (upd (upd H1 dx (.own x)) x (.ins CR dx [])) x (.ins CR dx [(("tokens" : Str), .ref p)])) x (.ins CR dx (rdF p 0))) := fun b o e => by
        have z := s1 _ _ e
        rw [upd_ne (ne_of_none e nx0), upd_ne (ne_of_none e nx0), upd_ne (ne_of_none e nx0), upd_ne (ne_of_none z ndx)]
        exact z
      have s12 : Same H1 (upd (upd (upd (upd H1 dx (.own x)) x (.ins CR dx [])) x (.ins CR dx [(("tokens" : Str), .ref p)])) x (.ins CR dx (rdF p 0))) := fun b o e => by
        rw [upd_ne (ne_of_none e nx), upd_ne (ne_of_none e nx), upd_ne (ne_of_none e nx), upd_ne (ne_of_none e ndx)]
        exact e
      have hR : RdAt CR (upd (upd (upd (upd H1 dx (.own x)) x (.ins CR dx [])) x (.ins CR dx [(("tokens" : Str), .ref p)])) x (.ins CR dx (rdF p 0))) x l :=
        ⟨dx, p, us, 0, upd_same, s12 _ _ ep, by rw [paired_len hp]; omega, by rw [List.drop_zero]; exact paired_mono (fun _ _ z => z.go (Tups.of s12)) hp, hends⟩
      generalize upd (upd (upd (upd H1 dx (.own x)) x (.ins CR dx [])) x (.ins CR dx [(("tokens" : Str), .ref p)])) x (.ins CR dx (rdF p 0)) = H2 at s2 s12 hR
      -- margins
      obtain ⟨d2, l2, i2, h2⟩ := hR.at_
      refine ⟨.ref x, rfl, x, d2, _, rfl, h2, no (by decide +kernel) (by decide +kernel) _ _, x, l, "margins", rfl, hR, by decide +kernel, by rw [codes_margins]; exact List.cons_ne_nil _ _, ?_⟩
      rw [codes_margins]
      unfold PM.parse at q
      cases hk1 : PM.passOver PM.sMargins l with
      | error f =>
        rw [hk1] at q
        exact FEnd.but q s2 nx0
      | ok l1 =>
      rw [hk1] at q
      dsimp only at q
      intro H3 b3 hR3
      have s3 := But.new s2 nx0 b3
      -- left, right
      refine ⟨.ref x, rfl, x, l1, rfl, hR3, ?_⟩
      cases hk2 : PM.readMargin l1 with
      | error f =>
        rw [hk2] at q
        exact FEnd.but q s3 nx0
      | ok r2 =>
      obtain ⟨left, l2'⟩ := r2
      rw [hk2] at q
      dsimp only at q
      intro H4 b4 hR4
      have s4 := But.new s3 nx0 b4
      refine ⟨.ref x, rfl, x, l2', rfl, hR4, ?_⟩
      cases hk3 : PM.readMargin l2' with
      | error f =>
        rw [hk3] at q
        exact FEnd.but q s4 nx0
      | ok r3 =>
      obtain ⟨right, l3⟩ := r3
      rw [hk3] at q
      dsimp only at q
      intro H5 b5 hR5
      have s5 := But.new s4 nx0 b5
      obtain ⟨d5, lt5, i5, h5⟩ := hR5.at_
      refine ⟨.ref x, rfl, x, d5, _, rfl, h5, no (by decide +kernel) (by decide +kernel) _ _, x, l3, ";", rfl, hR5, by decide +kernel, by rw [codes_sign]; exact List.cons_ne_nil _ _, ?_⟩
      rw [codes_sign]
      cases hk4 : PM.passOver [59] l3 with
      | error f =>
        rw [hk4] at q
        exact FEnd.but q s5 nx0
      | ok l4 =>
      rw [hk4] at q
      dsimp only at q
      intro H6 b6 hR6
      have s6 := But.new s5 nx0 b6
      -- words
      have hl4 : l4.length ≤ 200000 := by
        rw [pass_len hk4, rm_len hk3, rm_len hk2, pass_len hk1]
        simp only [List.length_tail]
        omega
      refine ⟨.ref x, rfl, x, gW, l4, "word", 24, true, PM.wordOf, rfl, hR6, hl4, by decide +kernel, by rw [codes_word]; exact List.cons_ne_nil _ _, SW, ?_⟩
      rw [codes_word]
      cases hk5 : PM.readNamed PM.sWord 24 PM.wordOf l4.length [] l4 with
      | error f =>
        rw [hk5] at q
        exact FEnd.but q s6 nx0
      | ok r5 =>
      obtain ⟨ws, l5⟩ := r5
      rw [hk5] at q
      dsimp only at q
      intro H7 wd b7 hD7 hR7 hl5
      have s7 := But.new s6 nx0 b7
      refine ⟨.ref x, rfl, x, gP, l5, "pattern", 40, false, PM.patternOf, rfl, hR7, hl5, by decide +kernel, by rw [codes_pattern]; exact List.cons_ne_nil _ _, SP, ?_⟩
      rw [codes_pattern]
      cases hk6 : PM.readNamed PM.sPattern 40 PM.patternOf l5.length [] l5 with
      | error f =>
        rw [hk6] at q
        exact FEnd.but q s7 nx0
      | ok r6 =>
      obtain ⟨ps, l6⟩ := r6
      rw [hk6] at q
      dsimp only at q
      intro H8 pd b8 hD8 hR8 hl6
      obtain ⟨d7, lt7, i7, h7⟩ := hR7.at_
      have hD8w : DictAt w true H8 wd ws := hD7.but b8 h7
      have s8 := But.new s7 nx0 b8
      obtain ⟨d8, lt8, i8, h8⟩ := hR8.at_
      refine ⟨.ref x, rfl, x, d8, _, rfl, h8, no (by decide +kernel) (by decide +kernel) _ _, x, l6, "", rfl, hR8, by decide +kernel, fun H9 s9 => ⟨_, rfl, ?_⟩⟩
      rw [codes_none]
      have hR9 := hR8.same s9
      refine if_b (fun g2 => ?_) (fun g2 => ?_)
      · refine ⟨.ref x, rfl, x, d8, _, rfl, s9 _ _ h8, no (by decide +kernel) (by decide +kernel) _ _, x, l6, rfl, hR9, fault_mk ?_⟩
        rw [if_neg (fun z => by rw [z] at g2; cases g2)] at q
        exact FEnd.go q (s8.trans s9)
      · have g2' : PM.isAt [] l6 = true := by simpa using g2
        rw [if_pos g2'] at q
        refine ⟨.int left, rfl, .int right, rfl, .ref wd, rfl, .ref pd, rfl, fun y dy ny ndy ney => ?_⟩
        refine ⟨y, dy, wd, pd, ⟨left, right, ws, ps⟩, rfl, upd_same, fun H10 b10 e10 => ⟨rfl, ?_⟩⟩
        have s10 : Same H9 H10 := fun b o e => by
          refine b10 b o (ne_of_none e ny) ?_
          rw [upd_ne (ne_of_none e ny), upd_ne (ne_of_none e ndy)]
          exact e
        exact q H10 y ((s8.trans s9).trans s10) ⟨dy, wd, pd, e10, (hD8w.same s9).same s10, (hD8.same s9).same s10⟩
end
end PR
set_option Elab.async false
set_option linter.all false
set_option maxRecDepth 100000
set_option maxHeartbeats 2000000
/-! # parting: levels -/
namespace PR
open PySem PySem.Spec PyProof.Rows L2
abbrev s_first_gap : Stmt := topS 42
theorem sc_first_gap : FnScope ["begin"] ["begin"] (defScope s_first_gap) := ⟨rfl, rfl, rfl, by decide +kernel, rfl, by decide +kernel, by decide +kernel⟩
abbrev s_raise_levels : Stmt := topS 43
theorem sc_raise_levels : FnScope ["levels", "gap", "digits", "step", "digit"] ["levels", "gap", "digits"] (defScope s_raise_levels) := ⟨rfl, rfl, rfl, by decide +kernel, rfl, by decide +kernel, by decide +kernel⟩
abbrev s_levels_of : Stmt := topS 44
theorem sc_levels_of : FnScope ["row", "patterns", "levels", "begin", "end", "digits"] ["row", "patterns"] (defScope s_levels_of) := ⟨rfl, rfl, rfl, by decide +kernel, rfl, by decide +kernel, by decide +kernel⟩
abbrev s_gaps_within : Stmt := topS 45
theorem sc_gaps_within : FnScope ["row", "left", "right", "letters"] ["row", "left", "right"] (defScope s_gaps_within) := ⟨rfl, rfl, rfl, by decide +kernel, rfl, by decide +kernel, by decide +kernel⟩
abbrev s_inner_gaps : Stmt := topS 46
theorem sc_inner_gaps : FnScope ["held", "row", "patterns", "levels", "gap"] ["held", "row", "patterns"] (defScope s_inner_gaps) := ⟨rfl, rfl, rfl, by decide +kernel, rfl, by decide +kernel, by decide +kernel⟩
theorem walk_rg {lo : Int} {n : Nat} (f : Nat → Int) (h : ∀ j : Nat, lo + (j : Int) = f j) : Walk (Itr lo n) n (fun _ => True) (YFn fun j => V.int (f j)) := by
  have w := walk_range (lo := lo) (n := n)
  rwa [show (fun i : Nat => V.int (lo + (i : Int))) = fun j => V.int (f j) from funext fun j => by rw [h j]] at w
theorem max_if (i j : Int) : (if j > i then j else i) = max i j := by
  rw [Int.max_def]
  split <;> split <;> omega
theorem min_if (i j : Int) : (if j < i then j else i) = min i j := by
  rw [Int.min_def]
  split <;> split <;> omega
def raiseTo (levels : PM.Ns) (gap : Nat) (digits : PM.Ns) (n : Nat) : PM.Ns := (List.range n).foldl (fun l i => l.set (gap + i) (max (l.getD (gap + i) 0) (digits.getD i 0))) levels
theorem raiseTo_succ (levels : PM.Ns) (gap : Nat) (digits : PM.Ns) (n : Nat) : raiseTo levels gap digits (n + 1) = (raiseTo levels gap digits n).set (gap + n) (max ((raiseTo levels gap digits n).getD (gap + n) 0) (digits.getD n 0)) := by
  unfold raiseTo
  rw [List.range_succ, List.foldl_append]
  rfl
theorem raiseTo_len (levels : PM.Ns) (gap : Nat) (digits : PM.Ns) : ∀ n, (raiseTo levels gap digits n).length = levels.length
  | 0 => rfl
  | n + 1 => by rw [raiseTo_succ, List.length_set, raiseTo_len levels gap digits n]
theorem raise_len (levels : PM.Ns) (gap : Nat) (digits : PM.Ns) : (PM.raiseLevels levels gap digits).length = levels.length := raiseTo_len levels gap digits digits.length
def spFirstGap : Sp := fun vs H Q _ => ∃ b : Nat, vs = [.int (b : Int)] ∧ Q (.int ((PM.firstGap b : Nat) : Int)) H
def spRaise : Sp := fun vs H Q _ => ∃ (l t : Addr) (gap : Nat) (levels digits : PM.Ns), vs = [.ref l, .int (gap : Int), .ref t] ∧ H l = some (.lst (iv levels)) ∧ Rd H t (.tup (iv digits)) ∧ gap + digits.length ≤ levels.length ∧
  ∀ H', But l H H' → H' l = some (.lst (iv (PM.raiseLevels levels gap digits))) → Q .non H'
/-- each pattern that fits at a place has its gaps within the row's -/
def LvOk (row : PM.Ns) (pats : PM.Dict) : Prop := ∀ b e ds, b < e → e ≤ row.length → PM.dget pats (PM.cut row b e) = some ds → PM.firstGap b + ds.length ≤ row.length - 1
def lvTo (row : PM.Ns) (pats : PM.Dict) (n : Nat) : PM.Ns := (List.range n).foldl (PM.levelsFrom row pats) (List.replicate (row.length - 1) 0)
def lvIn (row : PM.Ns) (pats : PM.Dict) (b : Nat) (lv : PM.Ns) (n : Nat) : PM.Ns := (List.range n).foldl (PM.levelsAt row pats b) lv
theorem lvTo_succ (row : PM.Ns) (pats : PM.Dict) (n : Nat) : lvTo row pats (n + 1) = lvIn row pats n (lvTo row pats n) (min (n + 8) row.length - n) := by
  unfold lvTo lvIn
  rw [List.range_succ, List.foldl_append]
  rfl
theorem lvIn_succ (row : PM.Ns) (pats : PM.Dict) (b : Nat) (lv : PM.Ns) (n : Nat) : lvIn row pats b lv (n + 1) = PM.levelsAt row pats b (lvIn row pats b lv n) n := by
  unfold lvIn
  rw [List.range_succ, List.foldl_append]
  rfl
theorem lvAt_len (row : PM.Ns) (pats : PM.Dict) (b : Nat) (lv : PM.Ns) (n : Nat) : (PM.levelsAt row pats b lv n).length = lv.length := by
  unfold PM.levelsAt
  split
  · rfl
  · exact raise_len _ _ _
theorem lvIn_len (row : PM.Ns) (pats : PM.Dict) (b : Nat) (lv : PM.Ns) : ∀ n, (lvIn row pats b lv n).length = lv.length
  | 0 => rfl
  | n + 1 => by rw [lvIn_succ, lvAt_len, lvIn_len row pats b lv n]
theorem lvTo_len (row : PM.Ns) (pats : PM.Dict) : ∀ n, (lvTo row pats n).length = row.length - 1
  | 0 => List.length_replicate ..
  | n + 1 => by rw [lvTo_succ, lvIn_len, lvTo_len row pats n]
theorem zeros (k : Nat) : (List.replicate k [V.int 0]).flatten = iv (List.replicate k 0) := by
  induction k with
  | zero => rfl
  | succ k ih =>
    rw [List.replicate_succ, List.replicate_succ, List.flatten_cons, ih]
    rfl
def RDict (w : World) (H : Hp) (d : Addr) (dict : PM.Dict) : Prop := ∃ qs, Rd H d (gdO w d qs) ∧ Paired (EntAt false H) qs dict
theorem DictAt.rd {w : World} {H : Hp} {d : Addr} {dict : PM.Dict} (h : DictAt w false H d dict) : RDict w H d dict := by
  obtain ⟨qs, e1, e2⟩ := h
  exact ⟨qs, .inl e1, e2⟩
theorem RDict.same {w : World} {H H' : Hp} {d : Addr} {dict : PM.Dict} (h : RDict w H d dict) (s : Same H H') : RDict w H' d dict := by
  obtain ⟨qs, e1, e2⟩ := h
  exact ⟨qs, L2.Rd.same e1 s, paired_mono (fun _ _ z => z.go (Tups.of s)) e2⟩
theorem seqR {K : PySem.W.Frag} {H : Hp} {a : Addr} {xs : List V} (h : Rd H a (.tup xs)) : SqT K H a xs := .inl h
theorem slR {K : PySem.W.Frag} {H : Hp} {a : Addr} {c : PM.Ns} {lo hi : Option Int} {Q : VK} (ha : Rd H a (.tup (iv c))) (h : ∀ H' p, Same H H' → Rd H' p (.tup (iv (cutI c lo hi))) → Q (.ref p) H') : rSlA K (.ref a) lo hi H Q := by
  refine ⟨a, _, rfl, seqR ha, fun hw => h H a (Same.refl H) ?_, fun _ p hp => h _ p (same_upd hp) (.inl (by rw [upd_same, cutV_iv]))⟩
  have e : cutI c lo hi = c := by
    unfold cutI
    rw [iv_len] at hw
    rw [hw.1, hw.2, List.drop_zero, Nat.sub_zero]
    exact List.take_length
  rw [e]
  exact ha
def spLevels (w : World) : Sp := fun vs H Q _ => ∃ (r d : Addr) (row : PM.Ns) (pats : PM.Dict), vs = [.ref r, .ref d] ∧ Rd H r (.tup (iv row)) ∧ row.length ≤ 1000 ∧ RDict w H d pats ∧ LvOk row pats ∧
  ∀ H' p, Same H H' → H p = none → H' p = some (.lst (iv (PM.levelsOf row pats))) → Q (.ref p) H'
def spGapsW : Sp := fun vs H Q _ => ∃ (r : Addr) (row : PM.Ns) (a b : Int), vs = [.ref r, .int a, .int b] ∧ Rd H r (.tup (iv row)) ∧ row.length ≤ 1000 ∧ (-1000 ≤ a ∧ a ≤ 1000) ∧ (-1000 ≤ b ∧ b ≤ 1000) ∧
  ∀ H' p, Same H H' → H p = none → H' p = some (.lst (iv (PM.gapsWithin row a b))) → Q (.ref p) H'
def GpAt (H : Hp) (v : V) (g : Int × Bool) : Prop := ∃ a, v = .ref a ∧ H a = some (.tup [.int g.1, .bl g.2])
theorem GpAt.go {H H' : Hp} {v : V} {g : Int × Bool} (h : GpAt H v g) (t : Tups H H') : GpAt H' v g := by
  obtain ⟨a, e1, e2⟩ := h
  exact ⟨a, e1, t.1 _ _ e2⟩
def HlOk (h : PM.Held) : Prop := (-1000 ≤ h.left ∧ h.left ≤ 1000) ∧ (-1000 ≤ h.right ∧ h.right ≤ 1000)
def GrowR {β : Type} (R : Hp → V → β → Prop) (H : Hp) (D : Addr) (out : Nat → List β) (i : Nat) (H' : Hp) : Prop := Same H H' ∧ ∃ us, H' D = some (.lst us) ∧ Paired (R H') us (out i)
section
variable {β : Type} {R : Hp → V → β → Prop} {H H1 H2 : Hp} {D : Addr} {out : Nat → List β} {i : Nat} {y : V} {b : β}
theorem GrowR.start (hD : H D = none) (h0 : out 0 = []) : GrowR R H D out 0 (upd H D (.lst [])) := ⟨same_upd hD, [], upd_same, by rw [h0]; exact .nil⟩
theorem GrowR.yes (mono : ∀ {H H' : Hp} {v : V} {b : β}, R H v b → Tups H H' → R H' v b) (g : GrowR R H D out i H1) (hD : H D = none) (s : Same H1 H2) (hb : R H2 y b) (hl : (out i).length < sizeLine) (e : out (i + 1) = out i ++ [b]) :
    ∃ acc, H2 D = some (.lst acc) ∧ acc.length < sizeLine ∧ GrowR R H D out (i + 1) (upd H2 D (.lst (acc ++ [y]))) := by
  obtain ⟨g1, us, g2, g3⟩ := g
  have e2 := s _ _ g2
  refine ⟨us, e2, by rw [paired_len g3]; exact hl, fun b' o q => ?_, us ++ [y], upd_same, ?_⟩
  · rw [upd_ne (ne_of_none q hD)]
    exact s _ _ (g1 _ _ q)
  · rw [e]
    exact Paired.snoc (paired_mono (fun _ _ z => mono z ((Tups.of s).trans (Tups.lst e2))) g3) (mono hb (Tups.lst e2))
theorem GrowR.no (mono : ∀ {H H' : Hp} {v : V} {b : β}, R H v b → Tups H H' → R H' v b) (g : GrowR R H D out i H1) (s : Same H1 H2) (e : out (i + 1) = out i) : GrowR R H D out (i + 1) H2 := by
  obtain ⟨g1, us, g2, g3⟩ := g
  exact ⟨g1.trans s, us, s _ _ g2, by rw [e]; exact paired_mono (fun _ _ z => mono z (Tups.of s)) g3⟩
end
theorem gw_at {row : PM.Ns} {a b n : Int} {i : Nat} (h : (PM.gapsWithin row a b)[i]? = some n) : n = max a 1 + (i : Int) ∧ n < (row.length : Int) - 1 ∧ 0 ≤ n := by
  unfold PM.gapsWithin at h
  rw [List.getElem?_map] at h
  cases e : (List.range (((row.length : Int) - 2 - max b 1 + 1) - max a 1).toNat)[i]? with
  | none => rw [e] at h; cases h
  | some j =>
    rw [e] at h
    obtain ⟨hi, hj⟩ := List.getElem?_eq_some_iff.mp e
    rw [List.length_range] at hi
    rw [List.getElem_range] at hj
    have h : max a 1 + (j : Int) = n := Option.some.inj h
    omega
theorem gw_len {row : PM.Ns} {a b : Int} : (PM.gapsWithin row a b).length ≤ row.length := by
  unfold PM.gapsWithin
  rw [List.length_map, List.length_range]
  omega
theorem levels_len (row : PM.Ns) (pats : PM.Dict) : (PM.levelsOf row pats).length = row.length - 1 := lvTo_len row pats row.length
def spInner (w : World) (C : Addr) : Sp := fun vs H Q _ => ∃ (x r d : Addr) (h : PM.Held) (row : PM.Ns) (pats : PM.Dict), vs = [.ref x, .ref r, .ref d] ∧ (∃ dx wd pd, H x = some (.ins C dx (hlF h wd pd))) ∧ HlOk h ∧ Rd H r (.tup (iv row)) ∧ row.length ≤ 1000 ∧ RDict w H d pats ∧ LvOk row pats ∧
  ∀ H' p us, Same H H' → H p = none → H' p = some (.lst us) → Paired (GpAt H') us (PM.innerGaps h row pats) → Q (.ref p) H'
theorem hlF_left (h : PM.Held) (wd pd : Addr) : (hlF h wd pd).lookup ("left" : Str) = some (.int h.left) := lookup_here
theorem hlF_right (h : PM.Held) (wd pd : Addr) : (hlF h wd pd).lookup ("right" : Str) = some (.int h.right) := lookup_past (by decide +kernel)
section
variable {P : Program} {w : World} {K : PySem.W.Frag} {mg : Str → Option Value} {base : Heap} {k : Nat} {f CH : Addr} {fd : FuncData}
theorem ok_first_gap (D : Dfn K mg "first_gap" s_first_gap ["begin"] f fd) (B : Blt mg) :
    FnOk P w K mg base CX0 (k + 1) f fd ["begin"] spFirstGap := by
  refine D.F.ok sc_first_gap (fun vs H Q E h => ?_) (fun cdv A outer s H vs Q E hr h => ?_)
  · obtain ⟨b, rfl, _⟩ := h; rfl
  · obtain ⟨b, rfl, q⟩ := h
    refine ⟨_, pss_one (ps_ret (pe_callB (call_max2 rfl) (by rfl) B.max (by decide +kernel) (pa_cons (pe_op op_sub (pv 0) (pe_int)) (pa_cons (pe_int) pa_nil)))), ?_⟩
    refine ⟨_, rfl, _, _, rfl, rfl, _, _, rfl, ?_⟩
    rw [max_if]
    rw [show max ((b : Int) - 1) 0 = ((PM.firstGap b : Nat) : Int) from by unfold PM.firstGap; omega]
    exact q
theorem ok_raise_levels (D : Dfn K mg "raise_levels" s_raise_levels ["levels", "gap", "digits"] f fd) (B : Blt mg) :
    FnOk P w K mg base CX0 (k + 1) f fd ["levels", "gap", "digits"] spRaise := by
  refine D.F.ok sc_raise_levels (fun vs H Q E h => ?_) (fun cdv A outer s H vs Q E hr h => ?_)
  · obtain ⟨l, t, gap, levels, digits, rfl, _⟩ := h; rfl
  · obtain ⟨l, t, gap, levels, digits, rfl, hl, ht, hle, q⟩ := h
    refine ⟨_, pss_one (ps_for PassesOwn.never rfl (pi_enumT (by rfl) B.enumerate (pa_cons (pv 2) pa_nil)) (pg_tup rfl (pgs_cons (pg_name (i := 3) sc_raise_levels.nd rfl (.inl rfl)) (pgs_cons (pg_name (i := 4) sc_raise_levels.nd rfl (.inl rfl)) pgs_nil)))
      (pss_one (ps_asg (pe_callB (call_max2 rfl) (by rfl) B.max (by decide +kernel) (pa_cons (pe_ix ix_list (pv 0) (pe_op op_add (pv 1) (pv 3)) (fun _ _ => rfl)) (pa_cons (pv 4) pa_nil))) (pg_sub (pv 0) (pe_op op_add (pv 1) (pv 3)) set_list)))), ?_⟩
    refine ⟨.ref t, rfl, t, _, rfl, .inl ht, ?_⟩
    refine for_it (walkET (xs := iv digits)) (fun i σ H' => ∃ v3 v4 : Option V, σ = [some (.ref l), some (.int (gap : Int)), some (.ref t), v3, v4] ∧ But l H H' ∧ H' l = some (.lst (iv (raiseTo levels gap digits i))))
      ⟨none, none, rfl, But.refl, hl⟩ (fun i σ H' _ hp => ?_) ?_ ?_
    · obtain ⟨_, _, _, b1, _⟩ := hp
      exact .inl ((Tups.but b1 hl (fun _ z => (nomatch z)) (fun _ _ z => (nomatch z))).rd ht)
    · rintro i x σ H1 H2 hi ⟨v3, v4, rfl, b1, e1⟩ ⟨T, x1, y1, rfl, nT, rfl, hx, hy⟩
      cases hx
      obtain ⟨n, hn, rfl⟩ := iv_get hy
      rw [iv_len] at hi
      have hlen := raiseTo_len levels gap digits i
      have hlt : gap + i < (raiseTo levels gap digits i).length := by omega
      have e2 : upd H1 T (.tup [.int (i : Nat), .int n]) l = some (.lst (iv (raiseTo levels gap digits i))) := (same_upd nT) _ _ e1
      obtain ⟨m, hm⟩ : ∃ m, (raiseTo levels gap digits i)[gap + i]? = some m := ⟨_, List.getElem?_eq_getElem hlt⟩
      have cst : ((gap : Int) + ((i : Nat) : Int)) = ((gap + i : Nat) : Int) := (Int.natCast_add _ _).symm
      refine ⟨T, _, rfl, seqT upd_same, rfl, _, _, rfl, _, _, rfl, rfl, ?_⟩
      refine ⟨.ref l, rfl, _, rfl, _, rfl, _, _, rfl, rfl, l, _, _, .int m, rfl, rfl, seqL e2, ?_, _, rfl, m, n, rfl, ?_⟩
      · rw [cst]
        exact atI_nat (by rw [List.getElem?_map, hm]; rfl)
      refine ⟨.ref l, rfl, _, rfl, _, rfl, _, _, rfl, rfl, l, _, _, gap + i, rfl, rfl, e2, ?_, ?_⟩
      · rw [cst, iv_len]
        unfold ixN
        rw [if_pos (by omega), if_pos (by omega)]
        rfl
      refine ⟨_, _, rfl, (b1.trans (But.of (same_upd nT))).trans But.at, ?_⟩
      rw [upd_same, raiseTo_succ, max_if]
      show some (HO.lst ((iv (raiseTo levels gap digits i)).set (gap + i) (.int (max m n)))) = _
      rw [← List.map_set, List.getD_eq_getElem?_getD, hm, List.getD_eq_getElem?_getD, hn]
      rfl
    · rintro σ H1 ⟨v3, v4, rfl, b1, e1⟩
      rw [iv_len] at e1
      exact q _ b1 e1
theorem ok_levels_of {f_raise_levels : Addr} {fd_raise_levels : FuncData} {f_first_gap : Addr} {fd_first_gap : FuncData} (D : Dfn K mg "levels_of" s_levels_of ["row", "patterns"] f fd) (B : Blt mg)
    (D_raise_levels : Dfn K mg "raise_levels" s_raise_levels ["levels", "gap", "digits"] f_raise_levels fd_raise_levels) (G_raise_levels : FnOk P w K mg base CX0 k f_raise_levels fd_raise_levels ["levels", "gap", "digits"] spRaise)
    (D_first_gap : Dfn K mg "first_gap" s_first_gap ["begin"] f_first_gap fd_first_gap) (G_first_gap : FnOk P w K mg base CX0 k f_first_gap fd_first_gap ["begin"] spFirstGap)
    (k_LONGEST_PIECE : Kst mg "LONGEST_PIECE" (.int 8)) :
    FnOk P w K mg base CX0 (k + 1) f fd ["row", "patterns"] (spLevels w) := by
  refine D.F.ok sc_levels_of (fun vs H Q E h => ?_) (fun cdv A outer s H vs Q E hr h => ?_)
  · obtain ⟨r, d, row, pats, rfl, _⟩ := h; rfl
  · obtain ⟨r, d, row, pats, rfl, hr0, hrl, hD, hlv, q⟩ := h
    refine ⟨_, pss_cons (ps_set (i := 2) sc_levels_of.nd rfl (.inl rfl) (pe_op op_rep (pe_lst (pa_cons (pe_int) pa_nil)) (pe_op op_sub (pe_callB call_len_seq (by rfl) B.len (by decide +kernel) (pa_cons (pv 0) pa_nil)) (pe_int))))
    (pss_cons (ps_for PassesOwn.never rfl (pi_range1 (by rfl) B.range (pa_cons (pe_callB call_len_seq (by rfl) B.len (by decide +kernel) (pa_cons (pv 0) pa_nil)) pa_nil)) (pg_name (i := 3) sc_levels_of.nd rfl (.inl rfl))
      (pss_one (ps_for PassesOwn.never rfl (pi_range2 (by rfl) B.range (pa_cons (pe_op op_add (pv 3) (pe_int)) (pa_cons (pe_op op_add (pe_callB (call_min2 rfl) (by rfl) B.min (by decide +kernel) (pa_cons (pe_op op_add (pv 3) (pe_k k_LONGEST_PIECE)) (pa_cons (pe_callB call_len_seq (by rfl) B.len (by decide +kernel) (pa_cons (pv 0) pa_nil)) pa_nil))) (pe_int)) pa_nil))) (pg_name (i := 4) sc_levels_of.nd rfl (.inl rfl))
          (pss_cons (ps_set (i := 5) sc_levels_of.nd rfl (.inl rfl) (pe_gget1 (hu_of9 hr) (pv 1) (pe_slice sl_tupA (pv 0) (po_some (pv 3)) (po_some (pv 4))) ⟨by rfl, by rfl, by rfl, by rfl⟩))
            (pss_one (ps_if (pt_cmpR op_notN (pv 5) (pe_non) (nomark _))
              (pss_one (ps_expr (pe_call G_raise_levels hr (by rfl) D_raise_levels.g D_raise_levels.F.kp D_raise_levels.b .nil pass0 (pa_cons (pv 2) (pa_cons (pe_call G_first_gap hr (by rfl) D_first_gap.g D_first_gap.F.kp D_first_gap.b .nil pass0 (pa_cons (pv 3) pa_nil)) (pa_cons (pv 5) pa_nil)))))) pss_nil))))))
    (pss_one (ps_ret (pv 2)))), ?_⟩
    refine ⟨by show 1 ≤ sizeLine; decide, fun z nz => ?_⟩
    refine ⟨.ref r, rfl, r, _, rfl, .inr (seqR (L2.Rd.same hr0 (same_upd nz))), _, _, rfl, rfl, z, _, _, rfl, rfl, upd_same, ?_⟩
    rw [iv_len]
    refine ⟨by omega, by omega, small (m := 1000) (by show 1 * _ ≤ _; omega), fun l nl => ?_⟩
    have nl0 : H l = none := (same_upd nz).free nl
    have sk : ∀ {o : HO} {H3 : Hp}, Same H H3 → Same H (upd H3 l o) := fun s3 b' o q' => by
      rw [upd_ne (ne_of_none q' nl0)]
      exact s3 b' o q'
    have s0 : Same H (upd (upd H z (.lst [.int 0])) l (.lst (List.replicate ((row.length : Int) - 1).toNat [V.int 0]).flatten)) := sk (same_upd nz)
    refine ⟨.ref r, rfl, r, _, rfl, .inr (seqR (L2.Rd.same hr0 s0)), _, rfl, by omega, by rw [iv_len]; omega, ?_⟩
    rw [iv_len]
    refine for_it (walk_rg (lo := 0) (n := ((row.length : Int)).toNat) (fun i => (i : Int)) (fun j => Int.zero_add _)) (fun i σ H' => ∃ v3 v4 v5 : Option V, σ = [some (.ref r), some (.ref d), some (.ref l), v3, v4, v5] ∧ Same H H' ∧ H' l = some (.lst (iv (lvTo row pats i))))
      ⟨none, none, none, rfl, s0, ?_⟩ (fun _ _ _ _ _ => True.intro) ?_ ?_
    · rw [upd_same, zeros, show ((row.length : Int) - 1).toNat = row.length - 1 from by omega]
      rfl
    · rintro i x σ H1 H2 hi ⟨v3, v4, v5, rfl, s1, e1⟩ ⟨rfl, rfl⟩
      have hi' : i < row.length := by rw [Int.toNat_natCast] at hi; exact hi
      refine ⟨_, rfl, _, _, rfl, rfl, _, rfl, _, _, rfl, rfl, .ref r, rfl, r, _, rfl, .inr (seqR (L2.Rd.same hr0 s1)), _, _, rfl, ?_⟩
      rw [min_if, iv_len]
      refine ⟨_, _, rfl, rfl, _, _, rfl, ⟨by omega, by omega, by omega, by omega⟩, ?_⟩
      refine for_it (walk_rg (lo := (i : Int) + 1) (n := (min ((i : Int) + 8) (row.length : Int) + 1 - ((i : Int) + 1)).toNat) (fun j => ((i + 1 + j : Nat) : Int)) (fun j => by omega)) (fun j σ H' => ∃ v4 v5 : Option V, σ = [some (.ref r), some (.ref d), some (.ref l), some (.int (i : Int)), v4, v5] ∧ Same H H' ∧ H' l = some (.lst (iv (lvIn row pats i (lvTo row pats i) j))))
        ⟨v4, v5, rfl, s1, e1⟩ (fun _ _ _ _ _ => True.intro) ?_ ?_
      · rintro j x σ H3 H4 hj ⟨v4, v5, rfl, s3, e3⟩ ⟨rfl, rfl⟩
        have hje : i + 1 + j ≤ row.length := by omega
        have hD3 := hD.same s3
        obtain ⟨kvs, ed, hp⟩ := id hD3
        refine ⟨.ref d, rfl, d, kvs, rfl, ed, .ref r, rfl, _, rfl, _, rfl, _, rfl, _, rfl, ?_⟩
        refine slR (L2.Rd.same hr0 s3) fun H5 p s5 ep => ?_
        have ecut : cutI row (some (i : Int)) (some ((i + 1 + j : Nat) : Int)) = PM.cut row i (i + 1 + j) := cutI_range row i (i + 1 + j)
        rw [ecut] at ep
        obtain ⟨kvs5, ed5, hp5⟩ := hD3.same s5
        refine ⟨p, tk (PM.cut row i (i + 1 + j)), kvs5, rfl, ed5, dict_keys hp5, .inl ⟨_, rfl, ep⟩, ?_⟩
        have hget := dict_get hp5 (PM.cut row i (i + 1 + j))
        have s35 := s3.trans s5
        cases hg : PM.dget pats (PM.cut row i (i + 1 + j)) with
        | none =>
          rw [hg] at hget
          rw [show atG kvs5 (tk (PM.cut row i (i + 1 + j))) = none from hget]
          refine ⟨_, rfl, rfl, _, rfl, if_f rfl ⟨_, _, rfl, s35, ?_⟩⟩
          rw [lvIn_succ]
          unfold PM.levelsAt
          rw [show i + 1 + j = i + 1 + j from rfl, hg]
          exact s5 _ _ e3
        | some ds =>
          rw [hg] at hget
          obtain ⟨b, hb1, hb2⟩ := hget
          rw [hb1]
          refine ⟨_, rfl, rfl, _, rfl, if_t rfl ?_⟩
          refine ⟨.ref l, rfl, _, rfl, i, rfl, .ref b, rfl, l, b, PM.firstGap i, _, ds, rfl, s5 _ _ e3, hb2, ?_, fun H6 b6 e6 => ⟨_, _, rfl, ?_, ?_⟩⟩
          · rw [lvIn_len, lvTo_len]
            exact hlv i (i + 1 + j) ds (by omega) hje hg
          · exact fun b' o q' => b6 b' o (ne_of_none q' nl0) (s35 _ _ q')
          · rw [lvIn_succ]
            unfold PM.levelsAt
            rw [hg]
            exact e6
      · rintro σ H3 ⟨v4, v5, rfl, s3, e3⟩
        refine ⟨_, _, _, rfl, s3, ?_⟩
        rw [lvTo_succ]
        rw [show (min ((i : Int) + 8) (row.length : Int) + 1 - ((i : Int) + 1)).toNat = min (i + 8) row.length - i from by omega] at e3
        exact e3
    · rintro σ H1 ⟨v3, v4, v5, rfl, s1, e1⟩
      rw [Int.toNat_natCast] at e1
      exact ⟨_, rfl, q _ l s1 nl0 e1⟩
theorem ok_gaps_within (D : Dfn K mg "gaps_within" s_gaps_within ["row", "left", "right"] f fd) (B : Blt mg) :
    FnOk P w K mg base CX0 (k + 1) f fd ["row", "left", "right"] spGapsW := by
  refine D.F.ok sc_gaps_within (fun vs H Q E h => ?_) (fun cdv A outer s H vs Q E hr h => ?_)
  · obtain ⟨r, row, a, b, rfl, _⟩ := h; rfl
  · obtain ⟨r, row, a, b, rfl, hr0, hrl, hA, hB, q⟩ := h
    refine ⟨_, pss_cons (ps_set (i := 3) sc_gaps_within.nd rfl (.inl rfl) (pe_op op_sub (pe_callB call_len_seq (by rfl) B.len (by decide +kernel) (pa_cons (pv 0) pa_nil)) (pe_int)))
    (pss_one (ps_ret (pe_listRg rfl (by rfl) B.list (prg_2 (by rfl) B.range (pe_callB (call_max2 rfl) (by rfl) B.max (by decide +kernel) (pa_cons (pv 1) (pa_cons (pe_int) pa_nil))) (pe_op op_add (pe_op op_sub (pv 3) (pe_callB (call_max2 rfl) (by rfl) B.max (by decide +kernel) (pa_cons (pv 2) (pa_cons (pe_int) pa_nil)))) (pe_int)))))), ?_⟩
    refine ⟨.ref r, rfl, r, _, rfl, .inr (seqR hr0), _, _, rfl, rfl, ?_⟩
    refine ⟨_, rfl, _, _, rfl, _, rfl, _, rfl, _, _, rfl, _, _, rfl, rfl, _, _, rfl, rfl, _, _, rfl, rfl, ?_⟩
    rw [max_if, max_if, iv_len]
    refine ⟨⟨by omega, by omega, by omega, by omega, by omega⟩, fun p np => q _ p (same_upd np) np ?_⟩
    rw [upd_same]
    unfold rgV PM.gapsWithin
    rw [iv, List.map_map]
    rfl
theorem ok_inner_gaps {f_levels_of : Addr} {fd_levels_of : FuncData} {f_gaps_within : Addr} {fd_gaps_within : FuncData} (D : Dfn K mg "inner_gaps" s_inner_gaps ["held", "row", "patterns"] f fd) (B : Blt mg)
    (D_levels_of : Dfn K mg "levels_of" s_levels_of ["row", "patterns"] f_levels_of fd_levels_of) (G_levels_of : FnOk P w K mg base CX0 k f_levels_of fd_levels_of ["row", "patterns"] (spLevels w))
    (D_gaps_within : Dfn K mg "gaps_within" s_gaps_within ["row", "left", "right"] f_gaps_within fd_gaps_within) (G_gaps_within : FnOk P w K mg base CX0 k f_gaps_within fd_gaps_within ["row", "left", "right"] spGapsW) (TH : HlT K mg CH) :
    FnOk P w K mg base CX0 (k + 1) f fd ["held", "row", "patterns"] (spInner w CH) := by
  refine D.F.ok sc_inner_gaps (fun vs H Q E h => ?_) (fun cdv A outer s H vs Q E hr h => ?_)
  · obtain ⟨x, r, d, h, row, pats, rfl, _⟩ := h; rfl
  · obtain ⟨x, r, d, hl, row, pats, rfl, hx, hok, hr0, hrl, hD, hlv, q⟩ := h
    refine ⟨_, pss_cons (ps_set (i := 3) sc_inner_gaps.nd rfl (.inr rfl) (pe_call G_levels_of hr (by rfl) D_levels_of.g D_levels_of.F.kp D_levels_of.b .nil pass0 (pa_cons (pv 1) (pa_cons (pv 2) pa_nil))))
    (pss_one (ps_ret (pe_lc (own := [("gap", 4)]) (g := gName 4) (tt := tYes) rfl sc_inner_gaps.nd (pi_list (pe_call G_gaps_within hr (by rfl) D_gaps_within.g D_gaps_within.F.kp D_gaps_within.b .nil pass0 (pa_cons (pv 1) (pa_cons (pe_fld (pv 0) rfl) (pa_cons (pe_fld (pv 0) rfl) pa_nil))))) (blkOk_by (own := [("gap", 4)]) (N := ["held", "row", "patterns", "levels", "gap"]) (sc := defScope s_inner_gaps) (by decide +kernel)) (fun _ _ _ _ _ => pg_name (i := 4) sc_inner_gaps.nd rfl (Or.inl rfl)) (fun _ _ _ _ _ => pts_nil) (fun _ _ _ _ _ => pe_tup (pa_cons (pv 4) (pa_cons (pe_cmpR op_eq (pe_op op_mod (pe_ix (show IxR _ (rIxL K) from ix_list) (pv 3) (pv 4) (fun _ _ => rfl)) (pe_int)) (pe_int) (nomark _)) pa_nil)))))), ?_⟩
    obtain ⟨dx, wd, pd, h1⟩ := hx
    refine ⟨.ref r, rfl, .ref d, rfl, r, d, row, pats, rfl, hr0, hrl, hD, hlv, fun H1 l s1 nl e1 => ?_⟩
    refine ⟨.ref r, rfl, .ref x, rfl, x, CH, dx, _, _, rfl, s1 _ _ h1, TH.cl, TH.nL, hlF_left hl wd pd, .ref x, rfl, x, CH, dx, _, _, rfl, s1 _ _ h1, TH.cl, TH.nR, hlF_right hl wd pd, r, row, hl.left, hl.right, rfl, L2.Rd.same hr0 s1, hrl, hok.1, hok.2, fun H2 g s2 ng eg => ?_⟩
    have s12 := s1.trans s2
    refine ⟨g, rfl, ⟨_, seqL eg⟩, fun D' hD' => lc_it (walk_list (xs := iv (PM.gapsWithin row hl.left hl.right))) (GrowR GpAt H2 D' fun i => (PM.innerGaps hl row pats).take i) (GrowR.start hD' rfl) (fun i H' _ hp => seqL (hp.1 _ _ eg)) ?_ ?_⟩
    · rintro i y H3 H4 hi hg ⟨rfl, hy⟩
      obtain ⟨n, hn, rfl⟩ := iv_get hy
      obtain ⟨hn1, hn2, hn3⟩ := gw_at hn
      rw [iv_len] at hi
      have hlt : n.toNat < (PM.levelsOf row pats).length := by rw [levels_len]; omega
      obtain ⟨m, hm⟩ : ∃ m, (PM.levelsOf row pats)[n.toNat]? = some m := ⟨_, List.getElem?_eq_getElem hlt⟩
      have hnn : n = ((n.toNat : Nat) : Int) := by omega
      have s3 := s2.trans hg.1
      have hat : atI (iv (PM.levelsOf row pats)) n = some (.int m) := by
        rw [hnn]
        exact atI_nat (by rw [List.getElem?_map, hm]; rfl)
      refine ⟨rfl, .int n, rfl, .ref l, rfl, .int n, rfl, l, _, _, .int m, rfl, rfl, seqL (s3 _ _ e1), hat, _, _, rfl, rfl, (by show (0 : Int) < 2; decide), rfl, by show 2 ≤ sizeLine; decide, fun t nt => ?_⟩
      refine hg.yes (b := (n, decide (m % 2 = 1))) GpAt.go hD' (same_upd nt) ⟨t, rfl, by rw [upd_same, vint_dec]⟩ ?_ ?_
      · refine len_lt ?_
        rw [List.length_take]
        omega
      · refine take_snoc ?_
        unfold PM.innerGaps
        rw [List.getElem?_map, hn]
        show some (n, decide ((PM.levelsOf row pats).getD n.toNat 0 % 2 = 1)) = some (n, decide (m % 2 = 1))
        rw [List.getD_eq_getElem?_getD, hm]
        rfl
    · rintro H3 ⟨s3, us, e3, p3⟩
      refine q _ D' us (s12.trans s3) (s12.free hD') e3 ?_
      replace p3 : Paired (GpAt H3) us ((PM.innerGaps hl row pats).take (iv (PM.gapsWithin row hl.left hl.right)).length) := p3
      rw [List.take_of_length_le (by unfold PM.innerGaps; rw [List.length_map, iv_len]; exact Nat.le_refl _)] at p3
      exact p3
end
end PR
set_option Elab.async false
set_option linter.all false
set_option maxRecDepth 100000
set_option maxHeartbeats 2000000
/-! # parting: words, score -/
namespace PR
open PySem PySem.Spec PyProof.Rows L2
abbrev s_parted_words : Stmt := topS 47
theorem sc_parted_words : FnScope ["held", "patterns", "words", "row", "marks", "inner", "gap", "parted"] ["held", "patterns"] (defScope s_parted_words) := ⟨rfl, rfl, rfl, by decide +kernel, rfl, by decide +kernel, by decide +kernel⟩
abbrev s_score_of : Stmt := topS 48
theorem sc_score_of : FnScope ["words", "score", "row", "gaps", "hits", "gap", "may", "parted", "faults", "misses", "exact"] ["words"] (defScope s_score_of) := ⟨rfl, rfl, rfl, by decide +kernel, rfl, by decide +kernel, by decide +kernel⟩
theorem paired_get {α β : Type} {R : α → β → Prop} : ∀ {xs : List α} {ys : List β} {i : Nat} {x : α}, Paired R xs ys → xs[i]? = some x → ∃ y, ys[i]? = some y ∧ R x y
  | _, _, 0, _, .cons r _, h => ⟨_, rfl, by cases h; exact r⟩
  | _, _, i + 1, _, .cons _ t, h => paired_get (i := i) t h
theorem flat_iv : ∀ ns : PM.Ns, (iv ns).all flatV = true
  | [] => rfl
  | n :: r => by
    show (flatV (.int n) && (iv r).all flatV) = true
    rw [flat_iv r]
    rfl
theorem lookup_none2 {f g : Str} {u : V} {r : List (Str × V)} (h : (f == g) = false) : List.lookup f ((g, u) :: r) = List.lookup f r := by
  simp only [List.lookup, h]
theorem hlF_words (h : PM.Held) (wd pd : Addr) : (hlF h wd pd).lookup ("words" : Str) = some (.ref wd) := (lookup_none2 (by decide +kernel)).trans ((lookup_none2 (by decide +kernel)).trans lookup_here)
theorem hlF_patterns (h : PM.Held) (wd pd : Addr) : (hlF h wd pd).lookup ("patterns" : Str) = some (.ref pd) := (lookup_none2 (by decide +kernel)).trans ((lookup_none2 (by decide +kernel)).trans ((lookup_none2 (by decide +kernel)).trans lookup_here))
def G3At (H : Hp) (v : V) (g : PM.Gap) : Prop := ∃ a, v = .ref a ∧ H a = some (.tup [.int g.1, .bl g.2.1, .bl g.2.2])
theorem G3At.go {H H' : Hp} {v : V} {g : PM.Gap} (h : G3At H v g) (t : Tups H H') : G3At H' v g := by
  obtain ⟨a, e1, e2⟩ := h
  exact ⟨a, e1, t.1 _ _ e2⟩
/-- a word with its gaps, in the list at D -/
def WdAt (D : Addr) (H : Hp) (v : V) (w : PM.Ns × List PM.Gap) : Prop := ∃ t r l us, v = .ref t ∧ l ≠ D ∧ H t = some (.tup [.ref r, .ref l]) ∧ Nice H r (iv w.1) ∧ H l = some (.lst us) ∧ Paired (G3At H) us w.2
theorem WdAt.but {D : Addr} {H H' : Hp} {v : V} {w : PM.Ns × List PM.Gap} {xs : List V} (h : WdAt D H v w) (b : But D H H') (e : H D = some (.lst xs)) : WdAt D H' v w := by
  obtain ⟨t, r, l, us, e1, e2, e3, e4, e5, e6⟩ := h
  have tp : Tups H H' := Tups.but b e (fun _ z => nomatch z) (fun _ _ z => nomatch z)
  exact ⟨t, r, l, us, e1, e2, tp.1 _ _ e3, tp.nice e4, b _ _ e2 e5, paired_mono (fun _ _ z => z.go tp) e6⟩
theorem WdAt.same {D : Addr} {H H' : Hp} {v : V} {w : PM.Ns × List PM.Gap} (h : WdAt D H v w) (s : Same H H') : WdAt D H' v w := by
  obtain ⟨t, r, l, us, e1, e2, e3, e4, e5, e6⟩ := h
  exact ⟨t, r, l, us, e1, e2, s _ _ e3, e4.same s, s _ _ e5, paired_mono (fun _ _ z => z.go (Tups.of s)) e6⟩
theorem frz_gd {w : World} {d : Addr} {qs : List GQ} {od od' : Obj} {ys : List V} : HO.frz od (gdO w d qs) ≠ .frz od' (.tup ys) := fun z => by
  injection z with _ z
  exact gd_no_tup z
theorem Tups.unlock {H : Hp} {wd d : Addr} {w : World} {qs qs' : List GQ} {od : Obj} (e : H wd = some (.frz od (gdO w d qs))) : Tups H (upd H wd (gdO w d qs')) := Tups.but But.at e (fun _ z => nomatch z) (fun _ _ => frz_gd)
theorem Tups.lock {H : Hp} {wd d : Addr} {w : World} {qs : List GQ} {o : HO} (e : H wd = some (gdO w d qs)) : Tups H (upd H wd o) := Tups.but But.at e (fun _ => gd_no_tup) (fun _ _ => gd_no_frz)
theorem WdAt.unlock {D wd d : Addr} {H : Hp} {v : V} {w : World} {x : PM.Ns × List PM.Gap} {od : Obj} {qs : List GQ} (h : WdAt D H v x) (e : H wd = some (.frz od (gdO w d qs))) : WdAt D (upd H wd (gdO w d qs)) v x := by
  obtain ⟨t, r, l, us, e1, e2, e3, e4, e5, e6⟩ := h
  have tp : Tups H (upd H wd (gdO w d qs)) := Tups.unlock e
  exact ⟨t, r, l, us, e1, e2, tp.1 _ _ e3, tp.nice e4, by rw [upd_ne (fun q => by rw [q, e] at e5; cases e5)]; exact e5, paired_mono (fun _ _ z => z.go tp) e6⟩
theorem unlock {wd : Addr} {H H' : Hp} {od : Obj} {u : HO} (e : H wd = some u) (s : Same (upd H wd (.frz od u)) H') : Same H (upd H' wd u) := fun b o q => by
  by_cases h : b = wd
  · rw [h, upd_same, ← e, ← h, q]
  · rw [upd_ne h]
    exact s b o (by rw [upd_ne h]; exact q)
theorem RDict.lock {w : World} {H : Hp} {wd d : Addr} {dict : PM.Dict} {qs : List GQ} {od : Obj} (h : RDict w H d dict) (e : H wd = some (gdO w wd qs)) : RDict w (upd H wd (.frz od (gdO w wd qs))) d dict := by
  obtain ⟨ks, e1, e2⟩ := h
  have tp : Tups H (upd H wd (.frz od (gdO w wd qs))) := Tups.lock e
  refine ⟨ks, ?_, paired_mono (fun _ _ z => z.go tp) e2⟩
  by_cases hd : d = wd
  · subst hd
    rcases e1 with z | ⟨o, z⟩
    · exact .inr ⟨od, by rw [upd_same]; rw [e] at z; rw [Option.some.inj z]⟩
    · rw [z] at e
      exact absurd (Option.some.inj e).symm gd_no_frz
  · rcases e1 with z | ⟨o, z⟩
    · exact .inl (by rw [upd_ne hd]; exact z)
    · exact .inr ⟨o, by rw [upd_ne hd]; exact z⟩
theorem RDict.but {w : World} {D : Addr} {H H' : Hp} {d : Addr} {dict : PM.Dict} {xs : List V} (h : RDict w H d dict) (b : But D H H') (e : H D = some (.lst xs)) : RDict w H' d dict := by
  obtain ⟨ks, e1, e2⟩ := h
  have tp : Tups H H' := Tups.but b e (fun _ z => nomatch z) (fun _ _ z => nomatch z)
  refine ⟨ks, ?_, paired_mono (fun _ _ z => z.go tp) e2⟩
  rcases e1 with z | ⟨o, z⟩
  · exact .inl (b _ _ (fun q => by rw [q, e] at z; exact gd_no_lst (Option.some.inj z).symm) z)
  · exact .inr ⟨o, b _ _ (fun q => by rw [q, e] at z; cases z) z⟩
theorem gaps_len (h : PM.Held) (row : PM.Ns) (pats : PM.Dict) : (PM.innerGaps h row pats).length ≤ row.length := by
  unfold PM.innerGaps
  rw [List.length_map]
  exact gw_len
def spParted (w : World) (C : Addr) : Sp := fun vs H Q _ => ∃ (x d : Addr) (h : PM.Held) (pats : PM.Dict), vs = [.ref x, .ref d] ∧ HeldAt w C H x h ∧ HlOk h ∧ RDict w H d pats ∧ h.words.length ≤ 1000 ∧ (∀ e ∈ h.words, e.1.length ≤ 1000 ∧ LvOk e.1 pats) ∧
  ∀ H' p us, Same H H' → H p = none → H' p = some (.lst us) → Paired (WdAt p H') us (PM.partedWords h pats) → Q (.ref p) H'
theorem filter_step {α : Type} (p : α → Bool) {c : List α} {i : Nat} {n : α} (h : c[i]? = some n) : (c.take (i + 1)).filter p = if p n = true then (c.take i).filter p ++ [n] else (c.take i).filter p := by
  rw [take_snoc h, List.filter_append]
  by_cases hp : p n = true
  · rw [if_pos hp]
    simp [hp]
  · rw [if_neg hp]
    simp [hp]
def spScoreOf : Sp := fun vs H Q _ => ∃ (p : Addr) (us : List V) (ws : PM.Words), vs = [.ref p] ∧ H p = some (.lst us) ∧ Paired (WdAt p H) us ws ∧ (∀ w ∈ ws, w.2.length ≤ 1000) ∧
  ∀ H' p, Same H H' → H p = none → H' p = some (.lst (iv (PM.scoreOf ws))) → Q (.ref p) H'
section
variable {P : Program} {w : World} {K : PySem.W.Frag} {mg : Str → Option Value} {base : Heap} {k : Nat} {f CH : Addr} {fd : FuncData}
theorem ok_parted_words {f_inner_gaps : Addr} {fd_inner_gaps : FuncData} (D : Dfn K mg "parted_words" s_parted_words ["held", "patterns"] f fd) (B : Blt mg)
    (D_inner_gaps : Dfn K mg "inner_gaps" s_inner_gaps ["held", "row", "patterns"] f_inner_gaps fd_inner_gaps) (G_inner_gaps : FnOk P w K mg base CX0 k f_inner_gaps fd_inner_gaps ["held", "row", "patterns"] (spInner w CH)) (TH : HlT K mg CH) :
    FnOk P w K mg base CX0 (k + 1) f fd ["held", "patterns"] (spParted w CH) := by
  refine D.F.ok sc_parted_words (fun vs H Q E h => ?_) (fun cdv A outer s H vs Q E hr h => ?_)
  · obtain ⟨x, d, h, pats, rfl, _⟩ := h; rfl
  · obtain ⟨x, d, hl, pats, rfl, hx, hok, hD, hwn, hwl, q⟩ := h
    refine ⟨_, pss_cons (ps_set (i := 2) sc_parted_words.nd rfl (.inl rfl) (pe_lst pa_nil))
    (pss_cons (ps_lock (ps_for PassesOwn.never rfl (pi_itemsR (pe_fld (pv 0) rfl)) (pg_tup rfl (pgs_cons (pg_name (i := 3) sc_parted_words.nd rfl (.inl rfl)) (pgs_cons (pg_name (i := 4) sc_parted_words.nd rfl (.inr rfl)) pgs_nil)))
      (pss_cons (ps_set (i := 5) sc_parted_words.nd rfl (.inl rfl) (pe_call G_inner_gaps hr (by rfl) D_inner_gaps.g D_inner_gaps.F.kp D_inner_gaps.b .nil pass0 (pa_cons (pv 0) (pa_cons (pv 3) (pa_cons (pv 1) pa_nil)))))
        (pss_one (ps_expr (pe_bm PySem.F.plainAttrs_list PySem.F.slot_list_append PySem.F.type_list_append mt_append (pv 2) (pa_cons (pe_tup (pa_cons (pv 3) (pa_cons (pe_lc (own := [("gap", 6), ("parted", 7)]) (g := (gTup K 2 (gCons (gName 6) (gCons (gName 7) (gNil))))) (tt := tYes) rfl sc_parted_words.nd (pi_list (pv 5)) (blkOk_by (own := [("gap", 6), ("parted", 7)]) (N := ["held", "patterns", "words", "row", "marks", "inner", "gap", "parted"]) (sc := defScope s_parted_words) (by decide +kernel)) (fun _ _ _ _ _ => pg_tup rfl (pgs_cons (pg_name (i := 6) sc_parted_words.nd rfl (.inl rfl)) (pgs_cons (pg_name (i := 7) sc_parted_words.nd rfl (.inl rfl)) pgs_nil))) (fun _ _ _ _ _ => pts_nil) (fun _ _ _ _ _ => pe_tup (pa_cons (pv 6) (pa_cons (pe_cmpR (show OpR _ (compareOp .In) (rIn K false) from op_in_seq) (pv 6) (pv 4) (by rfl)) (pa_cons (pv 7) pa_nil))))) pa_nil))) pa_nil)))))))
    (pss_one (ps_ret (pv 2)))), ?_⟩
    refine ⟨Nat.zero_le _, fun l nl => ?_⟩
    obtain ⟨dx, wd, pd, h1, ⟨kvs, ew, pw⟩, hP⟩ := id hx
    have s0 : Same H (upd H l (.lst [])) := same_upd nl
    have hlw : l ≠ wd := fun z => by rw [z, ew] at nl; cases nl
    have hlx : x ≠ wd := fun z => by rw [z, ew] at h1; exact gd_no_ins (Option.some.inj h1)
    have hxl : x ≠ l := fun z => by rw [← z, h1] at nl; cases nl
    refine ⟨wd, gdO w wd kvs, s0 _ _ ew, True.intro, fun od => ?_⟩
    have h1' : upd (upd H l (.lst [])) wd (.frz od (gdO w wd kvs)) x = some (.ins CH dx (hlF hl wd pd)) := by
      rw [upd_ne hlx, upd_ne hxl]
      exact h1
    have hD0 : RDict w (upd (upd H l (.lst [])) wd (.frz od (gdO w wd kvs))) d pats := (hD.same s0).lock (s0 _ _ ew)
    have el0 : upd (upd H l (.lst [])) wd (.frz od (gdO w wd kvs)) l = some (.lst []) := by rw [upd_ne hlw, upd_same]
    have tp0 : Tups H (upd (upd H l (.lst [])) wd (.frz od (gdO w wd kvs))) := (Tups.of s0).trans (Tups.lock (s0 _ _ ew))
    refine ⟨.ref x, rfl, x, CH, dx, _, _, rfl, h1', TH.cl, TH.nW, hlF_words hl wd pd, wd, od, gdO w wd kvs, kvs.length, _, rfl, upd_same, rawG, ?_⟩
    have hkl := paired_len pw
    refine for_it walkR (fun i σ H' => ∃ v3 v4 v5 v6 v7 : Option V, σ = [some (.ref x), some (.ref d), some (.ref l), v3, v4, v5, v6, v7] ∧ But l (upd (upd H l (.lst [])) wd (.frz od (gdO w wd kvs))) H' ∧ ∃ us, H' l = some (.lst us) ∧ Paired (WdAt l H') us ((PM.partedWords hl pats).take i))
      ⟨none, none, none, none, none, rfl, But.refl, [], el0, .nil⟩ (fun i σ H' _ hp => ?_) ?_ ?_
    · obtain ⟨_, _, _, _, _, _, b1, _⟩ := hp
      exact b1 _ _ hlw.symm upd_same
    · rintro i y σ H1 H2 hi ⟨v3, v4, v5, v6, v7, rfl, b1, us, el, pu⟩ ⟨T, qr, v, ⟨k, hk⟩, rfl, nT, rfl⟩
      obtain ⟨e, he, he1, hko, b, he2, he3⟩ := paired_get pw hk
      dsimp only at he1 he2 hko
      subst he1 he2
      have hmem : e ∈ hl.words := List.mem_of_getElem? he
      have hw2 := hwl e hmem
      have tpT : Tups (upd (upd H l (.lst [])) wd (.frz od (gdO w wd kvs))) H1 := Tups.but b1 el0 (fun _ z => nomatch z) (fun _ _ z => nomatch z)
      have s2 : Same H1 (upd H1 T (.tup [.ref qr, .ref b])) := same_upd nT
      have b2 := b1.trans (But.of s2)
      refine ⟨T, _, rfl, seqT upd_same, rfl, _, _, rfl, _, _, rfl, rfl, ?_⟩
      have hq2 : Nice H1 qr (iv e.1) := tpT.nice (tp0.nice hko)
      refine ⟨.ref x, rfl, .ref qr, rfl, .ref d, rfl, x, qr, d, hl, e.1, pats, rfl, ⟨dx, wd, pd, b2 _ _ hxl h1'⟩, hok, (hq2.same s2).rd, hw2.1, hD0.but b2 el0, hw2.2, fun H3 g us3 s3 ng eg pg => ?_⟩
      have s13 := s2.trans s3
      refine ⟨.ref l, rfl, .inl ⟨rfl, _, seqL (s13 _ _ el)⟩, .ref qr, rfl, .ref g, rfl, g, rfl, ⟨_, seqL eg⟩, fun D' hD' => ?_⟩
      have hgl := gaps_len hl e.1 pats
      have hgl3 := paired_len pg
      refine lc_it (walk_list (xs := us3)) (GrowR G3At H3 D' fun i => ((PM.partedWord hl pats e).2).take i) (GrowR.start hD' rfl) (fun i H' _ hp => seqL (hp.1 _ _ eg)) ?_ ?_
      · rintro j z H4 H5 hj hg ⟨rfl, hz⟩
        obtain ⟨gp, hgp, a, rfl, ea⟩ := paired_get pg hz
        have hb4 : Rd H5 b (.tup (iv e.2)) := L2.Rd.same (L2.Rd.same (tpT.rd (tp0.rd he3)) s13) hg.1
        refine ⟨a, _, rfl, seqT (hg.1 _ _ ea), rfl, _, _, rfl, _, _, rfl, rfl, rfl, .int gp.1, rfl, .int gp.1, rfl, .ref b, rfl, b, _, rfl, .inr (seqR hb4), rfl, flat_iv _, .bl gp.2, rfl, by show 3 ≤ sizeLine; decide, fun t nt => ?_⟩
        refine hg.yes (b := (gp.1, decide (gp.1 ∈ e.2), gp.2)) G3At.go hD' (same_upd nt) ⟨t, rfl, ?_⟩ ?_ ?_
        · rw [upd_same]
          show some (HO.tup [.int gp.1, .bl (inV (.int gp.1) (iv e.2)), .bl gp.2]) = _
          rw [inV_iv]
        · refine len_lt ?_
          rw [List.length_take]
          omega
        · refine take_snoc ?_
          show ((PM.innerGaps hl e.1 pats).map fun g => (g.1, decide (g.1 ∈ e.2), g.2))[j]? = _
          rw [List.getElem?_map, hgp]
          rfl
      · rintro H4 ⟨s4, us4, e4, p4⟩
        replace p4 : Paired (G3At H4) us4 (((PM.partedWord hl pats e).2).take us3.length) := p4
        rw [List.take_of_length_le (by show ((PM.innerGaps hl e.1 pats).map fun g => (g.1, decide (g.1 ∈ e.2), g.2)).length ≤ _; rw [List.length_map]; omega)] at p4
        refine ⟨by show 2 ≤ sizeLine; decide, fun t nt => ?_⟩
        have s14 := (s13.trans s4)
        have s15 := s14.trans (same_upd (o := .tup [.ref qr, .ref D']) nt)
        have hul := paired_len pu
        rw [List.length_take] at hul
        have hD'l : D' ≠ l := fun z => by rw [z] at hD'; rw [s13 _ _ el] at hD'; cases hD'
        refine ⟨l, us, _, rfl, rfl, s15 _ _ el, len_lt (by omega), ?_⟩
        refine ⟨_, _, _, _, _, rfl, (b1.trans (But.of s15)).trans But.at, us ++ [.ref t], upd_same, ?_⟩
        have he' : (PM.partedWords hl pats)[i]? = some (PM.partedWord hl pats e) := by
          unfold PM.partedWords
          rw [List.getElem?_map, he]
          rfl
        rw [take_snoc he']
        refine Paired.snoc (paired_mono (fun _ _ z => (z.same s15).but But.at (s15 _ _ el)) pu) ?_
        have nt1 := same_upd (o := .tup [.ref qr, .ref D']) nt
        exact WdAt.but (xs := us) ⟨t, qr, D', us4, rfl, hD'l, upd_same, (hq2.same s14).same nt1, nt1 _ _ e4, paired_mono (fun _ _ z => z.go (Tups.of nt1)) p4⟩ But.at (s15 _ _ el)
    · rintro σ H1 ⟨v3, v4, v5, v6, v7, rfl, b1, us, el, pu⟩
      have ewd : H1 wd = some (.frz od (gdO w wd kvs)) := b1 _ _ hlw.symm upd_same
      refine ⟨ewd, .ref l, rfl, q _ l us ?_ nl ?_ ?_⟩
      · intro c o z
        have hcl : c ≠ l := ne_of_none z nl
        by_cases hc : c = wd
        · rw [hc, upd_same, ← ew, ← hc, z]
        · rw [upd_ne hc]
          refine b1 _ _ hcl ?_
          rw [upd_ne hc, upd_ne hcl]
          exact z
      · rw [upd_ne hlw]
        exact el
      · rw [List.take_of_length_le (by unfold PM.partedWords; rw [List.length_map, hkl]; exact Nat.le_refl _)] at pu
        exact paired_mono (fun _ _ z => z.unlock ewd) pu
theorem ok_score_of (D : Dfn K mg "score_of" s_score_of ["words"] f fd) (B : Blt mg) :
    FnOk P w K mg base CX0 (k + 1) f fd ["words"] spScoreOf := by
  refine D.F.ok sc_score_of (fun vs H Q E h => ?_) (fun cdv A outer s H vs Q E hr h => ?_)
  · obtain ⟨p, us, ws, rfl, _⟩ := h; rfl
  · obtain ⟨p, us, ws, rfl, ep, pu, hws, q⟩ := h
    refine ⟨_, pss_cons (ps_set (i := 1) sc_score_of.nd rfl (.inl rfl) (pe_lst (pa_cons (pe_int) (pa_cons (pe_int) (pa_cons (pe_int) (pa_cons (pe_int) pa_nil))))))
    (pss_cons (ps_for PassesOwn.never rfl (pi_list (pv 0)) (pg_tup rfl (pgs_cons (pg_name (i := 2) sc_score_of.nd rfl (.inl rfl)) (pgs_cons (pg_name (i := 3) sc_score_of.nd rfl (.inl rfl)) pgs_nil)))
      (pss_cons (ps_set (i := 4) sc_score_of.nd rfl (.inl rfl) (pe_callB call_len_seq (by rfl) B.len (by decide +kernel) (pa_cons (pe_lc (own := [("gap", 5), ("may", 6), ("parted", 7)]) (g := (gTup K 3 (gCons (gName 5) (gCons (gName 6) (gCons (gName 7) (gNil)))))) (tt := _) rfl sc_score_of.nd (pi_list (pv 3)) (blkOk_by (own := [("gap", 5), ("may", 6), ("parted", 7)]) (N := ["words", "score", "row", "gaps", "hits", "gap", "may", "parted", "faults", "misses", "exact"]) (sc := defScope s_score_of) (by decide +kernel)) (fun _ _ _ _ _ => pg_tup rfl (pgs_cons (pg_name (i := 5) sc_score_of.nd rfl (.inl rfl)) (pgs_cons (pg_name (i := 6) sc_score_of.nd rfl (.inl rfl)) (pgs_cons (pg_name (i := 7) sc_score_of.nd rfl (.inl rfl)) pgs_nil)))) (fun _ _ _ _ _ => pts_one (PW.pt (pw_and (pt_val (pv 7)) (pw_and1 (pt_val (pv 6)))))) (fun _ _ _ _ _ => pv 5)) pa_nil)))
        (pss_cons (ps_set (i := 8) sc_score_of.nd rfl (.inl rfl) (pe_callB call_len_seq (by rfl) B.len (by decide +kernel) (pa_cons (pe_lc (own := [("gap", 5), ("may", 6), ("parted", 7)]) (g := (gTup K 3 (gCons (gName 5) (gCons (gName 6) (gCons (gName 7) (gNil)))))) (tt := _) rfl sc_score_of.nd (pi_list (pv 3)) (blkOk_by (own := [("gap", 5), ("may", 6), ("parted", 7)]) (N := ["words", "score", "row", "gaps", "hits", "gap", "may", "parted", "faults", "misses", "exact"]) (sc := defScope s_score_of) (by decide +kernel)) (fun _ _ _ _ _ => pg_tup rfl (pgs_cons (pg_name (i := 5) sc_score_of.nd rfl (.inl rfl)) (pgs_cons (pg_name (i := 6) sc_score_of.nd rfl (.inl rfl)) (pgs_cons (pg_name (i := 7) sc_score_of.nd rfl (.inl rfl)) pgs_nil)))) (fun _ _ _ _ _ => pts_one (PW.pt (pw_and (pt_val (pv 7)) (pw_and1 (pt_not (pt_val (pv 6))))))) (fun _ _ _ _ _ => pv 5)) pa_nil)))
        (pss_cons (ps_set (i := 9) sc_score_of.nd rfl (.inl rfl) (pe_callB call_len_seq (by rfl) B.len (by decide +kernel) (pa_cons (pe_lc (own := [("gap", 5), ("may", 6), ("parted", 7)]) (g := (gTup K 3 (gCons (gName 5) (gCons (gName 6) (gCons (gName 7) (gNil)))))) (tt := _) rfl sc_score_of.nd (pi_list (pv 3)) (blkOk_by (own := [("gap", 5), ("may", 6), ("parted", 7)]) (N := ["words", "score", "row", "gaps", "hits", "gap", "may", "parted", "faults", "misses", "exact"]) (sc := defScope s_score_of) (by decide +kernel)) (fun _ _ _ _ _ => pg_tup rfl (pgs_cons (pg_name (i := 5) sc_score_of.nd rfl (.inl rfl)) (pgs_cons (pg_name (i := 6) sc_score_of.nd rfl (.inl rfl)) (pgs_cons (pg_name (i := 7) sc_score_of.nd rfl (.inl rfl)) pgs_nil)))) (fun _ _ _ _ _ => pts_one (PW.pt (pw_and (pt_val (pv 6)) (pw_and1 (pt_not (pt_val (pv 7))))))) (fun _ _ _ _ _ => pv 5)) pa_nil)))
        (C8.pss_cut (ps_set (i := 10) sc_score_of.nd rfl (.inl rfl) (pe_ifExp (pt_cmpR op_eq (pe_op op_add (pv 8) (pv 9)) (pe_int) (nomark _)) (pe_int) (pe_int)))
        (pss_one (ps_set (i := 1) sc_score_of.nd rfl (.inl rfl) (pe_lst (pa_cons (pe_op op_add (pe_ix ix_list (pv 1) (pe_int) (fun _ _ => rfl)) (pv 10)) (pa_cons (pe_op op_add (pe_ix ix_list (pv 1) (pe_int) (fun _ _ => rfl)) (pv 4)) (pa_cons (pe_op op_add (pe_ix ix_list (pv 1) (pe_int) (fun _ _ => rfl)) (pv 8)) (pa_cons (pe_op op_add (pe_ix ix_list (pv 1) (pe_int) (fun _ _ => rfl)) (pv 9)) pa_nil))))))))))))
    (pss_one (ps_ret (pv 1)))), ?_⟩
    refine ⟨by show 4 ≤ sizeLine; decide, fun l0 nl0 => ?_⟩
    have s0 : Same H (upd H l0 (.lst [.int 0, .int 0, .int 0, .int 0])) := same_upd nl0
    have ep0 := s0 _ _ ep
    refine ⟨.ref p, rfl, p, rfl, ⟨_, seqL ep0⟩, for_it (walk_list (xs := us)) (fun i σ H' => ∃ (l : Addr) (a b c e : Int) (v2 v3 v4 v5 v6 v7 v8 v9 v10 : Option V), σ = [some (.ref p), some (.ref l), v2, v3, v4, v5, v6, v7, v8, v9, v10] ∧ Same H H' ∧ H l = none ∧ H' l = some (.lst (iv [a, b, c, e])) ∧ (ws.take i).foldl PM.scoreStep [0, 0, 0, 0] = [a, b, c, e])
      ⟨l0, 0, 0, 0, 0, none, none, none, none, none, none, none, none, none, rfl, s0, nl0, upd_same, rfl⟩ (fun i σ H' _ hp => ?_) ?_ ?_⟩
    · obtain ⟨_, _, _, _, _, _, _, _, _, _, _, _, _, _, _, s1, _⟩ := hp
      exact seqL (s1 _ _ ep)
    · rintro i y σ H1 H2 hi ⟨l, a, b, c, e, v2, v3, v4, v5, v6, v7, v8, v9, v10, rfl, s1, nl, el, ew⟩ ⟨rfl, hy⟩
      obtain ⟨w, hw, t, r, lg, ug, rfl, hne, e2, e3, e4, p5⟩ := paired_get pu hy
      have hwl := hws w (List.mem_of_getElem? hw)
      have hug := paired_len p5
      refine ⟨t, _, rfl, seqT (s1 _ _ e2), rfl, _, _, rfl, _, _, rfl, rfl, ?_⟩
      refine ⟨.ref lg, rfl, lg, rfl, ⟨_, seqL (s1 _ _ e4)⟩, fun D1 hD1 => lc_it (walk_list (xs := ug)) (GrowR (fun _ v (g : PM.Gap) => v = .int g.1) H2 D1 fun i => (w.2.take i).filter (fun g : PM.Gap => g.2.2 && g.2.1)) (GrowR.start hD1 rfl) (fun i H' _ hp => seqL (hp.1 _ _ (s1 _ _ e4))) ?_ ?_⟩
      · rintro j z H4 H5 hj hg ⟨rfl, hz⟩
        obtain ⟨gp, hgp, a', rfl, ea⟩ := paired_get p5 hz
        have hz5 : ((w.2.take j).filter (fun g : PM.Gap => g.2.2 && g.2.1)).length < sizeLine := len_lt (Nat.le_trans (List.length_filter_le _ _) (by rw [List.length_take]; omega))
        refine ⟨a', _, rfl, seqT (hg.1 _ _ (s1 _ _ ea)), rfl, _, _, rfl, _, _, rfl, _, _, rfl, rfl, rfl, .bl gp.2.2, rfl, gp.2.2, rfl, if_b (fun c1 => ⟨.bl gp.2.1, rfl, gp.2.1, rfl, if_b (fun c2 => ⟨.int gp.1, rfl, (hg.yes (b := gp) (fun z _ => z) hD1 (Same.refl _) rfl hz5 (by rw [filter_step (fun g : PM.Gap => g.2.2 && g.2.1) hgp, if_pos (by show (gp.2.2 && gp.2.1) = true; rw [c1, c2]; decide)]))⟩) (fun c2 => (hg.no (fun z _ => z) (Same.refl _) (by rw [filter_step (fun g : PM.Gap => g.2.2 && g.2.1) hgp, if_neg (by show ¬ (gp.2.2 && gp.2.1) = true; rw [c1, c2]; decide)])))⟩) (fun c1 => (hg.no (fun z _ => z) (Same.refl _) (by rw [filter_step (fun g : PM.Gap => g.2.2 && g.2.1) hgp, if_neg (by show ¬ (gp.2.2 && gp.2.1) = true; rw [c1, Bool.false_and]; decide)])))⟩
      rintro H11 ⟨t11, u11, d11, p11⟩
      replace p11 : Paired (fun v (g : PM.Gap) => v = .int g.1) u11 ((w.2.take ug.length).filter (fun g : PM.Gap => g.2.2 && g.2.1)) := p11
      rw [List.take_of_length_le (by omega)] at p11
      have s11 := s1.trans t11
      have k1 := paired_len p11
      refine ⟨_, _, rfl, .inl (seqL d11), ?_⟩
      rw [k1]
      refine ⟨.ref lg, rfl, lg, rfl, ⟨_, seqL (s11 _ _ e4)⟩, fun D2 hD2 => lc_it (walk_list (xs := ug)) (GrowR (fun _ v (g : PM.Gap) => v = .int g.1) H11 D2 fun i => (w.2.take i).filter (fun g : PM.Gap => g.2.2 && !g.2.1)) (GrowR.start hD2 rfl) (fun i H' _ hp => seqL (hp.1 _ _ (s11 _ _ e4))) ?_ ?_⟩
      · rintro j z H4 H5 hj hg ⟨rfl, hz⟩
        obtain ⟨gp, hgp, a', rfl, ea⟩ := paired_get p5 hz
        have hz5 : ((w.2.take j).filter (fun g : PM.Gap => g.2.2 && !g.2.1)).length < sizeLine := len_lt (Nat.le_trans (List.length_filter_le _ _) (by rw [List.length_take]; omega))
        refine ⟨a', _, rfl, seqT (hg.1 _ _ (s11 _ _ ea)), rfl, _, _, rfl, _, _, rfl, _, _, rfl, rfl, rfl, .bl gp.2.2, rfl, gp.2.2, rfl, if_b (fun c1 => ⟨.bl gp.2.1, rfl, gp.2.1, rfl, if_b (fun c2 => ⟨.int gp.1, rfl, (hg.yes (b := gp) (fun z _ => z) hD2 (Same.refl _) rfl hz5 (by rw [filter_step (fun g : PM.Gap => g.2.2 && !g.2.1) hgp, if_pos (by show (gp.2.2 && !gp.2.1) = true; rw [c1, show gp.2.1 = false from by simpa using c2]; decide)]))⟩) (fun c2 => (hg.no (fun z _ => z) (Same.refl _) (by rw [filter_step (fun g : PM.Gap => g.2.2 && !g.2.1) hgp, if_neg (by show ¬ (gp.2.2 && !gp.2.1) = true; rw [c1, show gp.2.1 = true from by simpa using c2]; decide)])))⟩) (fun c1 => (hg.no (fun z _ => z) (Same.refl _) (by rw [filter_step (fun g : PM.Gap => g.2.2 && !g.2.1) hgp, if_neg (by show ¬ (gp.2.2 && !gp.2.1) = true; rw [c1, Bool.false_and]; decide)])))⟩
      rintro H12 ⟨t12, u12, d12, p12⟩
      replace p12 : Paired (fun v (g : PM.Gap) => v = .int g.1) u12 ((w.2.take ug.length).filter (fun g : PM.Gap => g.2.2 && !g.2.1)) := p12
      rw [List.take_of_length_le (by omega)] at p12
      have s12 := s11.trans t12
      have k2 := paired_len p12
      refine ⟨_, _, rfl, .inl (seqL d12), ?_⟩
      rw [k2]
      refine ⟨.ref lg, rfl, lg, rfl, ⟨_, seqL (s12 _ _ e4)⟩, fun D3 hD3 => lc_it (walk_list (xs := ug)) (GrowR (fun _ v (g : PM.Gap) => v = .int g.1) H12 D3 fun i => (w.2.take i).filter (fun g : PM.Gap => g.2.1 && !g.2.2)) (GrowR.start hD3 rfl) (fun i H' _ hp => seqL (hp.1 _ _ (s12 _ _ e4))) ?_ ?_⟩
      · rintro j z H4 H5 hj hg ⟨rfl, hz⟩
        obtain ⟨gp, hgp, a', rfl, ea⟩ := paired_get p5 hz
        have hz5 : ((w.2.take j).filter (fun g : PM.Gap => g.2.1 && !g.2.2)).length < sizeLine := len_lt (Nat.le_trans (List.length_filter_le _ _) (by rw [List.length_take]; omega))
        refine ⟨a', _, rfl, seqT (hg.1 _ _ (s12 _ _ ea)), rfl, _, _, rfl, _, _, rfl, _, _, rfl, rfl, rfl, .bl gp.2.1, rfl, gp.2.1, rfl, if_b (fun c1 => ⟨.bl gp.2.2, rfl, gp.2.2, rfl, if_b (fun c2 => ⟨.int gp.1, rfl, (hg.yes (b := gp) (fun z _ => z) hD3 (Same.refl _) rfl hz5 (by rw [filter_step (fun g : PM.Gap => g.2.1 && !g.2.2) hgp, if_pos (by show (gp.2.1 && !gp.2.2) = true; rw [c1, show gp.2.2 = false from by simpa using c2]; decide)]))⟩) (fun c2 => (hg.no (fun z _ => z) (Same.refl _) (by rw [filter_step (fun g : PM.Gap => g.2.1 && !g.2.2) hgp, if_neg (by show ¬ (gp.2.1 && !gp.2.2) = true; rw [c1, show gp.2.2 = true from by simpa using c2]; decide)])))⟩) (fun c1 => (hg.no (fun z _ => z) (Same.refl _) (by rw [filter_step (fun g : PM.Gap => g.2.1 && !g.2.2) hgp, if_neg (by show ¬ (gp.2.1 && !gp.2.2) = true; rw [c1, Bool.false_and]; decide)])))⟩
      rintro H13 ⟨t13, u13, d13, p13⟩
      replace p13 : Paired (fun v (g : PM.Gap) => v = .int g.1) u13 ((w.2.take ug.length).filter (fun g : PM.Gap => g.2.1 && !g.2.2)) := p13
      rw [List.take_of_length_le (by omega)] at p13
      have s13 := s12.trans t13
      have k3 := paired_len p13
      refine ⟨_, _, rfl, .inl (seqL d13), ?_⟩
      rw [k3]

      refine ⟨fun σ' H' => H' = H13 ∧ ∃ v5 v6 v7, σ' = [some (.ref p), some (.ref l), some (.ref r), some (.ref lg), some (.int ((PM.hitsOf w.2 : Nat) : Int)), v5, v6, v7, some (.int ((PM.faultsOf w.2 : Nat) : Int)), some (.int ((PM.missesOf w.2 : Nat) : Int)), some (.int (if PM.faultsOf w.2 + PM.missesOf w.2 = 0 then 1 else 0))], ?_, ?_⟩
      · refine ⟨_, rfl, _, rfl, _, _, rfl, rfl, rfl, _, rfl, ?_⟩
        rw [vint_dec]
        refine if_b (fun g1 => ?_) (fun g1 => ?_)
        · have g2 : PM.faultsOf w.2 + PM.missesOf w.2 = 0 := by
            have g3 : (((w.2.filter fun g => g.2.2 && !g.2.1).length : Nat) : Int) + (((w.2.filter fun g => g.2.1 && !g.2.2).length : Nat) : Int) = 0 := of_decide_eq_true g1
            unfold PM.faultsOf PM.missesOf
            omega
          exact ⟨rfl, _, _, _, by rw [if_pos g2]; rfl⟩
        · have g2 : ¬ PM.faultsOf w.2 + PM.missesOf w.2 = 0 := by
            have g3 : ¬ (((w.2.filter fun g => g.2.2 && !g.2.1).length : Nat) : Int) + (((w.2.filter fun g => g.2.1 && !g.2.2).length : Nat) : Int) = 0 := of_decide_eq_false g1
            unfold PM.faultsOf PM.missesOf
            omega
          exact ⟨rfl, _, _, _, by rw [if_neg g2]; rfl⟩
      · rintro σ' H' ⟨rfl, v5', v6', v7', rfl⟩
        have el3 : SqL K H' l (iv [a, b, c, e]) := seqL (t13 _ _ (t12 _ _ (t11 _ _ el)))
        refine ⟨.ref l, rfl, l, _, 0, _, rfl, rfl, el3, atI_nat (j := 0) rfl, _, rfl, _, _, rfl, rfl, .ref l, rfl, l, _, 1, _, rfl, rfl, el3, atI_nat (j := 1) rfl, _, rfl, _, _, rfl, rfl,
          .ref l, rfl, l, _, 2, _, rfl, rfl, el3, atI_nat (j := 2) rfl, _, rfl, _, _, rfl, rfl, .ref l, rfl, l, _, 3, _, rfl, rfl, el3, atI_nat (j := 3) rfl, _, rfl, _, _, rfl, rfl, by show 4 ≤ sizeLine; decide, fun l2 nl2 => ?_⟩
        refine ⟨l2, _, _, _, _, _, _, _, _, _, _, _, _, _, rfl, s13.new nl2, s13.free nl2, upd_same, ?_⟩
        rw [take_snoc hw, List.foldl_append, ew]
        rfl
    · rintro σ H1 ⟨l, a, b, c, e, v2, v3, v4, v5, v6, v7, v8, v9, v10, rfl, s1, nl, el, ew⟩
      rw [paired_len pu, List.take_length] at ew
      refine ⟨_, rfl, q _ l s1 nl ?_⟩
      rw [el]
      unfold PM.scoreOf
      rw [ew]
end
end PR
set_option Elab.async false
set_option linter.all false
set_option maxRecDepth 100000
set_option maxHeartbeats 2000000
/-! # rounds: the small defs -/
namespace PR
open PySem PySem.Spec PyProof.Rows L2
abbrev s_are_level_and_length : Stmt := topS 53
theorem sc_are_level_and_length : FnScope ["level", "length"] ["level", "length"] (defScope s_are_level_and_length) := ⟨rfl, rfl, rfl, by decide +kernel, rfl, by decide +kernel, by decide +kernel⟩
abbrev s_is_round : Stmt := topS 54
theorem sc_is_round : FnScope ["numbers", "right", "number"] ["numbers"] (defScope s_is_round) := ⟨rfl, rfl, rfl, by decide +kernel, rfl, by decide +kernel, by decide +kernel⟩
abbrev s_pieces_with : Stmt := topS 55
theorem sc_pieces_with : FnScope ["row", "gap", "length", "pieces", "begin", "piece"] ["row", "gap", "length"] (defScope s_pieces_with) := ⟨rfl, rfl, rfl, by decide +kernel, rfl, by decide +kernel, by decide +kernel⟩
abbrev s_single_digits : Stmt := topS 57
theorem sc_single_digits : FnScope ["piece", "gap", "level", "digits"] ["piece", "gap", "level"] (defScope s_single_digits) := ⟨rfl, rfl, rfl, by decide +kernel, rfl, by decide +kernel, by decide +kernel⟩
abbrev s_put_pattern : Stmt := topS 59
theorem sc_put_pattern : FnScope ["patterns", "piece", "digits", "held", "pair"] ["patterns", "piece", "digits"] (defScope s_put_pattern) := ⟨rfl, rfl, rfl, by decide +kernel, rfl, by decide +kernel, by decide +kernel⟩
def spGood : Sp := fun vs H Q _ => ∃ v len : Int, vs = [.int v, .int len] ∧ Q (.bl (PM.goodLevel v len)) H
def spIsRound : Sp := fun vs H Q _ => ∃ (a : Addr) (ns : PM.Ns), vs = [.ref a] ∧ H a = some (.lst (iv ns)) ∧ 2 ≤ ns.length ∧ ns.length ≤ 100000 ∧ ∀ H', Same H H' → Q (.bl (PM.isRound ns)) H'
def PcAt (H : Hp) (v : V) (k : PM.Pc) : Prop := ∃ a b, v = .ref a ∧ H a = some (.tup [.ref b, .int k.2]) ∧ Nice H b (iv k.1)
theorem PcAt.go {H H' : Hp} {v : V} {k : PM.Pc} (h : PcAt H v k) (t : Tups H H') : PcAt H' v k := by
  obtain ⟨a, b, e, n, m⟩ := h
  exact ⟨a, b, e, t.1 _ _ n, t.nice m⟩
theorem slN {K : PySem.W.Frag} {H : Hp} {a : Addr} {c : PM.Ns} {lo hi : Option Int} {Q : VK} (ha : Nice H a (iv c)) (h : ∀ H' p, Same H H' → Nice H' p (iv (cutI c lo hi)) → Q (.ref p) H') : rSlN K (.ref a) lo hi H Q := by
  refine ⟨a, _, rfl, seqR ha.rd, fun hw => h H a (Same.refl H) ?_, fun _ p od hp hod => h _ p (same_upd hp) ⟨od, hod, by rw [upd_same, cutV_iv]⟩⟩
  have e : cutI c lo hi = c := by
    unfold cutI
    rw [iv_len] at hw
    rw [hw.1, hw.2, List.drop_zero, Nat.sub_zero]
    exact List.take_length
  rw [e]
  exact ha
theorem fm_succ {α : Type} (f : Nat → Option α) (n : Nat) : (List.range (n + 1)).filterMap f = (List.range n).filterMap f ++ (match f n with
    | none => []
    | some y => [y]) := by
  rw [List.range_succ, List.filterMap_append, List.filterMap_cons, List.filterMap_nil]
  cases f n <;> rfl
def spPieces : Sp := fun vs H Q _ => ∃ (r : Addr) (row : PM.Ns) (gap : Int) (len : Nat), vs = [.ref r, .int gap, .int (len : Int)] ∧ Nice H r (iv row) ∧ row.length ≤ 1000 ∧ (0 ≤ gap ∧ gap ≤ 1000) ∧ len ≤ 1000 ∧
  ∀ H' p us, Same H H' → H p = none → H' p = some (.lst us) → Paired (PcAt H') us (PM.piecesWith row gap len) → Q (.ref p) H'
def spSingle : Sp := fun vs H Q _ => ∃ (r : Addr) (piece : PM.Ns) (gap : Nat) (v : Int), vs = [.ref r, .int (gap : Int), .int v] ∧ Nice H r (iv piece) ∧ piece.length ≤ 1000 ∧ gap ≤ PM.lettersIn piece ∧
  ∀ H' p, Same H H' → H' p = some (.tup (iv (PM.singleDigits piece gap v))) → Q (.ref p) H'
def spPut (w : World) : Sp := fun vs H Q _ => ∃ (d a b : Addr) (pats : PM.Dict) (piece digits : PM.Ns), vs = [.ref d, .ref a, .ref b] ∧ DictAt w false H d pats ∧ Rd H a (.tup (iv piece)) ∧ Rd H b (.tup (iv digits)) ∧ digits.length ≤ 2000 ∧ pats.length ≤ 2000000 ∧
  (∀ ds, PM.dget pats piece = some ds → ds.length = digits.length) ∧ ∀ H', But d H H' → DictAt w false H' d (PM.putPattern pats piece digits) → Q .non H'
section
variable {P : Program} {w : World} {K : PySem.W.Frag} {mg : Str → Option Value} {base : Heap} {k : Nat} {f : Addr} {fd : FuncData}
theorem ok_are_level_and_length (D : Dfn K mg "are_level_and_length" s_are_level_and_length ["level", "length"] f fd) (B : Blt mg)
    (k_GREATEST_LENGTH : Kst mg "GREATEST_LENGTH" (.int 8)) (k_GREATEST_LEVEL : Kst mg "GREATEST_LEVEL" (.int 9)) :
    FnOk P w K mg base CX0 (k + 1) f fd ["level", "length"] spGood := by
  refine D.F.ok sc_are_level_and_length (fun vs H Q E h => ?_) (fun cdv A outer s H vs Q E hr h => ?_)
  · obtain ⟨v, len, rfl, _⟩ := h; rfl
  · obtain ⟨v, len, rfl, q⟩ := h
    refine ⟨_, pss_one (ps_ret (pe_and (pe_chain op_le op_le (pe_int) (pv 0) (pe_k k_GREATEST_LEVEL)) (pe_one (pe_chain op_le op_le (pe_int) (pv 1) (pe_k k_GREATEST_LENGTH))))), ?_⟩
    have e : PM.goodLevel v len = ((decide (1 ≤ v) && decide (v ≤ 9)) && (decide (1 ≤ len) && decide (len ≤ 8))) := rfl
    rw [e] at q
    refine ⟨.int v, rfl, _, _, rfl, rfl, _, rfl, if_b (fun g1 => ⟨_, _, rfl, rfl, _, rfl, if_b (fun g2 => ⟨.int len, rfl, _, _, rfl, rfl, _, rfl, if_b (fun g3 => ⟨_, _, rfl, rfl, ?_⟩) (fun g3 => ?_)⟩) (fun g2 => ?_)⟩) (fun g1 => ⟨_, rfl, if_f rfl ?_⟩)⟩
    · rw [g1, g2, g3, Bool.true_and, Bool.true_and, Bool.true_and] at q
      exact q
    · rw [g3, Bool.false_and, Bool.and_false] at q
      exact q
    · rw [g2, Bool.and_false, Bool.false_and] at q
      exact q
    · rw [g1, Bool.false_and, Bool.false_and] at q
      exact q
theorem ok_is_round {f_are_level_and_length : Addr} {fd_are_level_and_length : FuncData} (D : Dfn K mg "is_round" s_is_round ["numbers"] f fd) (B : Blt mg)
    (D_are_level_and_length : Dfn K mg "are_level_and_length" s_are_level_and_length ["level", "length"] f_are_level_and_length fd_are_level_and_length) (G_are_level_and_length : FnOk P w K mg base CX0 k f_are_level_and_length fd_are_level_and_length ["level", "length"] spGood)
    (k_GREATEST_WEIGHT : Kst mg "GREATEST_WEIGHT" (.int 1000)) :
    FnOk P w K mg base CX0 (k + 1) f fd ["numbers"] spIsRound := by
  refine D.F.ok sc_is_round (fun vs H Q E h => ?_) (fun cdv A outer s H vs Q E hr h => ?_)
  · obtain ⟨a, ns, rfl, _⟩ := h; rfl
  · obtain ⟨a, ns, rfl, ha, h2, hl, q⟩ := h
    refine ⟨_, pss_cons (ps_setLc (i := 1) (own := [("number", 2)]) (g := gName 2) (tt := tYes) rfl sc_is_round.nd rfl rfl (sw_true rfl rfl rfl (by decide +kernel)) (pi_list (pe_slice sl_list (pv 0) (po_some (pe_int)) po_none)) (blkOk_by (own := [("number", 2)]) (N := ["numbers", "right", "number"]) (sc := defScope s_is_round) (by decide +kernel)) (fun _ _ _ _ _ => pg_name (i := 2) sc_is_round.nd rfl (Or.inl rfl)) (fun _ _ _ _ _ => pts_nil) (fun _ _ _ _ _ => pe_chain op_le op_le (pe_int) (pv 2) (pe_k k_GREATEST_WEIGHT)))
    (pss_one (ps_ret (pe_and (pe_call G_are_level_and_length hr (by rfl) D_are_level_and_length.g D_are_level_and_length.F.kp D_are_level_and_length.b .nil pass0 (pa_cons (pe_ix ix_list (pv 0) (pe_int) (fun _ _ => rfl)) (pa_cons (pe_ix ix_list (pv 0) (pe_int) (fun _ _ => rfl)) pa_nil))) (pe_one (pe_callB (cr_all rfl) (by rfl) B.all (by decide +kernel) (pa_cons (pv 1) pa_nil)))))), ?_⟩
    have ec : cutV (iv ns) (some 2) none = iv (ns.drop 2) := by
      rw [cutV_iv]
      exact congrArg iv (cutI_from ns 2)
    refine ⟨.ref a, rfl, 2, rfl, a, _, rfl, seqL ha, fun p np => ?_⟩
    refine ⟨p, rfl, ⟨_, seqL upd_same⟩, fun D hD => ?_⟩
    have sp1 : Same H (upd H p (.lst (cutV (iv ns) (some 2) none))) := same_upd np
    have ep : upd H p (.lst (cutV (iv ns) (some 2) none)) p = some (.lst (iv (ns.drop 2))) := by rw [upd_same, ec]
    generalize upd H p (.lst (cutV (iv ns) (some 2) none)) = H1 at hD sp1 ep
    refine lc_it (walk_list (xs := iv (ns.drop 2))) (Grow H1 D fun i => ((ns.drop 2).take i).map fun n => V.bl (decide (0 ≤ n) && decide (n ≤ 1000))) (Grow.start hD rfl) (fun i H' _ hp => seqL (hp.1 _ _ ep)) ?_ ?_
    · rintro i y H2 H3 hi hg ⟨rfl, hy⟩
      obtain ⟨n, hn, rfl⟩ := iv_get hy
      rw [iv_len] at hi
      have hll := List.length_drop (i := 2) (l := ns)
      have sz : (((ns.drop 2).take i).map fun n => V.bl (decide (0 ≤ n) && decide (n ≤ 1000))).length < sizeLine := len_lt (by rw [List.length_map, List.length_take]; omega)
      have st : (((ns.drop 2).take (i + 1)).map fun n => V.bl (decide (0 ≤ n) && decide (n ≤ 1000))) = (((ns.drop 2).take i).map fun n => V.bl (decide (0 ≤ n) && decide (n ≤ 1000))) ++ [V.bl (decide (0 ≤ n) && decide (n ≤ 1000))] := by
        rw [take_snoc hn, List.map_append]
        rfl
      refine ⟨rfl, .int n, rfl, _, _, rfl, rfl, _, rfl, if_b (fun g1 => ⟨_, _, rfl, rfl, ?_⟩) (fun g1 => ?_)⟩
      · refine hg.yes hD (Same.refl _) sz ?_
        rw [st, g1, Bool.true_and]
      · refine hg.yes hD (Same.refl _) sz ?_
        rw [st, g1, Bool.false_and]
    · rintro H2 ⟨s2, e2⟩
      replace e2 : H2 D = some (.lst (((ns.drop 2).take (iv (ns.drop 2)).length).map fun n => V.bl (decide (0 ≤ n) && decide (n ≤ 1000)))) := e2
      rw [iv_len, List.take_length] at e2
      have s3 := sp1.trans s2
      obtain ⟨x, y, r, rfl⟩ : ∃ x y r, ns = x :: y :: r := by
        match ns, h2 with
        | x :: y :: r, _ => exact ⟨x, y, r, rfl⟩
      have e : PM.isRound (x :: y :: r) = (PM.goodLevel x y && r.all fun n => decide (0 ≤ n) && decide (n ≤ 1000)) := rfl
      rw [e] at q
      refine ⟨.ref a, rfl, a, _, 0, _, rfl, rfl, seqL (s3 _ _ ha), atI_nat (j := 0) rfl, .ref a, rfl, a, _, 1, _, rfl, rfl, seqL (s3 _ _ ha), atI_nat (j := 1) rfl, x, y, rfl, _, rfl, if_b (fun g => ?_) (fun g => ?_)⟩
      · refine ⟨.ref D, rfl, D, r.map fun n => (decide (0 ≤ n) && decide (n ≤ 1000)), rfl, seqL ?_, ?_⟩
        · rw [e2, List.map_map]
          rfl
        · have e3 : (r.map fun n => (decide (0 ≤ n) && decide (n ≤ 1000))).all id = r.all fun n => decide (0 ≤ n) && decide (n ≤ 1000) := by
            rw [List.all_map]
            rfl
          rw [e3]
          have q2 := q H2 s3
          rw [g, Bool.true_and] at q2
          exact q2
      · have q2 := q H2 s3
        rw [g, Bool.false_and] at q2
        exact q2
theorem ok_pieces_with {f_first_gap : Addr} {fd_first_gap : FuncData} (D : Dfn K mg "pieces_with" s_pieces_with ["row", "gap", "length"] f fd) (B : Blt mg)
    (D_first_gap : Dfn K mg "first_gap" s_first_gap ["begin"] f_first_gap fd_first_gap) (G_first_gap : FnOk P w K mg base CX0 k f_first_gap fd_first_gap ["begin"] spFirstGap)
    (k_POINT : Kst mg "POINT" (.int 46)) (k_MOST_PIECE_LETTERS : Kst mg "MOST_PIECE_LETTERS" (.int 6)) :
    FnOk P w K mg base CX0 (k + 1) f fd ["row", "gap", "length"] spPieces := by
  refine D.F.ok sc_pieces_with (fun vs H Q E h => ?_) (fun cdv A outer s H vs Q E hr h => ?_)
  · obtain ⟨r, row, gap, len, rfl, _⟩ := h; rfl
  · obtain ⟨r, row, gap, len, rfl, hr0, hrl, hg, hlen, q⟩ := h
    refine ⟨_, pss_cons (ps_set (i := 3) sc_pieces_with.nd rfl (.inl rfl) (pe_lst pa_nil))
    (pss_cons (ps_for PassesOwn.never rfl (pi_range2 (by rfl) B.range (pa_cons (pe_callB (call_max2 rfl) (by rfl) B.max (by decide +kernel) (pa_cons (pe_op op_add (pe_op op_sub (pv 1) (pv 2)) (pe_int)) (pa_cons (pe_int) pa_nil))) (pa_cons (pe_op op_add (pe_callB (call_min2 rfl) (by rfl) B.min (by decide +kernel) (pa_cons (pe_op op_add (pv 1) (pe_int)) (pa_cons (pe_op op_sub (pe_callB call_len_seq (by rfl) B.len (by decide +kernel) (pa_cons (pv 0) pa_nil)) (pv 2)) pa_nil))) (pe_int)) pa_nil))) (pg_name (i := 4) sc_pieces_with.nd rfl (.inl rfl))
      (pss_cons (ps_set (i := 5) sc_pieces_with.nd rfl (.inl rfl) (pe_slice sl_tupN (pv 0) (po_some (pv 4)) (po_some (pe_op op_add (pv 4) (pv 2)))))
        (pss_one (ps_if (pt_cmpR op_le (pe_op op_sub (pv 2) (pe_tm PySem.F.slot_tuple_count PySem.F.type_tuple_count (mt_tcount (hu_of8 hr)) (pv 5) (pe_k k_POINT) ⟨by rfl, by rfl, by rfl, by rfl⟩)) (pe_k k_MOST_PIECE_LETTERS) (nomark _))
          (pss_one (ps_expr (pe_bm PySem.F.plainAttrs_list PySem.F.slot_list_append PySem.F.type_list_append mt_append (pv 3) (pa_cons (pe_tup (pa_cons (pv 5) (pa_cons (pe_op op_sub (pv 1) (pe_call G_first_gap hr (by rfl) D_first_gap.g D_first_gap.F.kp D_first_gap.b .nil pass0 (pa_cons (pv 4) pa_nil))) pa_nil))) pa_nil)))) pss_nil))))
    (pss_one (ps_ret (pv 3)))), ?_⟩
    refine ⟨Nat.zero_le _, fun l nl => ?_⟩
    have s0 : Same H (upd H l (.lst [])) := same_upd nl
    have hr1 := hr0.same s0
    refine ⟨_, rfl, _, rfl, _, _, rfl, rfl, _, _, rfl, rfl, _, _, rfl, _, rfl, _, _, rfl, rfl, .ref r, rfl, r, _, rfl, .inr (seqR hr1.rd), _, rfl, _, _, rfl, rfl, _, _, rfl, ?_⟩
    rw [max_if, min_if, iv_len]
    refine ⟨_, _, rfl, rfl, _, _, rfl, ⟨by omega, by omega, by omega, by omega⟩, ?_⟩
    have hlo : max (gap - (len : Int) + 1) 0 = ((PM.pieceLo gap len : Nat) : Int) := by unfold PM.pieceLo; omega
    have hcnt : (min (gap + 1) ((row.length : Int) - (len : Int)) + 1 - max (gap - (len : Int) + 1) 0).toNat = PM.pieceHi row gap len - PM.pieceLo gap len := by unfold PM.pieceHi PM.pieceLo; omega
    refine for_it (walk_rg (lo := max (gap - (len : Int) + 1) 0) (n := (min (gap + 1) ((row.length : Int) - (len : Int)) + 1 - max (gap - (len : Int) + 1) 0).toNat) (fun j => ((PM.pieceLo gap len + j : Nat) : Int)) (fun j => by rw [hlo]; omega))
      (fun i σ H' => ∃ v4 v5 : Option V, σ = [some (.ref r), some (.int gap), some (.int (len : Int)), some (.ref l), v4, v5] ∧ GrowR PcAt H l (fun n => (List.range n).filterMap fun j => PM.pieceAt row gap len (PM.pieceLo gap len + j)) i H')
      ⟨none, none, rfl, GrowR.start nl rfl⟩ (fun _ _ _ _ _ => True.intro) ?_ ?_
    · rintro i x σ H1 H2 hi ⟨v4, v5, rfl, hg⟩ ⟨rfl, rfl⟩
      have hi' : i < PM.pieceHi row gap len - PM.pieceLo gap len := by rw [← hcnt]; exact hi
      obtain ⟨s1, us, el, pu⟩ := id hg
      have hfm : ((List.range i).filterMap fun j => PM.pieceAt row gap len (PM.pieceLo gap len + j)).length ≤ i := by
        refine Nat.le_trans (List.length_filterMap_le _ _) ?_
        rw [List.length_range]
        exact Nat.le_refl _
      have hsz : ((List.range i).filterMap fun j => PM.pieceAt row gap len (PM.pieceLo gap len + j)).length < sizeLine := len_lt (by unfold PM.pieceHi PM.pieceLo at hi'; omega)
      refine ⟨.ref r, rfl, _, rfl, _, rfl, _, rfl, _, rfl, _, _, rfl, rfl, _, rfl, ?_⟩
      refine slN (hr0.same s1) fun H3 p s3 ep => ?_
      have ecut : cutI row (some ((PM.pieceLo gap len + i : Nat) : Int)) (some (((PM.pieceLo gap len + i : Nat) : Int) + (len : Int))) = PM.cut row (PM.pieceLo gap len + i) (PM.pieceLo gap len + i + len) := by
        rw [← Int.natCast_add]
        exact cutI_range row _ _
      rw [ecut] at ep
      refine ⟨_, rfl, .ref p, rfl, p, _, rfl, ep, p, PM.cut row (PM.pieceLo gap len + i) (PM.pieceLo gap len + i + len), 46, rfl, rfl, seqR ep.rd, _, _, rfl, rfl, _, _, rfl, rfl, _, rfl, ?_⟩
      refine if_b (fun g => ?_) (fun g => ?_)
      · have hc : len - (PM.cut row (PM.pieceLo gap len + i) (PM.pieceLo gap len + i + len)).count 46 ≤ 6 := by have := of_decide_eq_true g; omega
        refine ⟨.ref l, rfl, .inl ⟨rfl, _, seqL (s3 _ _ el)⟩, .ref p, rfl, _, rfl, _, rfl, PM.pieceLo gap len + i, rfl, _, _, rfl, rfl, by show 2 ≤ sizeLine; decide, fun t nt => ?_⟩
        have hpc : PcAt (upd H3 t (.tup [.ref p, .int (gap - (PM.firstGap (PM.pieceLo gap len + i) : Nat))])) (.ref t) (PM.cut row (PM.pieceLo gap len + i) (PM.pieceLo gap len + i + len), gap - (PM.firstGap (PM.pieceLo gap len + i) : Nat)) := ⟨t, p, rfl, upd_same, ep.same (same_upd nt)⟩
        obtain ⟨acc, h1, h2, h3⟩ := GrowR.yes (R := PcAt) (g := hg) (out := fun n => (List.range n).filterMap fun j => PM.pieceAt row gap len (PM.pieceLo gap len + j)) (i := i) (b := (PM.cut row (PM.pieceLo gap len + i) (PM.pieceLo gap len + i + len), gap - (PM.firstGap (PM.pieceLo gap len + i) : Nat))) (y := .ref t) (mono := PcAt.go) (hD := nl) (s := s3.trans (same_upd nt)) (hb := hpc) (hl := hsz) (e := by
          show (List.range (i + 1)).filterMap _ = _
          rw [fm_succ]
          unfold PM.pieceAt
          rw [if_pos hc])
        exact ⟨l, acc, _, rfl, rfl, h1, h2, _, _, rfl, h3⟩
      · have hc : ¬ len - (PM.cut row (PM.pieceLo gap len + i) (PM.pieceLo gap len + i + len)).count 46 ≤ 6 := by have := of_decide_eq_false g; omega
        refine ⟨_, _, rfl, hg.no PcAt.go s3 ?_⟩
        show (List.range (i + 1)).filterMap _ = _
        rw [fm_succ]
        unfold PM.pieceAt
        rw [if_neg hc, List.append_nil]
    · rintro σ H1 ⟨v4, v5, rfl, s1, us, el, pu⟩
      rw [hcnt] at pu
      exact ⟨_, rfl, q _ l us s1 nl el pu⟩
theorem ok_single_digits (D : Dfn K mg "single_digits" s_single_digits ["piece", "gap", "level"] f fd) (B : Blt mg)
    (k_POINT : Kst mg "POINT" (.int 46)) :
    FnOk P w K mg base CX0 (k + 1) f fd ["piece", "gap", "level"] spSingle := by
  refine D.F.ok sc_single_digits (fun vs H Q E h => ?_) (fun cdv A outer s H vs Q E hr h => ?_)
  · obtain ⟨r, piece, gap, v, rfl, _⟩ := h; rfl
  · obtain ⟨r, piece, gap, v, rfl, hr0, hpl, hg, q⟩ := h
    refine ⟨_, pss_cons (ps_set (i := 3) sc_single_digits.nd rfl (.inl rfl) (pe_op op_rep (pe_lst (pa_cons (pe_int) pa_nil)) (pe_op op_add (pe_op op_sub (pe_callB call_len_seq (by rfl) B.len (by decide +kernel) (pa_cons (pv 0) pa_nil)) (pe_tm PySem.F.slot_tuple_count PySem.F.type_tuple_count (mt_tcount (hu_of8 hr)) (pv 0) (pe_k k_POINT) ⟨by rfl, by rfl, by rfl, by rfl⟩)) (pe_int))))
    (pss_cons (ps_asg (pv 2) (pg_sub (pv 3) (pv 1) set_list))
    (pss_one (ps_ret (pe_callTy call_tuple_of (by rfl) B.tuple (by decide +kernel) (pa_cons (pv 3) pa_nil))))), ?_⟩
    have hcl : piece.count 46 ≤ piece.length := List.count_le_length
    refine ⟨by show 1 ≤ sizeLine; decide, fun z nz => ?_⟩
    have hr1 := hr0.same (same_upd (o := .lst [.int 0]) nz)
    refine ⟨.ref r, rfl, r, _, rfl, .inr (seqR hr1.rd), .ref r, rfl, r, _, rfl, hr1, r, piece, 46, rfl, rfl, seqR hr1.rd, _, _, rfl, rfl, _, _, rfl, rfl, z, _, _, rfl, rfl, upd_same, ?_⟩
    rw [iv_len]
    refine ⟨by omega, by omega, small (m := 2000) (by show 1 * _ ≤ _; omega), fun l nl => ?_⟩
    have hln : ((piece.length : Int) - ((piece.count 46 : Nat) : Int) + 1).toNat = PM.lettersIn piece + 1 := by unfold PM.lettersIn; omega
    have nl0 : H l = none := (same_upd nz).free nl
    rw [zeros, hln]
    refine ⟨_, rfl, .ref l, rfl, _, rfl, l, _, _, gap, rfl, rfl, upd_same, ?_, ?_⟩
    · rw [iv_len, List.length_replicate]
      unfold ixN
      rw [if_pos (by omega), if_pos (by omega)]
      rfl
    · refine ⟨.ref l, rfl, l, _, rfl, .inl ⟨seqL upd_same, fun t nt => q _ t ?_ ?_⟩⟩
      · intro b' o q'
        have h1 : b' ≠ l := ne_of_none q' nl0
        have h2 : b' ≠ z := ne_of_none q' nz
        have h3 : b' ≠ t := fun e => by
          rw [e] at q' h1 h2
          rw [upd_ne h1, upd_ne h1, upd_ne h2, q'] at nt
          cases nt
        rw [upd_ne h3, upd_ne h1, upd_ne h1, upd_ne h2]
        exact q'
      · rw [upd_same, ← List.map_set]
        rfl
theorem ok_put_pattern (D : Dfn K mg "put_pattern" s_put_pattern ["patterns", "piece", "digits"] f fd) (B : Blt mg) :
    FnOk P w K mg base CX0 (k + 1) f fd ["patterns", "piece", "digits"] (spPut w) := by
  refine D.F.ok sc_put_pattern (fun vs H Q E h => ?_) (fun cdv A outer s H vs Q E hr h => ?_)
  · obtain ⟨d, a, b, pats, piece, digits, rfl, _⟩ := h; rfl
  · obtain ⟨d, a, b, pats, piece, digits, rfl, hD, ha, hb, hdl, hpl, hok, q⟩ := h
    refine ⟨_, pss_cons (ps_set (i := 3) sc_put_pattern.nd rfl (.inl rfl) (pe_gget2 (hu_of9 hr) (pv 0) (pv 1) (pv 2) ⟨by rfl, by rfl, by rfl, by rfl⟩))
    (pss_one (ps_gput (hu_of9 hr) (pv 0) (pv 1) (pe_callTy call_tuple_of (by rfl) B.tuple (by decide +kernel) (pa_cons (pe_lc (own := [("pair", 4)]) (g := gName 4) (tt := tYes) rfl sc_put_pattern.nd (pi_zipN (by rfl) B.zip (pa_cons (pv 3) (pa_cons (pv 2) pa_nil))) (blkOk_by (own := [("pair", 4)]) (N := ["patterns", "piece", "digits", "held", "pair"]) (sc := defScope s_put_pattern) (by decide +kernel)) (fun _ _ _ _ _ => pg_name (i := 4) sc_put_pattern.nd rfl (Or.inl rfl)) (fun _ _ _ _ _ => pts_nil) (fun _ _ _ _ _ => pe_callB (show CallR _ (.builtin "max") (rMaxT K) from cr_maxT rfl (hu_of8 hr)) (by rfl) B.max (by decide +kernel) (pa_cons (pv 4) pa_nil))) pa_nil)) rfl)), ?_⟩
    obtain ⟨qs, ed, pq⟩ := id hD
    have hqn := paired_len pq
    have hget := dict_get pq piece
    -- the digits held, or those put in
    obtain ⟨hd, hb1, hb2, hlen⟩ : ∃ e, (atG qs (tk piece)).getD (.ref b) = .ref e ∧ Rd H e (.tup (iv ((PM.dget pats piece).getD digits))) ∧ ((PM.dget pats piece).getD digits).length = digits.length := by
      cases hg : PM.dget pats piece with
      | none =>
        rw [hg] at hget
        rw [show atG qs (tk piece) = none from hget]
        exact ⟨b, rfl, hb, rfl⟩
      | some ds =>
        rw [hg] at hget
        obtain ⟨e, h1, h2⟩ := hget
        rw [h1]
        exact ⟨e, rfl, h2, hok ds hg⟩
    have ka : KAt H a (tk piece) := .inl ⟨_, rfl, ha⟩
    refine ⟨.ref d, rfl, d, qs, rfl, .inl ed, .ref a, rfl, .ref b, rfl, a, tk piece, qs, rfl, .inl ed, dict_keys pq, ka, ?_⟩
    rw [hb1]
    generalize hh : (PM.dget pats piece).getD digits = hs at hb2 hlen
    refine ⟨.ref hd, rfl, .ref b, rfl, hd, b, iv hs, iv digits, rfl, seqR hb2, seqR hb, fun D hD' => ?_⟩
    have hz : ∀ i x y, hs[i]? = some x → digits[i]? = some y → ((hs.zip digits).map fun p => max p.1 p.2).take (i + 1) = ((hs.zip digits).map fun p => max p.1 p.2).take i ++ [max x y] := fun i x y h1 h2 => take_snoc (by
      rw [List.getElem?_map, List.getElem?_zip_eq_some (z := (x, y)) |>.mpr ⟨h1, h2⟩]
      rfl)
    refine lc_it (walkZN (xs := iv hs) (ys := iv digits) (by rw [iv_len, iv_len, hlen])) (Grow H D fun i => iv (((hs.zip digits).map fun p => max p.1 p.2).take i)) (Grow.start hD' rfl) (fun i H' _ hp => ⟨seqR (L2.Rd.same hb2 hp.1), seqR (L2.Rd.same hb hp.1)⟩) ?_ ?_
    · rintro i x H1 H2 hi hg ⟨T, x1, y1, rfl, nT, rfl, hx, hy⟩
      obtain ⟨n, hn, rfl⟩ := iv_get hx
      obtain ⟨m, hm, rfl⟩ := iv_get hy
      rw [iv_len] at hi
      have hmx : PySem.W.maxOf n [m] = max n m := by
        show (if PySem.W.DatumOrd.lt n m = true then m else n) = max n m
        have e : PySem.W.DatumOrd.lt n m = decide (n < m) := rfl
        rw [e, Int.max_def]
        by_cases h : n < m
        · rw [decide_eq_true h, if_pos rfl, if_pos (by omega)]
        · rw [decide_eq_false h, if_neg Bool.false_ne_true]
          split <;> omega
      refine ⟨rfl, .ref T, rfl, T, n, [m], rfl, seqT upd_same, ?_⟩
      rw [hmx]
      refine hg.yes hD' (same_upd nT) ?_ ?_
      · refine len_lt ?_
        rw [iv_len, List.length_take]
        omega
      · rw [hz i n m hn hm, iv_app]
        rfl
    · rintro H1 ⟨s1, e1⟩
      replace e1 : H1 D = some (.lst (iv (((hs.zip digits).map fun p => max p.1 p.2).take (iv hs).length))) := e1
      rw [iv_len, List.take_of_length_le (by rw [List.length_map, List.length_zip]; omega)] at e1
      refine ⟨D, _, rfl, .inl ⟨seqL e1, fun t nt => ⟨.ref d, rfl, .ref a, rfl, d, a, tk piece, qs, rfl, rfl, ?_, ?_, ?_, by rw [sizeLine_eq]; omega, ?_⟩⟩⟩
      · exact (same_upd nt) _ _ (s1 _ _ ed)
      · exact dict_keys (paired_mono (fun _ _ z => (z.go (Tups.of s1)).go (Tups.of (same_upd nt))) pq)
      · exact .inl ⟨_, rfl, L2.Rd.same (L2.Rd.same ha s1) (same_upd nt)⟩
      · have s2 := s1.trans (same_upd (o := .tup (iv ((hs.zip digits).map fun p => max p.1 p.2))) nt)
        have ed2 := s2 _ _ ed
        refine q _ ((But.of s2).trans But.at) ⟨_, upd_same, ?_⟩
        unfold PM.putPattern
        rw [hh]
        exact dict_put (fz := false) (paired_mono (fun _ _ z => (z.go (Tups.of s2)).go (Tups.gd ed2)) pq) ((Tups.gd ed2).rd (L2.Rd.same ha s2)) ((Tups.gd ed2).rd (.inl upd_same))
end
end PR
set_option Elab.async false
set_option linter.all false
set_option maxRecDepth 100000
set_option maxHeartbeats 2000000
/-! # rounds: tally, candidates_of -/
namespace PR
open PySem PySem.Spec PyProof.Rows L2
abbrev s_tally : Stmt := topS 56
theorem sc_tally : FnScope ["words", "level", "length", "odd", "helps", "hurts", "row", "gaps", "gap", "may", "parted", "counts", "found"] ["words", "level", "length"] (defScope s_tally) := ⟨rfl, rfl, rfl, by decide +kernel, rfl, by decide +kernel, by decide +kernel⟩
abbrev s_candidates_of : Stmt := topS 58
theorem sc_candidates_of : FnScope ["words", "level", "length", "helps", "hurts", "candidates", "found", "helped", "piece", "gap"] ["words", "level", "length"] (defScope s_candidates_of) := ⟨rfl, rfl, rfl, by decide +kernel, rfl, by decide +kernel, by decide +kernel⟩
def TEnt (H : Hp) (q : GQ) (e : PM.Pc × Int) : Prop := q.1 = nk e.1 ∧ (∃ b, H q.2.1 = some (.tup [.ref b, .int e.1.2]) ∧ Nice H b (iv e.1.1)) ∧ q.2.2 = .int e.2
theorem TEnt.go {H H' : Hp} {q : GQ} {e : PM.Pc × Int} (h : TEnt H q e) (t : Tups H H') : TEnt H' q e := by
  obtain ⟨e1, ⟨b, e2, e3⟩, e4⟩ := h
  exact ⟨e1, ⟨b, t.1 _ _ e2, t.nice e3⟩, e4⟩
def TalAt (w : World) (H : Hp) (d : Addr) (t : PM.Tally) : Prop := ∃ qs, H d = some (gdO w d qs) ∧ Paired (TEnt H) qs t
theorem TalAt.go {w : World} {H H' : Hp} {d : Addr} {t : PM.Tally} (h : TalAt w H d t) (s : ∀ qs, H d = some (gdO w d qs) → H' d = some (gdO w d qs)) (tp : Tups H H') : TalAt w H' d t := by
  obtain ⟨qs, e1, e2⟩ := h
  exact ⟨qs, s _ e1, paired_mono (fun _ _ z => z.go tp) e2⟩
theorem TalAt.same {w : World} {H H' : Hp} {d : Addr} {t : PM.Tally} (h : TalAt w H d t) (s : Same H H') : TalAt w H' d t := h.go (fun _ e => s _ _ e) (Tups.of s)
theorem TalAt.other {w : World} {H : Hp} {d c : Addr} {t : PM.Tally} {qs qs' : List GQ} (h : TalAt w H d t) (n : d ≠ c) (e : H c = some (gdO w c qs)) : TalAt w (upd H c (gdO w c qs')) d t := h.go (fun _ z => by rw [upd_ne n]; exact z) (Tups.gd e)
theorem pc_key {H : Hp} {a : Addr} {k : PM.Pc} (h : PcAt H (.ref a) k) : KAt H a (nk k) := by
  obtain ⟨a', b, e, h1, h2⟩ := h
  cases e
  exact .inr ⟨k.1, k.2, b, rfl, .inl h1, h2.rd⟩
theorem tal_keys {H : Hp} : ∀ {qs : List GQ} {t : PM.Tally}, Paired (TEnt H) qs t → ∀ q ∈ qs, KAt H q.2.1 q.1
  | _, _, .nil, _, hq => nomatch hq
  | _, _, .cons r t, q, hq => by
    rcases List.mem_cons.mp hq with z | z
    · obtain ⟨e1, ⟨b, e2, e3⟩, e4⟩ := r
      rw [z, e1]
      exact .inr ⟨_, _, b, rfl, .inl e2, e3.rd⟩
    · exact tal_keys t q z
theorem tal_get {H : Hp} : ∀ {qs : List GQ} {t : PM.Tally}, Paired (TEnt H) qs t → ∀ k, atG qs (nk k) = (PM.dget t k).map V.int
  | _, _, .nil, k => rfl
  | _, _, .cons (a := q) (b := e) r t, k => by
    obtain ⟨e1, e0, e4⟩ := r
    have ih := tal_get t k
    unfold PM.dget atG at *
    rw [List.find?_cons, List.find?_cons, e1]
    by_cases h : e.1 = k
    · subst h
      simp only [decide_true]
      exact congrArg some e4
    · have h2 : ¬ nk e.1 = nk k := fun z => h (nk_inj z)
      simp only [h, h2, decide_false]
      exact ih
theorem tal_getD {H : Hp} {qs : List GQ} {t : PM.Tally} (p : Paired (TEnt H) qs t) (k : PM.Pc) : (atG qs (nk k)).getD (.int 0) = .int ((PM.dget t k).getD 0) := by
  rw [tal_get p k]
  cases PM.dget t k <;> rfl
theorem tal_any {H : Hp} : ∀ {qs : List GQ} {t : PM.Tally}, Paired (TEnt H) qs t → ∀ k, (qs.any fun q => decide (q.1 = nk k)) = t.any fun e => decide (e.1 = k)
  | _, _, .nil, k => rfl
  | _, _, .cons (a := q) (b := e) r t, k => by
    rw [List.any_cons, List.any_cons, r.1, tal_any t k]
    congr 1
    exact decide_eq_decide.mpr ⟨fun z => nk_inj z, fun z => by rw [z]⟩
theorem tal_map {H : Hp} {k : PM.Pc} {n : Int} : ∀ {qs : List GQ} {t : PM.Tally}, Paired (TEnt H) qs t →
    Paired (TEnt H) (qs.map fun q => if q.1 = nk k then (q.1, q.2.1, V.int n) else q) (t.map fun e => if e.1 = k then (e.1, n) else e)
  | _, _, .nil => .nil
  | _, _, .cons (a := q) (b := en) r t => by
    rw [List.map_cons, List.map_cons]
    refine .cons ?_ (tal_map t)
    by_cases h : en.1 = k
    · rw [if_pos h, if_pos (by rw [r.1, h])]
      exact ⟨r.1, r.2.1, rfl⟩
    · rw [if_neg (fun z => h (nk_inj (r.1.symm.trans z))), if_neg h]
      exact r
theorem tal_put {H : Hp} {qs : List GQ} {t : PM.Tally} (p : Paired (TEnt H) qs t) {k : PM.Pc} {n : Int} {a : Addr} (ka : PcAt H (.ref a) k) : Paired (TEnt H) (putG qs (nk k) a (.int n)) (PM.dput t k n) := by
  unfold putG PM.dput
  rw [tal_any p k]
  split
  · exact tal_map p
  · obtain ⟨a', b, e, h1, h2⟩ := ka
    cases e
    exact Paired.snoc p ⟨rfl, ⟨b, h1, h2⟩, rfl⟩
theorem addOne_len (t : PM.Tally) (ps : List PM.Pc) : (ps.foldl PM.addOne t).length ≤ t.length + ps.length := by
  induction ps generalizing t with
  | nil => exact Nat.le_refl _
  | cons p r ih =>
    have h1 := ih (PM.addOne t p)
    have h2 : (PM.addOne t p).length ≤ t.length + 1 := dput_len _ _ _
    rw [List.foldl_cons, List.length_cons]
    omega
theorem pieces_len (row : PM.Ns) (gap : Int) (len : Nat) : (PM.piecesWith row gap len).length ≤ len + 1 := by
  unfold PM.piecesWith
  refine Nat.le_trans (List.length_filterMap_le _ _) ?_
  rw [List.length_range]
  unfold PM.pieceHi PM.pieceLo
  omega
theorem gap_len (odd : Bool) (row : PM.Ns) (len : Nat) (s : PM.Tally × PM.Tally) (g : PM.Gap) : (PM.tallyGap odd row len s g).1.length ≤ s.1.length + (len + 1) ∧ (PM.tallyGap odd row len s g).2.length ≤ s.2.length + (len + 1) := by
  unfold PM.tallyGap
  split
  · exact ⟨Nat.le_add_right _ _, Nat.le_add_right _ _⟩
  · have h1 := addOne_len s.1 (PM.piecesWith row g.1 len)
    have h2 := addOne_len s.2 (PM.piecesWith row g.1 len)
    have h3 := pieces_len row g.1 len
    split
    · exact ⟨by show (List.foldl PM.addOne s.1 _).length ≤ _; omega, Nat.le_add_right _ _⟩
    · exact ⟨Nat.le_add_right _ _, by show (List.foldl PM.addOne s.2 _).length ≤ _; omega⟩
/-- what is asked of the words -/
def WsOk (ws : PM.Words) : Prop := ws.length ≤ 100 ∧ ∀ w ∈ ws, w.1.length ≤ 1000 ∧ w.2.length ≤ 100 ∧ ∀ g ∈ w.2, 0 ≤ g.1 ∧ g.1 ≤ 1000
def spTally (w : World) : Sp := fun vs H Q _ => ∃ (p : Addr) (us : List V) (ws : PM.Words) (v : Int) (len : Nat), vs = [.ref p, .int v, .int (len : Int)] ∧ H p = some (.lst us) ∧ Paired (WdAt p H) us ws ∧ WsOk ws ∧ len ≤ 100 ∧
  ∀ H' t a b, Same H H' → a ≠ b → H' t = some (.tup [.ref a, .ref b]) → TalAt w H' a (PM.tally ws v len).1 → TalAt w H' b (PM.tally ws v len).2 → Q (.ref t) H'
section
variable {P : Program} {w : World} {K : PySem.W.Frag} {mg : Str → Option Value} {base : Heap} {k : Nat} {f : Addr} {fd : FuncData}
theorem ok_tally {f_pieces_with : Addr} {fd_pieces_with : FuncData} (D : Dfn K mg "tally" s_tally ["words", "level", "length"] f fd) (B : Blt mg)
    (D_pieces_with : Dfn K mg "pieces_with" s_pieces_with ["row", "gap", "length"] f_pieces_with fd_pieces_with) (G_pieces_with : FnOk P w K mg base CX0 k f_pieces_with fd_pieces_with ["row", "gap", "length"] spPieces) :
    FnOk P w K mg base CX0 (k + 1) f fd ["words", "level", "length"] (spTally w) := by
  refine D.F.ok sc_tally (fun vs H Q E h => ?_) (fun cdv A outer s H vs Q E hr h => ?_)
  · obtain ⟨p, us, ws, v, len, rfl, _⟩ := h; rfl
  · obtain ⟨p, us, ws, v, len, rfl, hp, pu, hok, hlen, q⟩ := h
    refine ⟨_, pss_cons (ps_set (i := 3) sc_tally.nd rfl (.inl rfl) (pe_cmpR op_eq (pe_op op_mod (pv 1) (pe_int)) (pe_int) (nomark _)))
    (pss_cons (ps_set (i := 4) sc_tally.nd rfl (.inl rfl) (pe_gnew))
    (pss_cons (ps_set (i := 5) sc_tally.nd rfl (.inl rfl) (pe_gnew))
    (pss_cons (ps_for PassesOwn.never rfl (pi_list (pv 0)) (pg_tup rfl (pgs_cons (pg_name (i := 6) sc_tally.nd rfl (.inl rfl)) (pgs_cons (pg_name (i := 7) sc_tally.nd rfl (.inl rfl)) pgs_nil)))
      (pss_one (ps_for PassesOwn.never rfl (pi_list (pv 7)) (pg_tup rfl (pgs_cons (pg_name (i := 8) sc_tally.nd rfl (.inl rfl)) (pgs_cons (pg_name (i := 9) sc_tally.nd rfl (.inl rfl)) (pgs_cons (pg_name (i := 10) sc_tally.nd rfl (.inl rfl)) pgs_nil))))
          (pss_cons (ps_if (pt_cmpR op_eq (pv 10) (pv 3) (nomark _))
              (pss_one (ps_continue)) pss_nil)
            (C8.pss_cut (ps_set (i := 11) sc_tally.nd rfl (.inl rfl) (pe_ifExp (pt_cmpR op_eq (pv 9) (pv 3) (nomark _)) (pv 4) (pv 5)))
            (pss_one (ps_for PassesOwn.never rfl (pi_list (pe_call G_pieces_with hr (by rfl) D_pieces_with.g D_pieces_with.F.kp D_pieces_with.b .nil pass0 (pa_cons (pv 6) (pa_cons (pv 8) (pa_cons (pv 2) pa_nil))))) (pg_name (i := 12) sc_tally.nd rfl (.inl rfl))
              (pss_one (ps_gput (hu_of9 hr) (pv 11) (pv 12) (pe_op op_add (pe_gget2 (hu_of9 hr) (pv 11) (pv 12) (pe_int) ⟨by rfl, by rfl, by rfl, by rfl⟩) (pe_int)) rfl)))))))))
    (pss_one (ps_ret (pe_tup (pa_cons (pv 4) (pa_cons (pv 5) pa_nil)))))))), ?_⟩
    refine ⟨_, rfl, _, _, rfl, rfl, (by show (0 : Int) < 2; decide), rfl, fun d1 n1 d2 n2 => ?_⟩
    rw [vint_dec]
    generalize ho : decide (v % 2 = 1) = odd
    have hta : PM.tally ws v len = ws.foldl (PM.tallyWord odd len) ([], []) := by
      unfold PM.tally
      rw [ho]
    rw [hta] at q
    have h12 : d1 ≠ d2 := fun z => by rw [← z, upd_same] at n2; cases n2
    have n20 : H d2 = none := (same_upd n1).free n2
    have s0 : Same H (upd (upd H d1 (gdO w d1 [])) d2 (gdO w d2 [])) := (same_upd n1).new n2
    have sk1 : ∀ {o : HO} {H3 : Hp}, Same H H3 → Same H (upd H3 d1 o) := fun s3 b' o q' => by
      rw [upd_ne (ne_of_none q' n1)]
      exact s3 b' o q'
    have sk2 : ∀ {o : HO} {H3 : Hp}, Same H H3 → Same H (upd H3 d2 o) := fun s3 b' o q' => by
      rw [upd_ne (ne_of_none q' n20)]
      exact s3 b' o q'
    refine ⟨.ref p, rfl, p, rfl, ⟨_, seqL (s0 _ _ hp)⟩, for_it (walk_list (xs := us)) (fun i σ H' => ∃ v6 v7 v8 v9 v10 v11 v12 : Option V, σ = [some (.ref p), some (.int v), some (.int (len : Int)), some (.bl odd), some (.ref d1), some (.ref d2), v6, v7, v8, v9, v10, v11, v12] ∧ Same H H' ∧
        TalAt w H' d1 ((ws.take i).foldl (PM.tallyWord odd len) ([], [])).1 ∧ TalAt w H' d2 ((ws.take i).foldl (PM.tallyWord odd len) ([], [])).2 ∧ ((ws.take i).foldl (PM.tallyWord odd len) ([], [])).1.length ≤ i * 10200 ∧ ((ws.take i).foldl (PM.tallyWord odd len) ([], [])).2.length ≤ i * 10200)
      ⟨none, none, none, none, none, none, none, rfl, s0, ⟨[], by rw [upd_ne h12, upd_same]; rfl, .nil⟩, ⟨[], upd_same, .nil⟩, Nat.le_refl _, Nat.le_refl _⟩ (fun i σ H' _ hp' => ?_) ?_ ?_⟩
    · obtain ⟨_, _, _, _, _, _, _, _, s1, _⟩ := hp'
      exact seqL (s1 _ _ hp)
    · rintro i y σ H1 H2 hi ⟨v6, v7, v8, v9, v10, v11, v12, rfl, s1, t1, t2, l1, l2⟩ ⟨rfl, hy⟩
      obtain ⟨wd, hw, t, r, lg, ug, rfl, hne, e2, e3, e4, p5⟩ := paired_get pu hy
      obtain ⟨hr1, hr2, hr3⟩ := hok.2 wd (List.mem_of_getElem? hw)
      have hug := paired_len p5
      have hwsl := hok.1
      have hul := paired_len pu
      generalize hs : (ws.take i).foldl (PM.tallyWord odd len) ([], []) = st at t1 t2 l1 l2
      refine ⟨t, _, rfl, seqT (s1 _ _ e2), rfl, _, _, rfl, _, _, rfl, rfl, ?_⟩
      refine ⟨.ref lg, rfl, lg, rfl, ⟨_, seqL (s1 _ _ e4)⟩, for_it (walk_list (xs := ug)) (fun j σ H' => ∃ v8 v9 v10 v11 v12 : Option V, σ = [some (.ref p), some (.int v), some (.int (len : Int)), some (.bl odd), some (.ref d1), some (.ref d2), some (.ref r), some (.ref lg), v8, v9, v10, v11, v12] ∧ Same H H' ∧
        TalAt w H' d1 ((wd.2.take j).foldl (PM.tallyGap odd wd.1 len) st).1 ∧ TalAt w H' d2 ((wd.2.take j).foldl (PM.tallyGap odd wd.1 len) st).2 ∧ ((wd.2.take j).foldl (PM.tallyGap odd wd.1 len) st).1.length ≤ i * 10200 + j * 102 ∧ ((wd.2.take j).foldl (PM.tallyGap odd wd.1 len) st).2.length ≤ i * 10200 + j * 102)
        ⟨_, _, _, _, _, rfl, s1, t1, t2, l1, l2⟩ (fun j σ H' _ hp' => ?_) ?_ ?_⟩
      · obtain ⟨_, _, _, _, _, _, s3, _⟩ := hp'
        exact seqL (s3 _ _ e4)
      · rintro j z σ H3 H4 hj ⟨v8, v9, v10, v11, v12, rfl, s3, t3, t4, l3, l4⟩ ⟨rfl, hz⟩
        obtain ⟨g, hg, a, rfl, ea⟩ := paired_get p5 hz
        have hgr := hr3 g (List.mem_of_getElem? hg)
        generalize hs2 : (wd.2.take j).foldl (PM.tallyGap odd wd.1 len) st = st2 at t3 t4 l3 l4
        have hnext : (wd.2.take (j + 1)).foldl (PM.tallyGap odd wd.1 len) st = PM.tallyGap odd wd.1 len st2 g := by
          rw [take_snoc hg, List.foldl_append, hs2]
          rfl
        have hgl := gap_len odd wd.1 len st2 g
        have key : ∀ v8 v9 v10 v11 v12 : Option V, ∀ H5, Same H H5 → TalAt w H5 d1 (PM.tallyGap odd wd.1 len st2 g).1 → TalAt w H5 d2 (PM.tallyGap odd wd.1 len st2 g).2 →
            ∃ w8 w9 w10 w11 w12 : Option V, [some (.ref p), some (.int v), some (.int (len : Int)), some (.bl odd), some (.ref d1), some (.ref d2), some (.ref r), some (.ref lg), v8, v9, v10, v11, v12] = [some (.ref p), some (.int v), some (.int (len : Int)), some (.bl odd), some (.ref d1), some (.ref d2), some (.ref r), some (.ref lg), w8, w9, w10, w11, w12] ∧ Same H H5 ∧
            TalAt w H5 d1 ((wd.2.take (j + 1)).foldl (PM.tallyGap odd wd.1 len) st).1 ∧ TalAt w H5 d2 ((wd.2.take (j + 1)).foldl (PM.tallyGap odd wd.1 len) st).2 ∧ ((wd.2.take (j + 1)).foldl (PM.tallyGap odd wd.1 len) st).1.length ≤ i * 10200 + (j + 1) * 102 ∧ ((wd.2.take (j + 1)).foldl (PM.tallyGap odd wd.1 len) st).2.length ≤ i * 10200 + (j + 1) * 102 := fun v8 v9 v10 v11 v12 H5 z1 z2 z3 => by
          rw [hnext]
          exact ⟨v8, v9, v10, v11, v12, rfl, z1, z2, z3, by omega, by omega⟩
        refine ⟨a, _, rfl, seqT (s3 _ _ ea), rfl, _, _, rfl, _, _, rfl, _, _, rfl, rfl, ?_⟩
        refine ⟨_, rfl, _, rfl, rfl, _, rfl, if_b (fun g1 => ?_) (fun g1 => ?_)⟩
        · have g2 : g.2.2 = odd := by simpa using g1
          refine key _ _ _ _ _ _ s3 ?_ ?_
          · rw [show PM.tallyGap odd wd.1 len st2 g = st2 from if_pos g2]
            exact t3
          · rw [show PM.tallyGap odd wd.1 len st2 g = st2 from if_pos g2]
            exact t4
        · have g2 : ¬ g.2.2 = odd := by simpa using g1
          have hd21 : d2 ≠ d1 := fun z => h12 z.symm
          obtain ⟨dc, dO, tc, tO, hdc, hne2, hn0, tdc, tdo, htl, hfin⟩ : ∃ (dc dO : Addr) (tc tO : PM.Tally), (if g.2.1 = odd then d1 else d2) = dc ∧ dO ≠ dc ∧ H dc = none ∧ TalAt w H4 dc tc ∧ TalAt w H4 dO tO ∧ tc.length ≤ i * 10200 + j * 102 ∧
              ∀ H5, TalAt w H5 dc ((PM.piecesWith wd.1 g.1 len).foldl PM.addOne tc) → TalAt w H5 dO tO → TalAt w H5 d1 (PM.tallyGap odd wd.1 len st2 g).1 ∧ TalAt w H5 d2 (PM.tallyGap odd wd.1 len st2 g).2 := by
            by_cases hm : g.2.1 = odd
            · refine ⟨d1, d2, st2.1, st2.2, if_pos hm, hd21, n1, t3, t4, l3, fun H5 z1 z2 => ?_⟩
              rw [show PM.tallyGap odd wd.1 len st2 g = ((PM.piecesWith wd.1 g.1 len).foldl PM.addOne st2.1, st2.2) from (if_neg g2).trans (if_pos hm)]
              exact ⟨z1, z2⟩
            · refine ⟨d2, d1, st2.2, st2.1, if_neg hm, h12, n20, t4, t3, l4, fun H5 z1 z2 => ?_⟩
              rw [show PM.tallyGap odd wd.1 len st2 g = (st2.1, (PM.piecesWith wd.1 g.1 len).foldl PM.addOne st2.2) from (if_neg g2).trans (if_neg hm)]
              exact ⟨z2, z1⟩
          refine ⟨fun σ' H' => H' = H4 ∧ ∃ v12', σ' = [some (.ref p), some (.int v), some (.int (len : Int)), some (.bl odd), some (.ref d1), some (.ref d2), some (.ref r), some (.ref lg), some (.int g.1), some (.bl g.2.1), some (.bl g.2.2), some (.ref dc), v12'], ?_, ?_⟩
          · refine ⟨_, rfl, _, rfl, rfl, _, rfl, if_b (fun g3 => ?_) (fun g3 => ?_)⟩
            · have g4 : g.2.1 = odd := by simpa using g3
              rw [if_pos g4] at hdc
              exact ⟨_, rfl, rfl, _, by rw [← hdc]; rfl⟩
            · have g4 : ¬ g.2.1 = odd := by simpa using g3
              rw [if_neg g4] at hdc
              exact ⟨_, rfl, rfl, _, by rw [← hdc]; rfl⟩
          · rintro σ' H' ⟨rfl, v12', rfl⟩
            refine ⟨.ref r, rfl, _, rfl, _, rfl, r, wd.1, g.1, len, rfl, e3.same s3, hr1, hgr, by omega, fun H5 pl us5 s5 npl epl ppl => ?_⟩
            have hplen := pieces_len wd.1 g.1 len
            have hpl5 := paired_len ppl
            obtain ⟨qs0, ed0, pq0⟩ := tdc.same s5
            refine ⟨pl, rfl, ⟨_, seqL epl⟩, for_it (walk_list (xs := us5)) (fun k σ H' => ∃ v12, σ = [some (.ref p), some (.int v), some (.int (len : Int)), some (.bl odd), some (.ref d1), some (.ref d2), some (.ref r), some (.ref lg), some (.int g.1), some (.bl g.2.1), some (.bl g.2.2), some (.ref dc), v12] ∧
                Same H H' ∧ But dc H5 H' ∧ TalAt w H' dc (((PM.piecesWith wd.1 g.1 len).take k).foldl PM.addOne tc) ∧ TalAt w H' dO tO)
              ⟨_, rfl, s3.trans s5, But.refl, ⟨qs0, ed0, pq0⟩, tdo.same s5⟩ (fun k σ H' _ hp' => ?_) ?_ ?_⟩
            · obtain ⟨_, _, _, b1, _⟩ := hp'
              exact seqL (b1 _ _ (fun z => by rw [z, ed0] at epl; exact gd_no_lst (Option.some.inj epl)) epl)
            · rintro k x σ H6 H7 hk ⟨v12, rfl, s6, b6, ⟨qs, ed, pq⟩, td6⟩ ⟨rfl, hx⟩
              obtain ⟨pc, hpc, hpa⟩ := paired_get ppl hx
              have tp6 : Tups H5 H7 := Tups.but b6 ed0 (fun _ => gd_no_tup) (fun _ _ => gd_no_frz)
              have hpa7 := hpa.go tp6
              obtain ⟨a7, b7, rfl, h71, h72⟩ := id hpa7
              have hqt := paired_len pq
              have hlt : (((PM.piecesWith wd.1 g.1 len).take k).foldl PM.addOne tc).length ≤ 2000000 := by
                have := addOne_len tc ((PM.piecesWith wd.1 g.1 len).take k)
                rw [List.length_take] at this
                omega
              refine ⟨.ref dc, rfl, dc, qs, rfl, .inl ed, .ref a7, rfl, a7, nk pc, qs, rfl, .inl ed, tal_keys pq, pc_key hpa7, ?_⟩
              rw [tal_getD pq pc]
              refine ⟨_, _, rfl, rfl, .ref dc, rfl, .ref a7, rfl, dc, a7, nk pc, qs, rfl, rfl, ed, tal_keys pq, pc_key hpa7, by rw [hqt, sizeLine_eq]; omega, ?_⟩
              refine ⟨_, rfl, fun b' o q' => ?_, b6.trans But.at, ⟨_, upd_same, ?_⟩, td6.other hne2 ed⟩
              · rw [upd_ne (ne_of_none q' hn0)]
                exact s6 b' o q'
              · rw [take_snoc hpc, List.foldl_append]
                exact tal_put (paired_mono (fun _ _ z => z.go (Tups.gd ed)) pq) (hpa7.go (Tups.gd ed))
            · rintro σ H6 ⟨v12, rfl, s6, b6, td, td6⟩
              rw [hpl5, List.take_length] at td
              obtain ⟨z1, z2⟩ := hfin H6 td td6
              exact key _ _ _ _ _ _ s6 z1 z2
      · rintro σ H3 ⟨v8, v9, v10, v11, v12, rfl, s3, t3, t4, l3, l4⟩
        rw [hug, List.take_length] at t3 t4 l3 l4
        refine ⟨_, _, _, _, _, _, _, rfl, s3, ?_, ?_, ?_, ?_⟩
        · rw [take_snoc hw, List.foldl_append, hs]
          exact t3
        · rw [take_snoc hw, List.foldl_append, hs]
          exact t4
        · rw [take_snoc hw, List.foldl_append, hs]
          show (wd.2.foldl (PM.tallyGap odd wd.1 len) st).1.length ≤ _
          omega
        · rw [take_snoc hw, List.foldl_append, hs]
          show (wd.2.foldl (PM.tallyGap odd wd.1 len) st).2.length ≤ _
          omega
    · rintro σ H1 ⟨v6, v7, v8, v9, v10, v11, v12, rfl, s1, t1, t2, l1, l2⟩
      rw [paired_len pu, List.take_length] at t1 t2
      refine ⟨_, rfl, _, rfl, by show 2 ≤ sizeLine; decide, fun t nt => ?_⟩
      exact q _ t d1 d2 (s1.new nt) h12 upd_same (t1.same (same_upd nt)) (t2.same (same_upd nt))
end
end PR
set_option Elab.async false
set_option linter.all false
set_option maxRecDepth 100000
set_option maxHeartbeats 2000000
/-! # rounds: candidates_of -/
namespace PR
open PySem PySem.Spec PyProof.Rows L2
def CandAt (H : Hp) (v : V) (c : PM.Cand) : Prop := ∃ t a b, v = .ref t ∧ H t = some (.tup [.ref a, .ref b, .int c.helped, .int c.hurt]) ∧ Rd H a (.tup (iv c.piece)) ∧ Rd H b (.tup (iv c.digits))
theorem CandAt.go {H H' : Hp} {v : V} {c : PM.Cand} (h : CandAt H v c) (t : Tups H H') : CandAt H' v c := by
  obtain ⟨x, a, b, e1, e2, e3, e4⟩ := h
  exact ⟨x, a, b, e1, t.1 _ _ e2, t.rd e3, t.rd e4⟩
/-- each key of the tally has its gap within its piece -/
def TalOk (t : PM.Tally) : Prop := ∀ e ∈ t, 0 ≤ e.1.2 ∧ e.1.2.toNat ≤ PM.lettersIn e.1.1 ∧ e.1.1.length ≤ 1000
def spCands (w : World) : Sp := fun vs H Q _ => ∃ (p : Addr) (us : List V) (ws : PM.Words) (v : Int) (len : Nat), vs = [.ref p, .int v, .int (len : Int)] ∧ H p = some (.lst us) ∧ Paired (WdAt p H) us ws ∧ WsOk ws ∧ len ≤ 100 ∧ TalOk (PM.tally ws v len).1 ∧
  ∀ H' l us, Same H H' → H l = none → H' l = some (.lst us) → Paired (CandAt H') us (PM.candidatesOf ws v len) → Q (.ref l) H'
theorem tally_len (ws : PM.Words) (v : Int) (len : Nat) (hok : WsOk ws) (hlen : len ≤ 100) : (PM.tally ws v len).1.length ≤ 1100000 := by
  have hw : ∀ (odd : Bool) (x : PM.Ns × List PM.Gap) (s : PM.Tally × PM.Tally), (PM.tallyWord odd len s x).1.length ≤ s.1.length + x.2.length * 101 := fun odd x s => by
    unfold PM.tallyWord
    generalize x.2 = gs
    induction gs generalizing s with
    | nil => show s.1.length ≤ _; omega
    | cons g r ih =>
      rw [List.foldl_cons, List.length_cons]
      have h1 := ih (PM.tallyGap odd x.1 len s g)
      have h2 := (gap_len odd x.1 len s g).1
      omega
  obtain ⟨h1, h2⟩ := hok
  unfold PM.tally
  have key : ∀ (l : PM.Words) (s : PM.Tally × PM.Tally), (∀ x ∈ l, x.2.length ≤ 100) → (l.foldl (PM.tallyWord (decide (v % 2 = 1)) len) s).1.length ≤ s.1.length + l.length * 10100 := fun l => by
    induction l with
    | nil => intro s _; show s.1.length ≤ _; omega
    | cons x r ih =>
      intro s hx
      rw [List.foldl_cons, List.length_cons]
      have a1 := ih (PM.tallyWord (decide (v % 2 = 1)) len s x) (fun y hy => hx y (List.mem_cons_of_mem _ hy))
      have a2 := hw (decide (v % 2 = 1)) x s
      have a3 := hx x List.mem_cons_self
      omega
  have := key ws ([], []) (fun x hx => (h2 x hx).2.1)
  show (ws.foldl (PM.tallyWord (decide (v % 2 = 1)) len) ([], [])).1.length ≤ _
  have e0 : (([], []) : PM.Tally × PM.Tally).1.length = 0 := rfl
  omega
section
variable {P : Program} {w : World} {K : PySem.W.Frag} {mg : Str → Option Value} {base : Heap} {k : Nat} {f : Addr} {fd : FuncData}
theorem ok_candidates_of {f_tally : Addr} {fd_tally : FuncData} {f_single_digits : Addr} {fd_single_digits : FuncData} (D : Dfn K mg "candidates_of" s_candidates_of ["words", "level", "length"] f fd) (B : Blt mg)
    (D_tally : Dfn K mg "tally" s_tally ["words", "level", "length"] f_tally fd_tally) (G_tally : FnOk P w K mg base CX0 k f_tally fd_tally ["words", "level", "length"] (spTally w))
    (D_single_digits : Dfn K mg "single_digits" s_single_digits ["piece", "gap", "level"] f_single_digits fd_single_digits) (G_single_digits : FnOk P w K mg base CX0 k f_single_digits fd_single_digits ["piece", "gap", "level"] spSingle) :
    FnOk P w K mg base CX0 (k + 1) f fd ["words", "level", "length"] (spCands w) := by
  refine D.F.ok sc_candidates_of (fun vs H Q E h => ?_) (fun cdv A outer s H vs Q E hr h => ?_)
  · obtain ⟨p, us, ws, v, len, rfl, _⟩ := h; rfl
  · obtain ⟨p, us, ws, v, len, rfl, hp, pu, hok, hlen, htok, q⟩ := h
    refine ⟨_, pss_cons (ps_asg (pe_call G_tally hr (by rfl) D_tally.g D_tally.F.kp D_tally.b .nil pass0 (pa_cons (pv 0) (pa_cons (pv 1) (pa_cons (pv 2) pa_nil)))) (pg_tup rfl (pgs_cons (pg_name (i := 3) sc_candidates_of.nd rfl (.inl rfl)) (pgs_cons (pg_name (i := 4) sc_candidates_of.nd rfl (.inl rfl)) pgs_nil))))
    (pss_cons (ps_set (i := 5) sc_candidates_of.nd rfl (.inl rfl) (pe_lst pa_nil))
    (pss_cons (ps_lock (ps_for PassesOwn.never rfl (pi_itemsR (pv 3)) (pg_tup rfl (pgs_cons (pg_name (i := 6) sc_candidates_of.nd rfl (.inl rfl)) (pgs_cons (pg_name (i := 7) sc_candidates_of.nd rfl (.inl rfl)) pgs_nil)))
      (pss_cons (ps_asg (pv 6) (pg_tup rfl (pgs_cons (pg_name (i := 8) sc_candidates_of.nd rfl (.inl rfl)) (pgs_cons (pg_name (i := 9) sc_candidates_of.nd rfl (.inl rfl)) pgs_nil))))
        (pss_one (ps_expr (pe_bm PySem.F.plainAttrs_list PySem.F.slot_list_append PySem.F.type_list_append mt_append (pv 5) (pa_cons (pe_tup (pa_cons (pv 8) (pa_cons (pe_call G_single_digits hr (by rfl) D_single_digits.g D_single_digits.F.kp D_single_digits.b .nil pass0 (pa_cons (pv 8) (pa_cons (pv 9) (pa_cons (pv 1) pa_nil)))) (pa_cons (pv 7) (pa_cons (pe_gget2 (hu_of9 hr) (pv 4) (pv 6) (pe_int) ⟨by rfl, by rfl, by rfl, by rfl⟩) pa_nil))))) pa_nil)))))))
    (pss_one (ps_ret (pv 5))))), ?_⟩
    refine ⟨.ref p, rfl, .int v, rfl, _, rfl, p, us, ws, v, len, rfl, hp, pu, hok, hlen, fun Hc t d1 d2 sc h12 et t1 t2 => ?_⟩
    refine ⟨t, _, rfl, seqT et, rfl, _, _, rfl, _, _, rfl, rfl, Nat.zero_le _, fun l nl => ?_⟩
    obtain ⟨qs1, ed1, pq1⟩ := t1
    obtain ⟨qs2, ed2, pq2⟩ := t2
    have htl := tally_len ws v len hok hlen
    have hql := paired_len pq1
    have hd21 : d2 ≠ d1 := fun z => h12 z.symm
    have hl1 : l ≠ d1 := fun z => by rw [z, ed1] at nl; cases nl
    have hl2 : l ≠ d2 := fun z => by rw [z, ed2] at nl; cases nl
    have nl0 : H l = none := sc.free nl
    have s1 : Same Hc (upd Hc l (.lst [])) := same_upd nl
    refine ⟨d1, gdO w d1 qs1, s1 _ _ ed1, True.intro, fun od => ?_⟩
    have tpl : Tups Hc (upd (upd Hc l (.lst [])) d1 (.frz od (gdO w d1 qs1))) := (Tups.of s1).trans (Tups.lock (s1 _ _ ed1))
    have ed2' : upd (upd Hc l (.lst [])) d1 (.frz od (gdO w d1 qs1)) d2 = some (gdO w d2 qs2) := by
      rw [upd_ne hd21]
      exact s1 _ _ ed2
    have el0 : upd (upd Hc l (.lst [])) d1 (.frz od (gdO w d1 qs1)) l = some (.lst []) := by rw [upd_ne hl1, upd_same]
    refine ⟨.ref d1, rfl, d1, od, gdO w d1 qs1, qs1.length, _, rfl, upd_same, rawG, ?_⟩
    have hcl : (PM.candidatesOf ws v len).length = (PM.tally ws v len).1.length := by
      unfold PM.candidatesOf
      rw [List.length_map]
    refine for_it walkR (fun i σ H' => ∃ v6 v7 v8 v9 : Option V, σ = [some (.ref p), some (.int v), some (.int (len : Int)), some (.ref d1), some (.ref d2), some (.ref l), v6, v7, v8, v9] ∧ But l (upd (upd Hc l (.lst [])) d1 (.frz od (gdO w d1 qs1))) H' ∧
        ∃ us, H' l = some (.lst us) ∧ Paired (CandAt H') us ((PM.candidatesOf ws v len).take i))
      ⟨none, none, none, none, rfl, But.refl, [], el0, .nil⟩ (fun i σ H' _ hp' => ?_) ?_ ?_
    · obtain ⟨_, _, _, _, _, b1, _⟩ := hp'
      exact b1 _ _ hl1.symm upd_same
    · rintro i y σ H1 H2 hi ⟨v6, v7, v8, v9, rfl, b1, us, el, pus⟩ ⟨T, qa, x, ⟨k, hk⟩, rfl, nT, rfl⟩
      obtain ⟨e, he, he1, ⟨b, he2, he3⟩, he4⟩ := paired_get pq1 hk
      dsimp only at he1 he2 he4
      subst he1 he4
      obtain ⟨g1, g2, g3⟩ := htok e (List.mem_of_getElem? he)
      have tp1 : Tups (upd (upd Hc l (.lst [])) d1 (.frz od (gdO w d1 qs1))) H1 := Tups.but b1 el0 (fun _ z => nomatch z) (fun _ _ z => nomatch z)
      have s2 : Same H1 (upd H1 T (.tup [.ref qa, .int e.2])) := same_upd nT
      have tp2 := (tpl.trans tp1).trans (Tups.of s2)
      have eqa := tp2.1 _ _ he2
      have eb := tp2.nice he3
      have b2 := b1.trans (But.of s2)
      have eT : upd H1 T (.tup [.ref qa, .int e.2]) T = some (.tup [.ref qa, .int e.2]) := upd_same
      generalize upd H1 T (.tup [.ref qa, .int e.2]) = H2 at s2 tp2 eqa eb b2 eT
      refine ⟨T, _, rfl, seqT eT, rfl, _, _, rfl, _, _, rfl, rfl, ?_⟩
      have hgi : e.1.2 = ((e.1.2.toNat : Nat) : Int) := (Int.toNat_of_nonneg g1).symm
      refine ⟨.ref qa, rfl, qa, _, rfl, seqT eqa, rfl, _, _, rfl, _, _, rfl, rfl, ?_⟩
      refine ⟨.ref l, rfl, .inl ⟨rfl, _, seqL (s2 _ _ el)⟩, .ref b, rfl, .ref b, rfl, _, rfl, _, rfl, b, e.1.1, e.1.2.toNat, v, by rw [← hgi]; rfl, eb, g3, g2, fun H5 t5 s5 e5 => ?_⟩
      have ed25 := s5 _ _ (b2 _ _ hl2.symm ed2')
      have pq25 : Paired (TEnt H5) qs2 (PM.tally ws v len).2 := paired_mono (fun _ _ z => (z.go tp2).go (Tups.of s5)) pq2
      refine ⟨_, rfl, .ref d2, rfl, d2, qs2, rfl, .inl ed25, .ref qa, rfl, qa, nk e.1, qs2, rfl, .inl ed25, tal_keys pq25, pc_key ⟨qa, b, rfl, s5 _ _ eqa, eb.same s5⟩, ?_⟩
      rw [tal_getD pq25 e.1]
      refine ⟨by show 4 ≤ sizeLine; decide, fun t nt => ?_⟩
      have s6 := (s2.trans s5).trans (same_upd (o := .tup [.ref b, .ref t5, .int e.2, .int ((PM.dget (PM.tally ws v len).2 e.1).getD 0)]) nt)
      have el6 := s6 _ _ el
      have hul := paired_len pus
      rw [List.length_take] at hul
      refine ⟨l, us, _, rfl, rfl, el6, by rw [sizeLine_eq]; omega, ?_⟩
      refine ⟨_, _, _, _, rfl, (b1.trans (But.of s6)).trans But.at, us ++ [.ref t], upd_same, ?_⟩
      have hce : (PM.candidatesOf ws v len)[i]? = some (PM.candOf v (PM.tally ws v len).2 e) := by
        unfold PM.candidatesOf
        rw [List.getElem?_map, he]
        rfl
      rw [take_snoc hce]
      refine Paired.snoc (paired_mono (fun _ _ z => (z.go (Tups.of s6)).go (Tups.lst el6)) pus) (CandAt.go ⟨t, b, t5, rfl, upd_same, ?_, ?_⟩ (Tups.lst el6))
      · exact (((eb.same s5).same (same_upd nt))).rd
      · exact .inl ((same_upd nt) _ _ e5)
    · rintro σ H1 ⟨v6, v7, v8, v9, rfl, b1, us, el, pus⟩
      have ewd : H1 d1 = some (.frz od (gdO w d1 qs1)) := b1 _ _ hl1.symm upd_same
      refine ⟨ewd, .ref l, rfl, q _ l us ?_ nl0 ?_ ?_⟩
      · intro c o z
        have hcl : c ≠ l := ne_of_none z nl0
        have zc := sc _ _ z
        by_cases hc : c = d1
        · rw [hc, upd_same, ← ed1, ← hc, zc]
        · rw [upd_ne hc]
          refine b1 _ _ hcl ?_
          rw [upd_ne hc, upd_ne hcl]
          exact zc
      · rw [upd_ne hl1]
        exact el
      · rw [List.take_of_length_le (by rw [hcl, hql]; exact Nat.le_refl _)] at pus
        exact paired_mono (fun _ _ z => z.go (Tups.unlock ewd)) pus
end
end PR
set_option Elab.async false
set_option linter.all false
set_option maxRecDepth 100000
set_option maxHeartbeats 2000000
/-! # rounds: after_round -/
namespace PR
open PySem PySem.Spec PyProof.Rows L2
abbrev s_after_round : Stmt := topS 60
theorem sc_after_round : FnScope ["held", "patterns", "numbers", "level", "length", "gain", "loss", "threshold", "candidates", "after", "piece", "digits", "counts", "helped", "hurt"] ["held", "patterns", "numbers"] (defScope s_after_round) := ⟨rfl, rfl, rfl, by decide +kernel, rfl, by decide +kernel, by decide +kernel⟩
theorem lv_ok {row : PM.Ns} (h : PM.RowOk row) {pats : PM.Dict} (hp : PM.PatsOk pats) : LvOk row pats := fun b e ds h1 h2 hg => PM.level_ok h (fun x hx => (hp.1 x hx).1) h1 h2 hg
theorem hl_ok {h : PM.Held} (ho : PM.HeldOk h) : HlOk h := ⟨ho.1, ho.2.1⟩
theorem words_lv {h : PM.Held} (ho : PM.HeldOk h) {pats : PM.Dict} (hp : PM.PatsOk pats) : ∀ e ∈ h.words, e.1.length ≤ 1000 ∧ LvOk e.1 pats := fun e he => by
  have hr := ho.2.2.2.1 e he
  have := hr.len
  exact ⟨by omega, lv_ok hr hp⟩
theorem ws_ok {h : PM.Held} (ho : PM.HeldOk h) (pats : PM.Dict) : WsOk (PM.partedWords h pats) := by
  refine ⟨?_, fun x hx => ?_⟩
  · unfold PM.partedWords
    rw [List.length_map]
    exact ho.2.2.1
  · have hx2 := PM.parted_ok ho pats x hx
    have hlen := hx2.1.len
    refine ⟨by omega, ?_, fun g hg => ?_⟩
    · unfold PM.partedWords at hx
      obtain ⟨e, he, rfl⟩ := List.mem_map.mp hx
      have h1 := (ho.2.2.2.1 e he).len
      show ((PM.innerGaps h e.1 pats).map _).length ≤ 100
      rw [List.length_map]
      have := gaps_len h e.1 pats
      omega
    · have := hx2.2 g hg
      omega
theorem tal_ok {ws : PM.Words} (h : PM.WdsOk ws) (v : Int) {len : Nat} (hl : 1 ≤ len) : TalOk (PM.tally ws v len).1 := fun e he => by
  obtain ⟨h1, h2, h3, _⟩ := (PM.tally_ok h v hl).1 e he
  exact ⟨h1, h2, h3⟩
def spAfter (w : World) (C : Addr) : Sp := fun vs H Q _ => ∃ (x d a : Addr) (h : PM.Held) (pats : PM.Dict) (ns : PM.Ns), vs = [.ref x, .ref d, .ref a] ∧ HeldAt w C H x h ∧ PM.HeldOk h ∧ DictAt w false H d pats ∧ PM.PatsOk pats ∧ pats.length ≤ 100000 ∧
  H a = some (.lst (iv ns)) ∧ ns.length = 5 ∧ PM.isRound ns = true ∧ ∀ H' t d' l, Same H H' → H d' = none → H l = none → H' t = some (.tup [.ref d', .ref l]) → DictAt w false H' d' (PM.afterRound h pats (PM.toRnd ns)).1 → H' l = some (.lst (iv (PM.afterRound h pats (PM.toRnd ns)).2)) → Q (.ref t) H'
theorem round_nums {ns : PM.Ns} (h5 : ns.length = 5) (hr : PM.isRound ns = true) : ∃ (v g b t : Int) (len : Nat), ns = [v, (len : Int), g, b, t] ∧ PM.toRnd ns = ⟨v, len, g, b, t⟩ ∧ (1 ≤ v ∧ v ≤ 9) ∧ (1 ≤ len ∧ len ≤ 8) ∧ (0 ≤ g ∧ g ≤ 1000) ∧ (0 ≤ b ∧ b ≤ 1000) ∧ (0 ≤ t ∧ t ≤ 1000) := by
  match ns, h5 with
  | [v, l, g, b, t], _ =>
    have e : (((decide (1 ≤ v) && decide (v ≤ 9)) && (decide (1 ≤ l) && decide (l ≤ 8))) && ((decide (0 ≤ g) && decide (g ≤ 1000)) && ((decide (0 ≤ b) && decide (b ≤ 1000)) && ((decide (0 ≤ t) && decide (t ≤ 1000)) && true)))) = true := hr
    simp only [Bool.and_eq_true, decide_eq_true_eq] at e
    refine ⟨v, g, b, t, l.toNat, ?_, rfl, by omega, by omega, by omega, by omega, by omega⟩
    rw [show ((l.toNat : Nat) : Int) = l from by omega]
theorem take_dput {d : PM.Dict} (hn : (d.map (·.1)).Nodup) {i : Nat} {e : PM.Ns × PM.Ns} (he : d[i]? = some e) : PM.dput (d.take i) e.1 e.2 = d.take (i + 1) := by
  rw [take_snoc he]
  refine PM.dput_new fun x hx => ?_
  have h1 : d = d.take i ++ e :: d.drop (i + 1) := by
    rw [← drop_at he, List.take_append_drop]
  rw [h1, List.map_append, List.map_cons] at hn
  have h2 := (List.nodup_append.mp hn).2.2
  exact h2 x.1 (List.mem_map_of_mem hx) e.1 List.mem_cons_self
section
variable {P : Program} {w : World} {K : PySem.W.Frag} {mg : Str → Option Value} {base : Heap} {k : Nat} {f CH : Addr} {fd : FuncData}
theorem ok_after_round {f_candidates_of : Addr} {fd_candidates_of : FuncData} {f_parted_words : Addr} {fd_parted_words : FuncData} {f_put_pattern : Addr} {fd_put_pattern : FuncData} (D : Dfn K mg "after_round" s_after_round ["held", "patterns", "numbers"] f fd) (B : Blt mg)
    (D_candidates_of : Dfn K mg "candidates_of" s_candidates_of ["words", "level", "length"] f_candidates_of fd_candidates_of) (G_candidates_of : FnOk P w K mg base CX0 k f_candidates_of fd_candidates_of ["words", "level", "length"] (spCands w))
    (D_parted_words : Dfn K mg "parted_words" s_parted_words ["held", "patterns"] f_parted_words fd_parted_words) (G_parted_words : FnOk P w K mg base CX0 k f_parted_words fd_parted_words ["held", "patterns"] (spParted w CH))
    (D_put_pattern : Dfn K mg "put_pattern" s_put_pattern ["patterns", "piece", "digits"] f_put_pattern fd_put_pattern) (G_put_pattern : FnOk P w K mg base CX0 k f_put_pattern fd_put_pattern ["patterns", "piece", "digits"] (spPut w)) :
    FnOk P w K mg base CX0 (k + 1) f fd ["held", "patterns", "numbers"] (spAfter w CH) := by
  refine D.F.ok sc_after_round (fun vs H Q E h => ?_) (fun cdv A outer s H vs Q E hr h => ?_)
  · obtain ⟨x, d, a, h, pats, ns, rfl, _⟩ := h; rfl
  · obtain ⟨x, d, a, hl, pats, ns, rfl, hx, ho, hD, hp, hpl, ha, h5, hrn, q⟩ := h
    refine ⟨_, pss_cons (ps_asg (pv 2) (pg_unl rfl (pgs_cons (pg_name (i := 3) sc_after_round.nd rfl (.inl rfl)) (pgs_cons (pg_name (i := 4) sc_after_round.nd rfl (.inl rfl)) (pgs_cons (pg_name (i := 5) sc_after_round.nd rfl (.inl rfl)) (pgs_cons (pg_name (i := 6) sc_after_round.nd rfl (.inl rfl)) (pgs_cons (pg_name (i := 7) sc_after_round.nd rfl (.inl rfl)) pgs_nil)))))))
    (pss_cons (ps_set (i := 8) sc_after_round.nd rfl (.inl rfl) (pe_call G_candidates_of hr (by rfl) D_candidates_of.g D_candidates_of.F.kp D_candidates_of.b .nil pass0 (pa_cons (pe_call G_parted_words hr (by rfl) D_parted_words.g D_parted_words.F.kp D_parted_words.b .nil pass0 (pa_cons (pv 0) (pa_cons (pv 1) pa_nil))) (pa_cons (pv 3) (pa_cons (pv 4) pa_nil)))))
    (pss_cons (ps_set (i := 9) sc_after_round.nd rfl (.inl rfl) (pe_gnew))
    (pss_cons (ps_lock (ps_for PassesOwn.never rfl (pi_itemsR (pv 1)) (pg_tup rfl (pgs_cons (pg_name (i := 10) sc_after_round.nd rfl (.inl rfl)) (pgs_cons (pg_name (i := 11) sc_after_round.nd rfl (.inl rfl)) pgs_nil)))
      (pss_one (ps_gput (hu_of9 hr) (pv 9) (pv 10) (pv 11) rfl))))
    (pss_cons (ps_set (i := 12) sc_after_round.nd rfl (.inl rfl) (pe_lst (pa_cons (pe_int) (pa_cons (pe_callB call_len_seq (by rfl) B.len (by decide +kernel) (pa_cons (pv 8) pa_nil)) (pa_cons (pe_int) (pa_cons (pe_int) pa_nil))))))
    (pss_cons (ps_for PassesOwn.never rfl (pi_list (pv 8)) (pg_tup rfl (pgs_cons (pg_name (i := 10) sc_after_round.nd rfl (.inl rfl)) (pgs_cons (pg_name (i := 11) sc_after_round.nd rfl (.inl rfl)) (pgs_cons (pg_name (i := 13) sc_after_round.nd rfl (.inl rfl)) (pgs_cons (pg_name (i := 14) sc_after_round.nd rfl (.inl rfl)) pgs_nil)))))
      (pss_one (ps_if (pt_cmpR op_ge (pe_op op_mul (pv 5) (pv 13)) (pe_op op_add (pv 7) (pe_op op_mul (pv 6) (pv 14))) (nomark _))
          (pss_cons (ps_expr (pe_call G_put_pattern hr (by rfl) D_put_pattern.g D_put_pattern.F.kp D_put_pattern.b .nil pass0 (pa_cons (pv 9) (pa_cons (pv 10) (pa_cons (pv 11) pa_nil)))))
            (pss_one (ps_set (i := 12) sc_after_round.nd rfl (.inl rfl) (pe_lst (pa_cons (pe_op op_add (pe_ix ix_list (pv 12) (pe_int) (fun _ _ => rfl)) (pe_int)) (pa_cons (pe_ix ix_list (pv 12) (pe_int) (fun _ _ => rfl)) (pa_cons (pe_op op_add (pe_ix ix_list (pv 12) (pe_int) (fun _ _ => rfl)) (pv 13)) (pa_cons (pe_op op_add (pe_ix ix_list (pv 12) (pe_int) (fun _ _ => rfl)) (pv 14)) pa_nil)))))))) pss_nil)))
    (pss_one (ps_ret (pe_tup (pa_cons (pv 9) (pa_cons (pv 12) pa_nil)))))))))), ?_⟩
    obtain ⟨v, g, b, t, len, hns, hrd, hv, hlen, hg, hb, ht⟩ := round_nums h5 hrn
    rw [hrd] at q
    subst hns
    refine ⟨.ref a, rfl, a, _, rfl, seqL ha, rfl, _, _, rfl, _, _, rfl, _, _, rfl, _, _, rfl, _, _, rfl, rfl, ?_⟩
    have hpo := PM.parted_ok ho pats
    refine ⟨.ref x, rfl, .ref d, rfl, x, d, hl, pats, rfl, hx, hl_ok ho, hD.rd, by have := ho.2.2.1; omega, words_lv ho hp, fun H1 p us s1 np ep pu => ?_⟩
    refine ⟨_, rfl, _, rfl, p, us, _, v, len, rfl, ep, pu, ws_ok ho pats, by omega, tal_ok hpo v (by omega), fun H2 lc uc s2 nlc elc puc => ?_⟩
    intro dA ndA
    have s12 := s1.trans s2
    have ndA0 : H dA = none := s12.free ndA
    have hcn : (PM.candidatesOf (PM.partedWords hl pats) v len).length ≤ 1100000 := by
      unfold PM.candidatesOf
      rw [List.length_map]
      exact tally_len _ v len (ws_ok ho pats) (by omega)
    have hcok := PM.cands_ok hpo v (len := len) (by omega)
    have hcn2 := paired_len puc
    generalize hcs : PM.candidatesOf (PM.partedWords hl pats) v len = cs at puc hcn hcok hcn2
    have haft : PM.afterRound hl pats ⟨v, len, g, b, t⟩ = cs.foldl (PM.takeCand ⟨v, len, g, b, t⟩) (pats, [0, (cs.length : Int), 0, 0]) := by
      unfold PM.afterRound
      rw [hcs]
    rw [haft] at q
    -- the copy
    obtain ⟨qs, ed, pq⟩ := (hD.same s12).same (same_upd (o := gdO w dA []) ndA)
    have hdA : dA ≠ d := fun z => by
      obtain ⟨qs0, e0, _⟩ := hD.same s12
      rw [z, e0] at ndA
      cases ndA
    refine ⟨d, gdO w d qs, ed, True.intro, fun od => ?_⟩
    have eA0 : upd (upd H2 dA (gdO w dA [])) d (.frz od (gdO w d qs)) dA = some (gdO w dA []) := by rw [upd_ne hdA, upd_same]
    have tp0 : Tups (upd H2 dA (gdO w dA [])) (upd (upd H2 dA (gdO w dA [])) d (.frz od (gdO w d qs))) := Tups.lock ed
    have hqn := paired_len pq
    refine ⟨.ref d, rfl, d, od, gdO w d qs, qs.length, _, rfl, upd_same, rawG, ?_⟩
    refine for_it walkR (fun i σ H' => ∃ v10 v11 v12 v13 v14 : Option V, σ = [some (.ref x), some (.ref d), some (.ref a), some (.int v), some (.int (len : Int)), some (.int g), some (.int b), some (.int t), some (.ref lc), some (.ref dA), v10, v11, v12, v13, v14] ∧
        But dA (upd (upd H2 dA (gdO w dA [])) d (.frz od (gdO w d qs))) H' ∧ DictAt w false H' dA (pats.take i))
      ⟨none, none, none, none, none, rfl, But.refl, [], eA0, .nil⟩ (fun i σ H' _ hp' => ?_) ?_ ?_
    · obtain ⟨_, _, _, _, _, _, b1, _⟩ := hp'
      exact b1 _ _ hdA.symm upd_same
    · rintro i y σ H3 H4 hi ⟨v10, v11, v12, v13, v14, rfl, b1, hdc⟩ ⟨T, qa, z, ⟨k, hk⟩, rfl, nT, rfl⟩
      obtain ⟨e, he, he1, hko, bb, he2, he3⟩ := paired_get pq hk
      dsimp only at he1 he2 hko
      subst he1 he2
      have tp1 : Tups (upd (upd H2 dA (gdO w dA [])) d (.frz od (gdO w d qs))) H3 := Tups.but b1 eA0 (fun _ => gd_no_tup) (fun _ _ => gd_no_frz)
      have s4 : Same H3 (upd H3 T (.tup [.ref qa, .ref bb])) := same_upd nT
      have tp2 := (tp0.trans tp1).trans (Tups.of s4)
      obtain ⟨qsA, edA, pqA⟩ := hdc.same s4
      have hqa := tp2.ko hko
      have hnA := paired_len pqA
      rw [List.length_take] at hnA
      refine ⟨T, _, rfl, seqT upd_same, rfl, _, _, rfl, _, _, rfl, rfl, ?_⟩
      refine ⟨.ref bb, rfl, .ref dA, rfl, .ref qa, rfl, dA, qa, tk e.1, qsA, rfl, rfl, edA, dict_keys pqA, hqa.key, len_lt (by omega), ?_⟩
      refine ⟨_, _, _, _, _, rfl, (b1.trans (But.of s4)).trans But.at, ?_⟩
      rw [← take_dput hp.2 he]
      exact ⟨_, upd_same, dict_put (paired_mono (fun _ _ z => z.go (Tups.gd edA)) pqA) ((Tups.gd edA).ko hqa) ((Tups.gd edA).rd (tp2.rd he3))⟩
    rintro σ H3 ⟨v10, v11, v12, v13, v14, rfl, b1, hdc⟩
    have ewd : H3 d = some (.frz od (gdO w d qs)) := b1 _ _ hdA.symm upd_same
    refine ⟨ewd, ?_⟩
    rw [List.take_of_length_le (by rw [hqn]; exact Nat.le_refl _)] at hdc
    -- all stands again
    have s3 : Same H2 (upd H3 d (gdO w d qs)) := fun c o z => by
      have hcA : c ≠ dA := ne_of_none z ndA
      by_cases hc : c = d
      · rw [hc, upd_same, ← ed, ← hc, upd_ne hcA, z]
      · rw [upd_ne hc]
        refine b1 _ _ hcA ?_
        rw [upd_ne hc, upd_ne hcA]
        exact z
    have hdc2 : DictAt w false (upd H3 d (gdO w d qs)) dA pats := hdc.go (fun qs' z => by rw [upd_ne hdA]; exact z) (Tups.unlock ewd)
    generalize upd H3 d (gdO w d qs) = H5 at s3 hdc2
    have s05 := s12.trans s3
    have hlcA : lc ≠ dA := fun z => by
      obtain ⟨qs', e', _⟩ := hdc2
      have z2 := s3 _ _ elc
      rw [z, e'] at z2
      exact gd_no_lst (Option.some.inj z2)
    have elc5 := s3 _ _ elc
    refine ⟨.ref lc, rfl, lc, _, rfl, .inl (seqL elc5), by show 4 ≤ sizeLine; decide, fun ln nln => ?_⟩
    rw [hcn2]
    have s6 : Same H5 (upd H5 ln (.lst [.int 0, .int (cs.length : Int), .int 0, .int 0])) := same_upd nln
    refine ⟨.ref lc, rfl, lc, rfl, ⟨_, seqL (s6 _ _ elc5)⟩, for_it (walk_list (xs := uc)) (fun i σ H' => ∃ (l : Addr) (n0 n1 n2 n3 : Int) (v10 v11 v13 v14 : Option V), σ = [some (.ref x), some (.ref d), some (.ref a), some (.int v), some (.int (len : Int)), some (.int g), some (.int b), some (.int t), some (.ref lc), some (.ref dA), v10, v11, some (.ref l), v13, v14] ∧
        Same H H' ∧ But dA H5 H' ∧ H l = none ∧ l ≠ dA ∧ H' l = some (.lst (iv [n0, n1, n2, n3])) ∧ ((cs.take i).foldl (PM.takeCand ⟨v, len, g, b, t⟩) (pats, [0, (cs.length : Int), 0, 0])).2 = [n0, n1, n2, n3] ∧
        DictAt w false H' dA ((cs.take i).foldl (PM.takeCand ⟨v, len, g, b, t⟩) (pats, [0, (cs.length : Int), 0, 0])).1 ∧ PM.PatsOk ((cs.take i).foldl (PM.takeCand ⟨v, len, g, b, t⟩) (pats, [0, (cs.length : Int), 0, 0])).1 ∧ ((cs.take i).foldl (PM.takeCand ⟨v, len, g, b, t⟩) (pats, [0, (cs.length : Int), 0, 0])).1.length ≤ pats.length + i)
      ⟨ln, 0, _, 0, 0, _, _, _, _, rfl, s05.trans s6, But.of s6, s05.free nln, ?_, upd_same, rfl, hdc2.same s6, hp, Nat.le_refl _⟩ (fun i σ H' _ hp' => ?_) ?_ ?_⟩
    · exact fun z => by
        obtain ⟨qs', e', _⟩ := hdc2
        rw [z, e'] at nln
        cases nln
    · obtain ⟨_, _, _, _, _, _, _, _, _, _, _, b7, _⟩ := hp'
      exact seqL (b7 _ _ hlcA elc5)
    · rintro i y σ H7 H8 hi ⟨l, n0, n1, n2, n3, v10, v11, v13, v14, rfl, s7, b7, nl, nlA, el, e2, hd7, hp7, hl7⟩ ⟨rfl, hy⟩
      obtain ⟨c, hc, hca⟩ := paired_get puc hy
      obtain ⟨qs5, e5, _⟩ := id hdc2
      have tp7 : Tups H5 H8 := Tups.but b7 e5 (fun _ => gd_no_tup) (fun _ _ => gd_no_frz)
      obtain ⟨tt, pa, db, rfl, et, epa, edb⟩ := (hca.go (Tups.of s3)).go tp7
      have hcp := hcok c (List.mem_of_getElem? hc)
      have hsame := PM.put_same_len hp7 hcp
      generalize hst : (cs.take i).foldl (PM.takeCand ⟨v, len, g, b, t⟩) (pats, [0, (cs.length : Int), 0, 0]) = st at e2 hd7 hp7 hl7 hsame
      have hstep : (cs.take (i + 1)).foldl (PM.takeCand ⟨v, len, g, b, t⟩) (pats, [0, (cs.length : Int), 0, 0]) = PM.takeCand ⟨v, len, g, b, t⟩ st c := by
        rw [take_snoc hc, List.foldl_append, hst]
        rfl
      rw [hstep]
      refine ⟨tt, _, rfl, seqT et, rfl, _, _, rfl, _, _, rfl, _, _, rfl, _, _, rfl, rfl, ?_⟩
      refine ⟨_, rfl, _, rfl, _, _, rfl, rfl, .inl ⟨by omega, by omega⟩, _, rfl, _, rfl, _, rfl, _, _, rfl, rfl, .inl ⟨by omega, by omega⟩, _, _, rfl, rfl, _, _, rfl, rfl, _, rfl, ?_⟩
      have hdl : c.digits.length ≤ 2000 := by
        have h1 : c.digits.length = PM.lettersIn c.piece + 1 := hcp.1
        have h2 : c.piece.length ≤ 1000 := hcp.2.1
        unfold PM.lettersIn at h1
        omega
      have hci : i < cs.length := (List.getElem?_eq_some_iff.mp hc).1
      refine if_b (fun g1 => ?_) (fun g1 => ?_)
      · have g2 : t + b * c.hurt ≤ g * c.helped := of_decide_eq_true g1
        rw [show PM.takeCand ⟨v, len, g, b, t⟩ st c = (PM.putPattern st.1 c.piece c.digits, [st.2.getD 0 0 + 1, st.2.getD 1 0, st.2.getD 2 0 + c.helped, st.2.getD 3 0 + c.hurt]) from if_pos g2, e2]
        refine ⟨.ref dA, rfl, .ref pa, rfl, .ref db, rfl, dA, pa, db, st.1, c.piece, c.digits, rfl, hd7, epa, edb, hdl, by omega, hsame, fun H9 b9 hd9 => ?_⟩
        have el9 := b9 _ _ nlA el
        have s9 := But.new s7 ndA0 b9
        refine ⟨.ref l, rfl, l, _, 0, _, rfl, rfl, seqL el9, atI_nat (j := 0) rfl, _, _, rfl, rfl, .ref l, rfl, l, _, 1, _, rfl, rfl, seqL el9, atI_nat (j := 1) rfl, .ref l, rfl, l, _, 2, _, rfl, rfl, seqL el9, atI_nat (j := 2) rfl, _, rfl, _, _, rfl, rfl,
          .ref l, rfl, l, _, 3, _, rfl, rfl, seqL el9, atI_nat (j := 3) rfl, _, rfl, _, _, rfl, rfl, by show 4 ≤ sizeLine; decide, fun l2 nl2 => ?_⟩
        have hpl2 := PM.put_len st.1 c.piece c.digits
        refine ⟨l2, _, _, _, _, _, _, _, _, rfl, s9.new nl2, (b7.trans b9).trans (But.of (same_upd nl2)), s9.free nl2, ?_, upd_same, rfl, hd9.same (same_upd nl2), PM.put_ok hp7 hcp, by show (PM.putPattern st.1 c.piece c.digits).length ≤ _; omega⟩
        exact fun z => by
          obtain ⟨qs', e', _⟩ := hd9
          rw [z, e'] at nl2
          cases nl2
      · have g2 : ¬ t + b * c.hurt ≤ g * c.helped := of_decide_eq_false g1
        rw [show PM.takeCand ⟨v, len, g, b, t⟩ st c = st from if_neg g2]
        exact ⟨l, n0, n1, n2, n3, _, _, _, _, rfl, s7, b7, nl, nlA, el, e2, hd7, hp7, by omega⟩
    · rintro σ H7 ⟨l, n0, n1, n2, n3, v10, v11, v13, v14, rfl, s7, b7, nl, nlA, el, e2, hd7, hp7, hl7⟩
      rw [hcn2, List.take_length] at e2 hd7
      refine ⟨_, rfl, _, rfl, by show 2 ≤ sizeLine; decide, fun tt nt => ?_⟩
      refine q _ tt dA l (s7.new nt) ndA0 nl upd_same (hd7.same (same_upd nt)) ?_
      rw [(same_upd nt) _ _ el, e2]
end
end PR
set_option Elab.async false
set_option linter.all false
set_option maxRecDepth 100000
set_option maxHeartbeats 2000000
/-! # learning: the learner -/
namespace PR
open PySem PySem.Spec PyProof.Rows L2
abbrev s_Learner___init__ : Stmt := inClass (topS 71) 0
theorem sc_Learner___init__ : FnScope ["self"] ["self"] (defScope s_Learner___init__) := ⟨rfl, rfl, rfl, by decide +kernel, rfl, by decide +kernel, by decide +kernel⟩
abbrev s_Learner_keep : Stmt := inClass (topS 71) 1
theorem sc_Learner_keep : FnScope ["self", "patterns"] ["self", "patterns"] (defScope s_Learner_keep) := ⟨rfl, rfl, rfl, by decide +kernel, rfl, by decide +kernel, by decide +kernel⟩
abbrev s_Learner_hold : Stmt := inClass (topS 71) 2
theorem sc_Learner_hold : FnScope ["self", "held"] ["self", "held"] (defScope s_Learner_hold) := ⟨rfl, rfl, rfl, by decide +kernel, rfl, by decide +kernel, by decide +kernel⟩
abbrev s_told_pattern : Stmt := topS 76
theorem sc_told_pattern : FnScope ["piece", "digits", "told"] ["piece", "digits"] (defScope s_told_pattern) := ⟨rfl, rfl, rfl, by decide +kernel, rfl, by decide +kernel, by decide +kernel⟩
abbrev s_score : Stmt := topS 80
theorem sc_score : FnScope ["learner"] ["learner"] (defScope s_score) := ⟨rfl, rfl, rfl, by decide +kernel, rfl, by decide +kernel, by decide +kernel⟩
abbrev s_patterns_now : Stmt := topS 79
theorem sc_patterns_now : FnScope ["learner", "answer", "piece", "digits"] ["learner"] (defScope s_patterns_now) := ⟨rfl, rfl, rfl, by decide +kernel, rfl, by decide +kernel, by decide +kernel⟩
/-! ### the learner in the heap -/
def lnF (hv : V) (pd el : Addr) : List (Str × V) := [(("held" : Str), hv), (("patterns" : Str), .ref pd), (("earlier" : Str), .ref el)]
theorem lnF_held (hv : V) (pd el : Addr) : (lnF hv pd el).lookup ("held" : Str) = some hv := lookup_here
theorem lnF_pats (hv : V) (pd el : Addr) : (lnF hv pd el).lookup ("patterns" : Str) = some (.ref pd) := (lookup_none2 (by decide +kernel)).trans lookup_here
theorem lnF_earlier (hv : V) (pd el : Addr) : (lnF hv pd el).lookup ("earlier" : Str) = some (.ref el) := (lookup_none2 (by decide +kernel)).trans ((lookup_none2 (by decide +kernel)).trans lookup_here)
theorem lnF_no (hv : V) (pd el : Addr) {m : Str} (h1 : (m == ("held" : Str)) = false) (h2 : (m == ("patterns" : Str)) = false) (h3 : (m == ("earlier" : Str)) = false) : (lnF hv pd el).lookup m = none := lookup_none1 h1 (lookup_none1 h2 (lookup_none1 h3 rfl))
def HvAt (w : World) (C : Addr) (H : Hp) (hv : V) (held : Option PM.Held) : Prop := match held with
  | none => hv = .non
  | some h => ∃ x, hv = .ref x ∧ HeldAt w C H x h
def DcAt (w : World) (H : Hp) (v : V) (d : PM.Dict) : Prop := ∃ b, v = .ref b ∧ DictAt w false H b d
def LrAt (w : World) (C CH : Addr) (H : Hp) (a : Addr) (s : PM.L) : Prop := ∃ dx hv pd el eds, H a = some (.ins C dx (lnF hv pd el)) ∧ HvAt w CH H hv s.held ∧ DictAt w false H pd s.pats ∧ H el = some (.lst eds) ∧ Paired (DcAt w H) eds s.earlier
theorem HvAt.same {w : World} {C : Addr} {H H' : Hp} {hv : V} {held : Option PM.Held} (h : HvAt w C H hv held) (s : Same H H') : HvAt w C H' hv held := by
  cases held with
  | none => exact h
  | some x =>
    obtain ⟨y, e, g⟩ := h
    exact ⟨y, e, g.same s⟩
theorem DcAt.same {w : World} {H H' : Hp} {v : V} {d : PM.Dict} (h : DcAt w H v d) (s : Same H H') : DcAt w H' v d := by
  obtain ⟨b, e, g⟩ := h
  exact ⟨b, e, g.same s⟩
theorem LrAt.same {w : World} {C CH : Addr} {H H' : Hp} {a : Addr} {s : PM.L} (h : LrAt w C CH H a s) (k : Same H H') : LrAt w C CH H' a s := by
  obtain ⟨dx, hv, pd, el, eds, h1, h2, h3, h4, h5⟩ := h
  exact ⟨dx, hv, pd, el, eds, k _ _ h1, h2.same k, h3.same k, k _ _ h4, paired_mono (fun _ _ z => z.same k) h5⟩
theorem ln_ne {C CH dx dx' : Addr} {hv : V} {pd el wd pd' : Addr} {h : PM.Held} : HO.ins C dx (lnF hv pd el) ≠ .ins CH dx' (hlF h wd pd') := fun z => by
  injection z with _ _ z
  exact absurd (congrArg List.length z) (by show ¬ (3 = 4); decide)
/-- all but the learner stands -/
theorem HeldAt.ln {w : World} {C CH dx : Addr} {H H' : Hp} {a x : Addr} {hv : V} {pd el : Addr} {h : PM.Held} (g : HeldAt w CH H x h) (b : But a H H') (e : H a = some (.ins C dx (lnF hv pd el))) : HeldAt w CH H' x h := by
  obtain ⟨dx', wd, pd', h1, h2, h3⟩ := g
  exact ⟨dx', wd, pd', b _ _ (fun z => by rw [z, e] at h1; exact ln_ne (Option.some.inj h1)) h1, h2.but b e, h3.but b e⟩
theorem HvAt.ln {w : World} {C CH dx : Addr} {H H' : Hp} {a : Addr} {hv hv' : V} {pd el : Addr} {held : Option PM.Held} (g : HvAt w CH H hv' held) (b : But a H H') (e : H a = some (.ins C dx (lnF hv pd el))) : HvAt w CH H' hv' held := by
  cases held with
  | none => exact g
  | some x =>
    obtain ⟨y, e1, g⟩ := g
    exact ⟨y, e1, g.ln b e⟩
theorem DcAt.ln {w : World} {C dx : Addr} {H H' : Hp} {a : Addr} {fs : List (Str × V)} {v : V} {d : PM.Dict} (g : DcAt w H v d) (b : But a H H') (e : H a = some (.ins C dx fs)) : DcAt w H' v d := by
  obtain ⟨y, e1, g⟩ := g
  exact ⟨y, e1, g.but b e⟩
/-- the learner's object is written anew -/
theorem lr_put {w : World} {C CH dx : Addr} {H H' : Hp} {a : Addr} {hv hv' : V} {pd el pd' el' : Addr} {s : PM.L} {eds : List V} (e : H a = some (.ins C dx (lnF hv pd el))) (b : But a H H') (e' : H' a = some (.ins C dx (lnF hv' pd' el')))
    (h1 : HvAt w CH H hv' s.held) (h2 : DictAt w false H pd' s.pats) (h3 : H el' = some (.lst eds)) (h4 : Paired (DcAt w H) eds s.earlier) : LrAt w C CH H' a s :=
  ⟨dx, hv', pd', el', eds, e', h1.ln b e, h2.but b e, b _ _ (fun z => by rw [z, e] at h3; cases h3) h3, paired_mono (fun _ _ z => z.ln b e) h4⟩
def NotEl (H : Hp) (a z : Addr) : Prop := ∀ C dx hv pd el, H a = some (.ins C dx (lnF hv pd el)) → el ≠ z
/-- all but the learner stands, and its list of earlier patterns is no list that stood and was not it -/
def BuL (a : Addr) (H H' : Hp) : Prop := But a H H' ∧ ∀ z, z ≠ a → (∃ zs, H z = some (.lst zs)) → NotEl H a z → NotEl H' a z
theorem BuL.of {w : World} {C CH : Addr} {H H' : Hp} {a : Addr} {s0 : PM.L} (h : LrAt w C CH H a s0) (s : Same H H') : BuL a H H' := ⟨But.of s, fun z _ _ n C dx hv pd el e => by
  obtain ⟨dx', hv', pd', el', _, h1, _⟩ := h
  rw [s _ _ h1] at e
  exact n _ _ _ _ _ (h1.trans e)⟩
theorem BuL.trans {a : Addr} {A B C : Hp} (h : BuL a A B) (g : BuL a B C) : BuL a A C := ⟨h.1.trans g.1, fun z hz ⟨zs, e⟩ n => g.2 z hz ⟨zs, h.1 _ _ hz e⟩ (h.2 z hz ⟨zs, e⟩ n)⟩
theorem BuL.fresh {a C dx pd el : Addr} {hv : V} {H H' : Hp} (b : But a H H') (e : H' a = some (.ins C dx (lnF hv pd el))) (n : H el = none) : BuL a H H' := ⟨b, fun z hz ⟨zs, ez⟩ _ C2 dx2 hv2 pd2 el2 e2 => by
  have e3 := Option.some.inj (e.symm.trans e2)
  injection e3 with _ _ e3
  unfold lnF at e3
  injection e3 with _ e3
  injection e3 with _ e3
  injection e3 with e3 _
  injection e3 with _ e3
  injection e3 with e3
  intro z2
  rw [← z2, ← e3, n] at ez
  cases ez⟩
structure LnT (K : PySem.W.Frag) (mg : Str → Option Value) (C : Addr) : Prop where
  cl : Cls K C
  nH : NoAttr K C "held"
  nP : NoAttr K C "patterns"
  nE : NoAttr K C "earlier"
  g : mg "Learner" = some (.ref C)
/-- what always holds of the learner -/
def LOk (s : PM.L) : Prop := (∀ h, s.held = some h → PM.HeldOk h) ∧ PM.PatsOk s.pats ∧ s.pats.length ≤ 1000 ∧ (∀ d ∈ s.earlier, PM.PatsOk d ∧ d.length ≤ 1000) ∧ s.earlier.length ≤ 20
def spLnInit (w : World) (C CH : Addr) : Sp := fun vs H Q _ => ∃ (a dx : Addr), vs = [.ref a] ∧ H a = some (.ins C dx []) ∧ ∀ H', But a H H' → LrAt w C CH H' a PM.fresh → Q .non H'
def spKeep (w : World) (C CH : Addr) : Sp := fun vs H Q _ => ∃ (a d : Addr) (s : PM.L) (p : PM.Dict), vs = [.ref a, .ref d] ∧ LrAt w C CH H a s ∧ s.earlier.length ≤ 20 ∧ DictAt w false H d p ∧ ∀ H', BuL a H H' → LrAt w C CH H' a (PM.keep s p) → Q .non H'
def spHold (w : World) (C CH : Addr) : Sp := fun vs H Q _ => ∃ (a x : Addr) (s : PM.L) (h : PM.Held), vs = [.ref a, .ref x] ∧ LrAt w C CH H a s ∧ HeldAt w CH H x h ∧ ∀ H', BuL a H H' → LrAt w C CH H' a (PM.hold s h) → Q .non H'
theorem cutV_last (xs : List V) (k : Nat) (hk : 0 < k) : cutV xs (some (-(k : Int))) none = xs.drop (xs.length - k) := by
  unfold cutV
  rw [sIx_neg _ _ _ hk, HT.sIx_none]
  exact List.take_of_length_le (by rw [List.length_drop]; exact Nat.le_refl _)
theorem cutV_front (xs : List V) (k : Nat) (hk : 0 < k) : cutV xs none (some (-(k : Int))) = xs.take (xs.length - k) := by
  unfold cutV
  rw [sIx_neg _ _ _ hk, HT.sIx_none, List.drop_zero, Nat.sub_zero]
theorem fits_ok {e : PM.Ns × PM.Ns} (h : PM.PatOk e) : Fits e.1 e.2 := by
  obtain ⟨h1, h2, h3⟩ := h
  unfold PM.lettersIn at h1
  refine ⟨h2, ?_⟩
  rcases h3 with h3 | ⟨h3, h4⟩
  · left; omega
  · right; exact ⟨by omega, h4⟩
def spTold : Sp := fun vs H Q _ => ∃ (a b : Addr) (piece digits : PM.Ns), vs = [.ref a, .ref b] ∧ Rd H a (.tup (iv piece)) ∧ Rd H b (.tup (iv digits)) ∧ Fits piece digits ∧ (PM.toldPattern piece digits).length ≤ 10000000 ∧
  ∀ H' p, Same H H' → H p = none → H' p = some (.lst (iv (PM.toldPattern piece digits))) → Q (.ref p) H'
/-- a call without numbers that changes nothing -/
def spTell (w : World) (C CH : Addr) (f : PM.L → PM.Held → PM.Ns) : Sp := fun vs H Q _ => ∃ (a : Addr) (s : PM.L) (h : PM.Held), vs = [.ref a] ∧ LrAt w C CH H a s ∧ LOk s ∧ s.held = some h ∧ (f s h).length ≤ 10000000 ∧
  ∀ H' p, Same H H' → H p = none → H' p = some (.lst (iv (f s h))) → Q (.ref p) H'
section
variable {P : Program} {w : World} {K : PySem.W.Frag} {mg : Str → Option Value} {base : Heap} {k : Nat} {f CL CH : Addr} {fd : FuncData}
theorem ok_Learner___init__ (D : Fun K "__init__" "Learner.__init__" s_Learner___init__ f fd) (TL : LnT K mg CL) (B : Blt mg) :
    FnOk P w K mg base CX0 (k + 1) f fd ["self"] (spLnInit w CL CH) := by
  refine D.ok sc_Learner___init__ (fun vs H Q E h => ?_) (fun cdv A outer s H vs Q E hr h => ?_)
  · obtain ⟨a, dx, rfl, _⟩ := h; rfl
  · obtain ⟨a, dx, rfl, ha, q⟩ := h
    refine ⟨_, pss_cons (ps_fld (pv 0) (pe_non) rfl)
    (pss_cons (ps_fld (pv 0) (pe_gnew) rfl)
    (pss_one (ps_fld (pv 0) (pe_lst pa_nil) rfl))), ?_⟩
    refine ⟨.ref a, rfl, a, CL, dx, _, rfl, ha, TL.cl, TL.nH, (by show 0 < 1000; decide), ?_⟩
    intro d nd
    have had : a ≠ d := fun z => by rw [← z, upd_same] at nd; cases nd
    refine ⟨.ref a, rfl, a, CL, dx, _, rfl, by rw [upd_ne had, upd_same], TL.cl, TL.nP, (by show 1 < 1000; decide), ?_⟩
    refine ⟨Nat.zero_le _, fun e ne => ?_⟩
    have hae : a ≠ e := fun z => by rw [← z, upd_same] at ne; cases ne
    have hde : d ≠ e := fun z => by rw [← z, upd_ne had.symm, upd_same] at ne; cases ne
    refine ⟨.ref a, rfl, a, CL, dx, _, rfl, by rw [upd_ne hae, upd_same], TL.cl, TL.nE, (by show 2 < 1000; decide), ?_⟩
    refine q _ (fun b o hb z => ?_) ⟨dx, .non, d, e, [], upd_same, rfl, ⟨[], ?_, .nil⟩, ?_, .nil⟩
    · have hbd : b ≠ d := fun y => by
        rw [y] at z hb
        rw [upd_ne hb, z] at nd
        cases nd
      have hbe : b ≠ e := fun y => by
        rw [y] at z hb hbd
        rw [upd_ne hb, upd_ne hbd, upd_ne hb, z] at ne
        cases ne
      rw [upd_ne hb, upd_ne hbe, upd_ne hb, upd_ne hbd, upd_ne hb]
      exact z
    · rw [upd_ne had.symm, upd_ne hde, upd_ne had.symm, upd_same]
      rfl
    · rw [upd_ne hae.symm, upd_same]
theorem ok_Learner_keep (D : Fun K "keep" "Learner.keep" s_Learner_keep f fd) (TL : LnT K mg CL) (B : Blt mg)
    (k_MOST_EARLIER : Kst mg "MOST_EARLIER" (.int 20)) :
    FnOk P w K mg base CX0 (k + 1) f fd ["self", "patterns"] (spKeep w CL CH) := by
  refine D.ok sc_Learner_keep (fun vs H Q E h => ?_) (fun cdv A outer s H vs Q E hr h => ?_)
  · obtain ⟨a, d, s, p, rfl, _⟩ := h; rfl
  · obtain ⟨a, d, s, p, rfl, hl, hel0, hd, q⟩ := h
    refine ⟨_, pss_cons (ps_fld (pv 0) (pe_slice sl_list (pe_op op_cat (pe_fld (pv 0) rfl) (pe_lst (pa_cons (pe_fld (pv 0) rfl) pa_nil))) (po_some (pe_un un_neg (pe_k k_MOST_EARLIER))) po_none) rfl)
    (pss_one (ps_fld (pv 0) (pv 1) rfl)), ?_⟩
    obtain ⟨dx, hv, pd, el, eds, h1, h2, h3, h4, h5⟩ := hl
    have hel := paired_len h5
    refine ⟨.ref a, rfl, a, CL, dx, _, _, rfl, h1, TL.cl, TL.nE, lnF_earlier hv pd el, .ref a, rfl, a, CL, dx, _, _, rfl, h1, TL.cl, TL.nP, lnF_pats hv pd el, by show 1 ≤ sizeLine; decide, fun p1 n1 => ?_⟩
    have s1 : Same H (upd H p1 (.lst [.ref pd])) := same_upd n1
    refine ⟨el, p1, eds, [.ref pd], rfl, rfl, s1 _ _ h4, upd_same, small (m := 1000) (by show eds.length + 1 ≤ _; omega), fun p2 n2 => ?_⟩
    have s2 := s1.trans (same_upd (o := .lst (eds ++ [.ref pd])) n2)
    refine ⟨20, rfl, -20, rfl, ?_⟩
    dsimp only [tNoPart]
    refine ⟨p2, _, rfl, seqL upd_same, fun p3 n3 => ?_⟩
    have s3 := s2.trans (same_upd (o := .lst (cutV (eds ++ [.ref pd]) (some (-20)) none)) n3)
    refine ⟨.ref a, rfl, a, CL, dx, _, rfl, s3 _ _ h1, TL.cl, TL.nE, (by show 3 < 1000; decide), ?_⟩
    refine ⟨.ref d, rfl, .ref a, rfl, a, CL, dx, _, rfl, upd_same, TL.cl, TL.nP, (by show 3 < 1000; decide), ?_⟩
    have hcut : cutV (eds ++ [V.ref pd]) (some (-20)) none = (eds ++ [V.ref pd]).drop ((eds ++ [V.ref pd]).length - 20) := cutV_last _ 20 (by decide)
    rw [hcut] at s3 ⊢
    refine q _ (BuL.fresh (((But.of s3).trans But.at).trans But.at) upd_same (s2.free n3)) ?_
    refine lr_put (s := PM.keep s p) (s3 _ _ h1) (But.at.trans But.at) upd_same (h2.same s3) (hd.same s3) upd_same ?_
    show Paired _ _ ((s.earlier ++ [s.pats]).drop ((s.earlier ++ [s.pats]).length - 20))
    have hp : Paired (DcAt w H) (eds ++ [.ref pd]) (s.earlier ++ [s.pats]) := Paired.snoc h5 ⟨pd, rfl, h3⟩
    rw [← paired_len hp]
    exact paired_mono (fun _ _ z => z.same s3) (pair_drop hp)
theorem ok_Learner_hold (D : Fun K "hold" "Learner.hold" s_Learner_hold f fd) (TL : LnT K mg CL) (TH : HlT K mg CH) (B : Blt mg) :
    FnOk P w K mg base CX0 (k + 1) f fd ["self", "held"] (spHold w CL CH) := by
  refine D.ok sc_Learner_hold (fun vs H Q E h => ?_) (fun cdv A outer s H vs Q E hr h => ?_)
  · obtain ⟨a, x, s, hh, rfl, _⟩ := h; rfl
  · obtain ⟨a, x, s, hh, rfl, hl, hx, q⟩ := h
    refine ⟨_, pss_cons (ps_fld (pv 0) (pv 1) rfl)
    (pss_cons (ps_fld (pv 0) (pe_fld (pv 1) rfl) rfl)
    (pss_one (ps_fld (pv 0) (pe_lst pa_nil) rfl))), ?_⟩
    obtain ⟨dx, hv, pd, el, eds, h1, h2, h3, h4, h5⟩ := hl
    obtain ⟨dx', wd, pd', g1, g2, g3⟩ := id hx
    refine ⟨.ref x, rfl, .ref a, rfl, a, CL, dx, _, rfl, h1, TL.cl, TL.nH, (by show 3 < 1000; decide), ?_⟩
    have hxa : x ≠ a := fun z => by rw [z, h1] at g1; exact ln_ne (Option.some.inj g1)
    refine ⟨.ref x, rfl, x, CH, dx', _, _, rfl, by rw [upd_ne hxa]; exact g1, TH.cl, TH.nP, hlF_patterns hh wd pd', .ref a, rfl, a, CL, dx, _, rfl, upd_same, TL.cl, TL.nP, (by show 3 < 1000; decide), ?_⟩
    refine ⟨Nat.zero_le _, fun e ne => ?_⟩
    have hae : a ≠ e := fun z => by rw [← z, upd_same] at ne; cases ne
    have hne : H e = none := by rw [upd_ne hae.symm, upd_ne hae.symm] at ne; exact ne
    refine ⟨.ref a, rfl, a, CL, dx, _, rfl, by rw [upd_ne hae, upd_same], TL.cl, TL.nE, (by show 3 < 1000; decide), ?_⟩
    have s1 : Same H (upd H e (.lst [])) := same_upd hne
    have bb : But a (upd H e (.lst [])) (upd (upd (upd (upd H a (.ins CL dx (putF "held" (.ref x) (lnF hv pd el)))) a (.ins CL dx (putF "patterns" (.ref pd') (putF "held" (.ref x) (lnF hv pd el))))) e (.lst [])) a (.ins CL dx (putF "earlier" (.ref e) (putF "patterns" (.ref pd') (putF "held" (.ref x) (lnF hv pd el)))))) := fun b o hb z => by
      rw [upd_ne hb]
      by_cases hbe : b = e
      · rw [hbe, upd_same] at z ⊢
        exact z
      · rw [upd_ne hbe] at z ⊢
        rw [upd_ne hb, upd_ne hb]
        exact z
    refine q _ (BuL.fresh ((But.of s1).trans bb) upd_same hne) ?_
    exact lr_put (s := PM.hold s hh) (s1 _ _ h1) bb upd_same ⟨x, rfl, hx.same s1⟩ (g3.same s1) upd_same .nil
theorem ok_told_pattern {f_pattern_bytes : Addr} {fd_pattern_bytes : FuncData} (D : Dfn K mg "told_pattern" s_told_pattern ["piece", "digits"] f fd) (B : Blt mg)
    (D_pattern_bytes : Dfn K mg "pattern_bytes" s_pattern_bytes ["piece", "digits"] f_pattern_bytes fd_pattern_bytes) (G_pattern_bytes : FnOk P w K mg base CX0 k f_pattern_bytes fd_pattern_bytes ["piece", "digits"] spPatBytes) :
    FnOk P w K mg base CX0 (k + 1) f fd ["piece", "digits"] spTold := by
  refine D.F.ok sc_told_pattern (fun vs H Q E h => ?_) (fun cdv A outer s H vs Q E hr h => ?_)
  · obtain ⟨a, b, piece, digits, rfl, _⟩ := h; rfl
  · obtain ⟨a, b, piece, digits, rfl, ha, hb, hf, hlen, q⟩ := h
    refine ⟨_, pss_cons (ps_set (i := 2) sc_told_pattern.nd rfl (.inl rfl) (pe_call G_pattern_bytes hr (by rfl) D_pattern_bytes.g D_pattern_bytes.F.kp D_pattern_bytes.b .nil pass0 (pa_cons (pv 0) (pa_cons (pv 1) pa_nil))))
    (pss_one (ps_ret (pe_op op_cat (pe_lst (pa_cons (pe_callB call_len_seq (by rfl) B.len (by decide +kernel) (pa_cons (pv 2) pa_nil)) pa_nil)) (pv 2)))), ?_⟩
    refine ⟨.ref a, rfl, .ref b, rfl, a, b, piece, digits, rfl, ha, hb, hf, fun H1 p s1 np ep => ?_⟩
    refine ⟨.ref p, rfl, p, _, rfl, .inl (seqL ep), by show 1 ≤ sizeLine; decide, fun p1 n1 => ⟨.ref p, rfl, p1, p, _, _, rfl, rfl, upd_same, (same_upd n1) _ _ ep, ?_, fun p2 n2 => ?_⟩⟩
    · rw [iv_len]
      have e : (PM.toldPattern piece digits).length = (PM.patternBytes piece digits).length + 1 := rfl
      rw [sizeLine_eq]
      show 1 + _ ≤ _
      omega
    · refine q _ p2 ((s1.new n1).new n2) ((s1.new n1).free n2) ?_
      rw [upd_same, iv_len]
      rfl
theorem ok_score {f_score_of : Addr} {fd_score_of : FuncData} {f_parted_words : Addr} {fd_parted_words : FuncData} (D : Dfn K mg "score" s_score ["learner"] f fd) (B : Blt mg)
    (D_score_of : Dfn K mg "score_of" s_score_of ["words"] f_score_of fd_score_of) (G_score_of : FnOk P w K mg base CX0 k f_score_of fd_score_of ["words"] spScoreOf)
    (D_parted_words : Dfn K mg "parted_words" s_parted_words ["held", "patterns"] f_parted_words fd_parted_words) (G_parted_words : FnOk P w K mg base CX0 k f_parted_words fd_parted_words ["held", "patterns"] (spParted w CH)) (TL : LnT K mg CL) (TH : HlT K mg CH) :
    FnOk P w K mg base CX0 (k + 1) f fd ["learner"] (spTell w CL CH PM.score) := by
  refine D.F.ok sc_score (fun vs H Q E h => ?_) (fun cdv A outer s H vs Q E hr h => ?_)
  · obtain ⟨a, s, h0, rfl, _⟩ := h; rfl
  · obtain ⟨a, s, h0, rfl, hl, hok, hh, hlen, q⟩ := h
    refine ⟨_, pss_one (ps_ret (pe_op op_cat (pe_lst (pa_cons (pe_callB call_len_g (by rfl) B.len (by decide +kernel) (pa_cons (pe_fld (pv 0) rfl) pa_nil)) pa_nil)) (pe_call G_score_of hr (by rfl) D_score_of.g D_score_of.F.kp D_score_of.b .nil pass0 (pa_cons (pe_call G_parted_words hr (by rfl) D_parted_words.g D_parted_words.F.kp D_parted_words.b .nil pass0 (pa_cons (pe_fld (pv 0) rfl) (pa_cons (pe_fld (pv 0) rfl) pa_nil))) pa_nil)))), ?_⟩
    obtain ⟨dx, hv, pd, el, eds, h1, h2, h3, h4, h5⟩ := id hl
    rw [hh] at h2
    obtain ⟨x, rfl, hx⟩ := h2
    obtain ⟨ho, hp, hpl, _⟩ := id hok
    replace ho := ho h0 hh
    obtain ⟨qs, ed, pq⟩ := id h3
    refine ⟨.ref a, rfl, a, CL, dx, _, _, rfl, h1, TL.cl, TL.nP, lnF_pats _ pd el, pd, qs, rfl, .inl ed, dict_keys pq, by show 1 ≤ sizeLine; decide, fun p1 n1 => ?_⟩
    have s1 : Same H (upd H p1 (.lst [.int ((qs.length : Nat) : Int)])) := same_upd n1
    have e1 : upd H p1 (.lst [.int ((qs.length : Nat) : Int)]) p1 = some (.lst [.int ((qs.length : Nat) : Int)]) := upd_same
    generalize upd H p1 (.lst [.int ((qs.length : Nat) : Int)]) = H1 at s1 e1
    refine ⟨.ref a, rfl, a, CL, dx, _, _, rfl, s1 _ _ h1, TL.cl, TL.nH, lnF_held _ pd el, .ref a, rfl, a, CL, dx, _, _, rfl, s1 _ _ h1, TL.cl, TL.nP, lnF_pats _ pd el, x, pd, h0, s.pats, rfl, hx.same s1, hl_ok ho, (h3.same s1).rd, by have := ho.2.2.1; omega, words_lv ho hp, fun H2 p us s2 np ep pu => ?_⟩
    refine ⟨p, us, _, rfl, ep, pu, fun wd hwd => by have := (ws_ok ho s.pats).2 wd hwd; omega, fun H3 r s3 nr er => ?_⟩
    have s13 := s2.trans s3
    refine ⟨p1, r, _, _, rfl, rfl, s13 _ _ e1, er, ?_, fun p4 n4 => ?_⟩
    · rw [iv_len]
      have e : (PM.score s h0).length = (PM.scoreOf (PM.partedWords h0 s.pats)).length + 1 := rfl
      rw [sizeLine_eq]
      show 1 + _ ≤ _
      omega
    · refine q _ p4 (((s1.trans s13)).new n4) ((s1.trans s13).free n4) ?_
      rw [upd_same, paired_len pq]
      rfl
end
end PR
set_option Elab.async false
set_option linter.all false
set_option maxRecDepth 100000
set_option maxHeartbeats 2000000
/-! # learning: patterns, undo, forget, part -/
namespace PR
open PySem PySem.Spec PyProof.Rows L2
abbrev s_undo : Stmt := topS 82
theorem sc_undo : FnScope ["learner"] ["learner"] (defScope s_undo) := ⟨rfl, rfl, rfl, by decide +kernel, rfl, by decide +kernel, by decide +kernel⟩
abbrev s_forget : Stmt := topS 83
theorem sc_forget : FnScope ["learner"] ["learner"] (defScope s_forget) := ⟨rfl, rfl, rfl, by decide +kernel, rfl, by decide +kernel, by decide +kernel⟩
abbrev s_part : Stmt := topS 81
theorem sc_part : FnScope ["learner", "letters", "row", "gaps", "gap", "parted"] ["learner", "letters"] (defScope s_part) := ⟨rfl, rfl, rfl, by decide +kernel, rfl, by decide +kernel, by decide +kernel⟩
abbrev s_candidates : Stmt := topS 77
theorem sc_candidates : FnScope ["learner", "numbers", "level", "length", "found", "answer", "piece", "digits", "helped", "hurt"] ["learner", "numbers"] (defScope s_candidates) := ⟨rfl, rfl, rfl, by decide +kernel, rfl, by decide +kernel, by decide +kernel⟩
abbrev s_count_of : Stmt := topS 78
theorem sc_count_of : FnScope ["learner", "chunk", "pattern", "piece", "digits", "level", "found", "helps", "hurts"] ["learner", "chunk"] (defScope s_count_of) := ⟨rfl, rfl, rfl, by decide +kernel, rfl, by decide +kernel, by decide +kernel⟩
abbrev s_round_of : Stmt := topS 73
theorem sc_round_of : FnScope ["learner", "numbers", "patterns", "counts"] ["learner", "numbers"] (defScope s_round_of) := ⟨rfl, rfl, rfl, by decide +kernel, rfl, by decide +kernel, by decide +kernel⟩
/-- a call without numbers that changes the learner -/
def spChange (w : World) (C CH : Addr) (pre : PM.L → Prop) (f : PM.L → PM.L × PM.Ns) : Sp := fun vs H Q _ => ∃ (a : Addr) (s : PM.L), vs = [.ref a] ∧ LrAt w C CH H a s ∧ LOk s ∧ pre s ∧
  ∀ H' p, BuL a H H' → H p = none → LrAt w C CH H' a (f s).1 → H' p = some (.lst (iv (f s).2)) → Q (.ref p) H'
/-- a call with numbers that changes nothing -/
def spAsk (w : World) (C CH : Addr) (pre : PM.Ns → Prop) (f : PM.L → PM.Held → PM.Ns → PM.Ns) : Sp := fun vs H Q _ => ∃ (a m : Addr) (s : PM.L) (h : PM.Held) (ns : PM.Ns), vs = [.ref a, .ref m] ∧ LrAt w C CH H a s ∧ LOk s ∧ s.held = some h ∧ H m = some (.lst (iv ns)) ∧ ns.length ≤ 100000 ∧ pre ns ∧ (f s h ns).length ≤ 10000000 ∧
  ∀ H' p, Same H H' → H p = none → H' p = some (.lst (iv (f s h ns))) → Q (.ref p) H'
/-- a call with numbers that changes the learner -/
def spDo (w : World) (C CH : Addr) (pre : PM.Ns → Prop) (f : PM.L → PM.Held → PM.Ns → PM.L × PM.Ns) : Sp := fun vs H Q _ => ∃ (a m : Addr) (s : PM.L) (h : PM.Held) (ns : PM.Ns), vs = [.ref a, .ref m] ∧ LrAt w C CH H a s ∧ LOk s ∧ s.held = some h ∧ H m = some (.lst (iv ns)) ∧ ns.length ≤ 100000 ∧ pre ns ∧ (f s h ns).2.length ≤ 10000000 ∧
  ∀ H' p, BuL a H H' → H p = none → LrAt w C CH H' a (f s h ns).1 → H' p = some (.lst (iv (f s h ns).2)) → Q (.ref p) H'
theorem fm_take {α : Type} (f : α → PM.Ns) {l : List α} {i : Nat} {x : α} (h : l[i]? = some x) : (l.take (i + 1)).flatMap f = (l.take i).flatMap f ++ f x := by
  rw [take_snoc h, List.flatMap_append]
  simp
theorem fm_le {α : Type} (f : α → PM.Ns) (l : List α) (i : Nat) : ((l.take i).flatMap f).length ≤ (l.flatMap f).length := by
  have e : l.flatMap f = (l.take i).flatMap f ++ (l.drop i).flatMap f := by rw [← List.flatMap_append, List.take_append_drop]
  rw [e, List.length_append]
  exact Nat.le_add_right _ _
theorem last_split {α : Type} {l : List α} (h : l ≠ []) : ∃ ini x, l = ini ++ [x] := ⟨l.dropLast, l.getLast h, (List.dropLast_concat_getLast h).symm⟩
theorem paired_snoc_inv {α β : Type} {R : α → β → Prop} : ∀ {xs : List α} {ys : List β} {y : β}, Paired R xs (ys ++ [y]) → ∃ us u, xs = us ++ [u] ∧ Paired R us ys ∧ R u y
  | _, [], _, .cons r .nil => ⟨[], _, rfl, .nil, r⟩
  | _, _ :: _, _, .cons r t => by
    obtain ⟨us, u, e, p, q⟩ := paired_snoc_inv t
    exact ⟨_ :: us, u, by rw [e]; rfl, .cons r p, q⟩
section
variable {P : Program} {w : World} {K : PySem.W.Frag} {mg : Str → Option Value} {base : Heap} {k : Nat} {f CL CH : Addr} {fd : FuncData}
theorem ok_patterns_now {f_told_pattern : Addr} {fd_told_pattern : FuncData} (D : Dfn K mg "patterns_now" s_patterns_now ["learner"] f fd) (B : Blt mg)
    (D_told_pattern : Dfn K mg "told_pattern" s_told_pattern ["piece", "digits"] f_told_pattern fd_told_pattern) (G_told_pattern : FnOk P w K mg base CX0 k f_told_pattern fd_told_pattern ["piece", "digits"] spTold) (TL : LnT K mg CL) :
    FnOk P w K mg base CX0 (k + 1) f fd ["learner"] (spTell w CL CH fun s _ => PM.patternsCall s) := by
  refine D.F.ok sc_patterns_now (fun vs H Q E h => ?_) (fun cdv A outer s H vs Q E hr h => ?_)
  · obtain ⟨a, s, h0, rfl, _⟩ := h; rfl
  · obtain ⟨a, s, h0, rfl, hl, hok, hh, hlen, q⟩ := h
    refine ⟨_, pss_cons (ps_set (i := 1) sc_patterns_now.nd rfl (.inl rfl) (pe_lst (pa_cons (pe_callB call_len_g (by rfl) B.len (by decide +kernel) (pa_cons (pe_fld (pv 0) rfl) pa_nil)) pa_nil)))
    (pss_cons (ps_lock (ps_for PassesOwn.never rfl (pi_itemsR (pe_fld (pv 0) rfl)) (pg_tup rfl (pgs_cons (pg_name (i := 2) sc_patterns_now.nd rfl (.inl rfl)) (pgs_cons (pg_name (i := 3) sc_patterns_now.nd rfl (.inl rfl)) pgs_nil)))
      (pss_one (ps_expr (pe_bm PySem.F.plainAttrs_list PySem.F.slot_list_extend PySem.F.type_list_extend mt_extend (pv 1) (pa_cons (pe_call G_told_pattern hr (by rfl) D_told_pattern.g D_told_pattern.F.kp D_told_pattern.b .nil pass0 (pa_cons (pv 2) (pa_cons (pv 3) pa_nil))) pa_nil))))))
    (pss_one (ps_ret (pv 1)))), ?_⟩
    replace hlen : (PM.patternsCall s).length ≤ 10000000 := hlen
    obtain ⟨dx, hv, pd, el, eds, h1, h2, h3, h4, h5⟩ := id hl
    obtain ⟨ho, hp, hpl, _⟩ := id hok
    obtain ⟨qs, ed, pq⟩ := id h3
    have hqn := paired_len pq
    refine ⟨.ref a, rfl, a, CL, dx, _, _, rfl, h1, TL.cl, TL.nP, lnF_pats _ pd el, pd, qs, rfl, .inl ed, dict_keys pq, by show 1 ≤ sizeLine; decide, fun l nl => ?_⟩
    have s1 : Same H (upd H l (.lst [.int ((qs.length : Nat) : Int)])) := same_upd nl
    have hlp : l ≠ pd := fun z => by rw [z, ed] at nl; cases nl
    have hap : a ≠ pd := fun z => by rw [z, ed] at h1; exact gd_no_ins (Option.some.inj h1)
    have hal : a ≠ l := fun z => by rw [← z, h1] at nl; cases nl
    have e0 : ∀ i, (((s.pats.length : Int) :: (s.pats.take i).flatMap fun e => PM.toldPattern e.1 e.2)).length ≤ (PM.patternsCall s).length := fun i => by
      unfold PM.patternsCall
      rw [List.length_cons, List.length_cons]
      have := fm_le (fun e : PM.Ns × PM.Ns => PM.toldPattern e.1 e.2) s.pats i
      omega
    refine ⟨pd, gdO w pd qs, s1 _ _ ed, True.intro, fun od => ?_⟩
    have h1' : upd (upd H l (.lst [.int ((qs.length : Nat) : Int)])) pd (.frz od (gdO w pd qs)) a = some (.ins CL dx (lnF hv pd el)) := by
      rw [upd_ne hap, upd_ne hal]
      exact h1
    have el0 : upd (upd H l (.lst [.int ((qs.length : Nat) : Int)])) pd (.frz od (gdO w pd qs)) l = some (.lst [.int ((qs.length : Nat) : Int)]) := by rw [upd_ne hlp, upd_same]
    have tp0 : Tups H (upd (upd H l (.lst [.int ((qs.length : Nat) : Int)])) pd (.frz od (gdO w pd qs))) := (Tups.of s1).trans (Tups.lock (s1 _ _ ed))
    refine ⟨.ref a, rfl, a, CL, dx, _, _, rfl, h1', TL.cl, TL.nP, lnF_pats hv pd el, pd, od, gdO w pd qs, qs.length, _, rfl, upd_same, rawG, ?_⟩
    refine for_it walkR (fun i σ H' => ∃ v2 v3 : Option V, σ = [some (.ref a), some (.ref l), v2, v3] ∧ But l (upd (upd H l (.lst [.int ((qs.length : Nat) : Int)])) pd (.frz od (gdO w pd qs))) H' ∧
        H' l = some (.lst (iv ((s.pats.length : Int) :: (s.pats.take i).flatMap fun e => PM.toldPattern e.1 e.2))))
      ⟨none, none, rfl, But.refl, by rw [el0, hqn]; rfl⟩ (fun i σ H' _ hp' => ?_) ?_ ?_
    · obtain ⟨_, _, _, b1, _⟩ := hp'
      exact b1 _ _ hlp.symm upd_same
    · rintro i y σ H1 H2 hi ⟨v2, v3, rfl, b1, e1⟩ ⟨T, qr, v, ⟨k, hk⟩, rfl, nT, rfl⟩
      obtain ⟨e, he, he1, hko, b, he2, he3⟩ := paired_get pq hk
      dsimp only at he1 he2 hko
      subst he1 he2
      have tp1 : Tups (upd (upd H l (.lst [.int ((qs.length : Nat) : Int)])) pd (.frz od (gdO w pd qs))) H1 := Tups.but b1 el0 (fun _ z => nomatch z) (fun _ _ z => nomatch z)
      have s2 : Same H1 (upd H1 T (.tup [.ref qr, .ref b])) := same_upd nT
      have tp2 := (tp0.trans tp1).trans (Tups.of s2)
      have hlen1 := e0 (i + 1)
      rw [fm_take _ he, List.length_cons, List.length_append] at hlen1
      refine ⟨T, _, rfl, seqT upd_same, rfl, _, _, rfl, _, _, rfl, rfl, ?_⟩
      refine ⟨.ref l, rfl, .inl ⟨rfl, _, seqL (s2 _ _ e1)⟩, .ref qr, rfl, .ref b, rfl, qr, b, e.1, e.2, rfl, tp2.rd hko, tp2.rd he3, fits_ok (hp.1 e (List.mem_of_getElem? he)), by omega, fun H5 p s5 np ep => ?_⟩
      have e5 := s5 _ _ (s2 _ _ e1)
      refine ⟨l, p, _, _, rfl, rfl, e5, ep, ?_, ?_⟩
      · rw [iv_len, iv_len, List.length_cons, sizeLine_eq]
        omega
      · refine ⟨_, _, rfl, (b1.trans (But.of (s2.trans s5))).trans But.at, ?_⟩
        rw [upd_same, fm_take _ he, ← iv_app]
        rfl
    · rintro σ H1 ⟨v2, v3, rfl, b1, e1⟩
      have ewd : H1 pd = some (.frz od (gdO w pd qs)) := b1 _ _ hlp.symm upd_same
      refine ⟨ewd, .ref l, rfl, q _ l ?_ nl ?_⟩
      · intro c o z
        have hcl : c ≠ l := ne_of_none z nl
        by_cases hc : c = pd
        · rw [hc, upd_same, ← ed, ← hc, z]
        · rw [upd_ne hc]
          refine b1 _ _ hcl ?_
          rw [upd_ne hc, upd_ne hcl]
          exact z
      · rw [upd_ne hlp, e1, hqn, List.take_length]
        rfl
theorem ok_undo (D : Dfn K mg "undo" s_undo ["learner"] f fd) (B : Blt mg)
    (k_NONE_EARLIER : Kst mg "NONE_EARLIER" (.int (-8))) (TL : LnT K mg CL) :
    FnOk P w K mg base CX0 (k + 1) f fd ["learner"] (spChange w CL CH (fun _ => True) PM.undoCall) := by
  refine D.F.ok sc_undo (fun vs H Q E h => ?_) (fun cdv A outer s H vs Q E hr h => ?_)
  · obtain ⟨a, s, rfl, _⟩ := h; rfl
  · obtain ⟨a, s, rfl, hl, hok, _, q⟩ := h
    refine ⟨_, pss_cons (ps_if (pt_not (pt_truth (pe_fld (pv 0) rfl) (by intro _; rfl)))
      (pss_one (ps_ret (pe_lst (pa_cons (pe_k k_NONE_EARLIER) pa_nil)))) pss_nil)
    (pss_cons (ps_fld (pv 0) (pe_ix ix_list (pe_fld (pv 0) rfl) (pe_un un_neg (pe_int)) (fun _ _ => rfl)) rfl)
    (pss_cons (ps_fld (pv 0) (pe_slice sl_list (pe_fld (pv 0) rfl) po_none (po_some (pe_un un_neg (pe_int)))) rfl)
    (pss_one (ps_ret (pe_lst (pa_cons (pe_callB call_len_g (by rfl) B.len (by decide +kernel) (pa_cons (pe_fld (pv 0) rfl) pa_nil)) pa_nil)))))), ?_⟩
    obtain ⟨dx, hv, pd, el, eds, h1, h2, h3, h4, h5⟩ := id hl
    have hel := paired_len h5
    have hcut : cutV eds none (some (-1)) = eds.take (eds.length - 1) := cutV_front _ 1 (by decide)
    refine ⟨.ref a, rfl, a, CL, dx, _, _, rfl, h1, TL.cl, TL.nE, lnF_earlier hv pd el, _, .inl ⟨eds, seqL h4, rfl⟩, if_b (fun g => ?_) (fun g => ?_)⟩
    · have hn : s.earlier = [] := by
        have : eds = [] := by
          cases eds with
          | nil => rfl
          | cons _ _ => cases g
        rw [this] at hel
        exact List.length_eq_zero_iff.mp hel.symm
      have e : PM.undoCall s = (s, [-8]) := by
        unfold PM.undoCall
        rw [hn]
        rfl
      rw [e] at q
      refine ⟨by show 1 ≤ sizeLine; decide, fun p np => q _ p (BuL.of hl (same_upd np)) np (hl.same (same_upd np)) upd_same⟩
    · have hne : s.earlier ≠ [] := fun z => by
        rw [z] at h5
        cases h5
        cases g
      obtain ⟨ini, d, hd⟩ := last_split hne
      have hp5 := h5
      rw [hd] at hp5
      obtain ⟨us, u, rfl, p5, b, rfl, hb⟩ := paired_snoc_inv hp5
      have e : PM.undoCall s = ({ s with pats := d, earlier := s.earlier.dropLast }, [(d.length : Int)]) := by
        unfold PM.undoCall
        rw [show s.earlier.getLast? = some d from by rw [hd]; exact List.getLast?_concat ..]
      rw [e] at q
      refine ⟨.ref a, rfl, a, CL, dx, _, _, rfl, h1, TL.cl, TL.nE, lnF_earlier hv pd el, 1, rfl, el, _, -1, _, rfl, rfl, seqL h4, atI_last us _, .ref a, rfl, a, CL, dx, _, rfl, h1, TL.cl, TL.nP, (by show 3 < 1000; decide), ?_⟩
      have hea : el ≠ a := fun z => by rw [z, h1] at h4; cases h4
      refine ⟨.ref a, rfl, a, CL, dx, _, _, rfl, upd_same, TL.cl, TL.nE, lnF_earlier hv b el, 1, rfl, -1, rfl, el, _, rfl, seqL (by rw [upd_ne hea]; exact h4), fun p np => ?_⟩
      have hcut : cutV (us ++ [V.ref b]) none (some (-1)) = us := by
        refine (cutV_front _ 1 (by decide)).trans ?_
        rw [List.length_append]
        exact List.take_left' (by show us.length = us.length + 1 - 1; omega)
      rw [hcut]
      have hap : a ≠ p := fun z => by rw [← z, upd_same] at np; cases np
      have np0 : H p = none := by rw [upd_ne hap.symm] at np; exact np
      refine ⟨.ref a, rfl, a, CL, dx, _, rfl, by rw [upd_ne hap, upd_same], TL.cl, TL.nE, (by show 3 < 1000; decide), ?_⟩
      have s1 : Same H (upd H p (.lst us)) := same_upd np0
      have bb : But a (upd H p (.lst us)) (upd (upd (upd H a (.ins CL dx (putF "patterns" (.ref b) (lnF hv pd el)))) p (.lst us)) a (.ins CL dx (putF "earlier" (.ref p) (putF "patterns" (.ref b) (lnF hv pd el))))) := fun c o hc z => by
        rw [upd_ne hc]
        by_cases hcp : c = p
        · rw [hcp, upd_same] at z ⊢
          exact z
        · rw [upd_ne hcp] at z ⊢
          rw [upd_ne hc]
          exact z
      have ea : upd (upd (upd H a (.ins CL dx (putF "patterns" (.ref b) (lnF hv pd el)))) p (.lst us)) a (.ins CL dx (putF "earlier" (.ref p) (putF "patterns" (.ref b) (lnF hv pd el)))) a = some (.ins CL dx (lnF hv b p)) := upd_same
      have hL : LrAt w CL CH (upd (upd (upd H a (.ins CL dx (putF "patterns" (.ref b) (lnF hv pd el)))) p (.lst us)) a (.ins CL dx (putF "earlier" (.ref p) (putF "patterns" (.ref b) (lnF hv pd el))))) a { s with pats := d, earlier := s.earlier.dropLast } := by
        refine lr_put (s := { s with pats := d, earlier := s.earlier.dropLast }) (s1 _ _ h1) bb upd_same (h2.same s1) (hb.same s1) upd_same ?_
        rw [hd, List.dropLast_concat]
        exact paired_mono (fun _ _ z => z.same s1) p5
      have bH := (But.of s1).trans bb
      have bL := BuL.fresh bH ea np0
      generalize upd (upd (upd H a (.ins CL dx (putF "patterns" (.ref b) (lnF hv pd el)))) p (.lst us)) a (.ins CL dx (putF "earlier" (.ref p) (putF "patterns" (.ref b) (lnF hv pd el)))) = H5 at ea hL bH bL
      have hb5 : DictAt w false H5 b d := (hb.but bH h1)
      obtain ⟨qs, ed, pq⟩ := id hb5
      refine ⟨.ref a, rfl, a, CL, dx, _, _, rfl, ea, TL.cl, TL.nP, lnF_pats hv b p, b, qs, rfl, .inl ed, dict_keys pq, by show 1 ≤ sizeLine; decide, fun r nr => ?_⟩
      have nr0 : H r = none := by
        cases hr : H r with
        | none => rfl
        | some o =>
          by_cases hra : r = a
          · rw [hra, ea] at nr; cases nr
          · rw [bH r o hra hr] at nr; cases nr
      refine q _ r (bL.trans (BuL.of hL (same_upd nr))) nr0 (hL.same (same_upd nr)) ?_
      rw [upd_same, paired_len pq]
      rfl
theorem ok_forget {f_Learner_hold : Addr} {fd_Learner_hold : FuncData} (D : Dfn K mg "forget" s_forget ["learner"] f fd) (B : Blt mg)
    (D_Learner_hold : Mth K CL "hold" "Learner.hold" s_Learner_hold ["self", "held"] f_Learner_hold fd_Learner_hold) (G_Learner_hold : FnOk P w K mg base CX0 k f_Learner_hold fd_Learner_hold ["self", "held"] (spHold w CL CH)) (TL : LnT K mg CL) :
    FnOk P w K mg base CX0 (k + 1) f fd ["learner"] (spChange w CL CH (fun s => s.held ≠ none) fun s => match s.held with | none => (s, []) | some h => PM.forgetCall s h) := by
  refine D.F.ok sc_forget (fun vs H Q E h => ?_) (fun cdv A outer s H vs Q E hr h => ?_)
  · obtain ⟨a, s, rfl, _⟩ := h; rfl
  · obtain ⟨a, s, rfl, hl, hok, hpre, q⟩ := h
    refine ⟨_, pss_cons (ps_expr (pe_meth (pv 0) TL.cl D_Learner_hold.m G_Learner_hold hr D_Learner_hold.b .nil pass0 (pa_cons (pe_fld (pv 0) rfl) pa_nil)))
    (pss_one (ps_ret (pe_lst (pa_cons (pe_callB call_len_g (by rfl) B.len (by decide +kernel) (pa_cons (pe_fld (pv 0) rfl) pa_nil)) pa_nil)))), ?_⟩
    obtain ⟨dx, hv, pd, el, eds, h1, h2, h3, h4, h5⟩ := id hl
    cases hh : s.held with
    | none => exact absurd hh hpre
    | some h0 =>
      rw [hh] at h2
      obtain ⟨x, rfl, hx⟩ := h2
      replace q : ∀ H' p, BuL a H H' → H p = none → LrAt w CL CH H' a (PM.forgetCall s h0).1 → H' p = some (.lst (iv (PM.forgetCall s h0).2)) → Q (.ref p) H' := by
        dsimp only at q
        rw [hh] at q
        exact q
      refine ⟨.ref a, rfl, a, dx, _, rfl, h1, lnF_no _ pd el (by decide +kernel) (by decide +kernel) (by decide +kernel), .ref a, rfl, a, CL, dx, _, _, rfl, h1, TL.cl, TL.nH, lnF_held _ pd el, a, x, s, h0, rfl, hl, hx, fun H1 b1 hl1 => ?_⟩
      obtain ⟨dx1, hv1, pd1, el1, eds1, g1, g2, g3, g4, g5⟩ := id hl1
      obtain ⟨qs, ed, pq⟩ := id g3
      refine ⟨.ref a, rfl, a, CL, dx1, _, _, rfl, g1, TL.cl, TL.nP, lnF_pats hv1 pd1 el1, pd1, qs, rfl, .inl ed, dict_keys pq, by show 1 ≤ sizeLine; decide, fun r nr => ?_⟩
      have nr0 : H r = none := by
        cases hr : H r with
        | none => rfl
        | some o =>
          by_cases hra : r = a
          · rw [hra, g1] at nr; cases nr
          · rw [b1.1 r o hra hr] at nr; cases nr
      refine q _ r (b1.trans (BuL.of hl1 (same_upd nr))) nr0 (hl1.same (same_upd nr)) ?_
      rw [upd_same, paired_len pq]
      rfl
theorem ok_part {f_row_of : Addr} {fd_row_of : FuncData} {f_inner_gaps : Addr} {fd_inner_gaps : FuncData} (D : Dfn K mg "part" s_part ["learner", "letters"] f fd) (B : Blt mg)
    (D_row_of : Dfn K mg "row_of" s_row_of ["letters"] f_row_of fd_row_of) (G_row_of : FnOk P w K mg base CX0 k f_row_of fd_row_of ["letters"] (spRow K))
    (D_inner_gaps : Dfn K mg "inner_gaps" s_inner_gaps ["held", "row", "patterns"] f_inner_gaps fd_inner_gaps) (G_inner_gaps : FnOk P w K mg base CX0 k f_inner_gaps fd_inner_gaps ["held", "row", "patterns"] (spInner w CH))
    (k_WRONG_NUMBERS : Kst mg "WRONG_NUMBERS" (.int (-4))) (TL : LnT K mg CL) :
    FnOk P w K mg base CX0 (k + 1) f fd ["learner", "letters"] (spAsk w CL CH (fun _ => True) PM.partCall) := by
  refine D.F.ok sc_part (fun vs H Q E h => ?_) (fun cdv A outer s H vs Q E hr h => ?_)
  · obtain ⟨a, m, s, h, ns, rfl, _⟩ := h; rfl
  · obtain ⟨a, m, s, h0, ns, rfl, hl, hok, hh, hm, hnl, _, hlen, q⟩ := h
    refine ⟨_, pss_cons (ps_set (i := 2) sc_part.nd rfl (.inl rfl) (pe_call G_row_of hr (by rfl) D_row_of.g D_row_of.F.kp D_row_of.b .nil pass0 (pa_cons (pv 1) pa_nil)))
    (pss_cons (ps_if (pt_cmpR op_isN (pv 2) (pe_non) (nomark _))
      (pss_one (ps_ret (pe_lst (pa_cons (pe_k k_WRONG_NUMBERS) pa_nil)))) pss_nil)
    (pss_cons (ps_setLc (i := 3) (own := [("gap", 4), ("parted", 5)]) (g := (gTup K 2 (gCons (gName 4) (gCons (gName 5) (gNil))))) (tt := _) rfl sc_part.nd rfl rfl (sw_true rfl rfl rfl (by decide +kernel)) (pi_list (pe_call G_inner_gaps hr (by rfl) D_inner_gaps.g D_inner_gaps.F.kp D_inner_gaps.b .nil pass0 (pa_cons (pe_fld (pv 0) rfl) (pa_cons (pv 2) (pa_cons (pe_fld (pv 0) rfl) pa_nil))))) (blkOk_by (own := [("gap", 4), ("parted", 5)]) (N := ["learner", "letters", "row", "gaps", "gap", "parted"]) (sc := defScope s_part) (by decide +kernel)) (fun _ _ _ _ _ => pg_tup rfl (pgs_cons (pg_name (i := 4) sc_part.nd rfl (.inl rfl)) (pgs_cons (pg_name (i := 5) sc_part.nd rfl (.inl rfl)) pgs_nil))) (fun _ _ _ _ _ => pts_one (pt_val (pv 5))) (fun _ _ _ _ _ => pv 4))
    (pss_one (ps_ret (pe_op op_cat (pe_lst (pa_cons (pe_callB call_len_seq (by rfl) B.len (by decide +kernel) (pa_cons (pv 3) pa_nil)) pa_nil)) (pv 3)))))), ?_⟩
    obtain ⟨dx, hv, pd, el, eds, h1, h2, h3, h4, h5⟩ := id hl
    rw [hh] at h2
    obtain ⟨x, rfl, hx⟩ := h2
    obtain ⟨ho, hp, hpl, _⟩ := id hok
    replace ho := ho h0 hh
    refine ⟨.ref m, rfl, m, ns, rfl, seqL hm, hnl, ?_⟩
    cases hr : PM.rowOf ns with
    | none =>
      have e : PM.partCall s h0 ns = [-4] := by
        unfold PM.partCall
        rw [hr]
      rw [e] at q
      intro H1 s1
      exact ⟨.non, rfl, rfl, _, rfl, if_t rfl ⟨by show 1 ≤ sizeLine; decide, fun p np => q _ p (s1.new np) (s1.free np) upd_same⟩⟩
    | some row =>
      obtain ⟨hro, _⟩ := PM.row_ok hr
      have hrl := hro.len
      have e : PM.partCall s h0 ns = (((PM.innerGaps h0 row s.pats).filterMap fun g => if g.2 = true then some g.1 else none).length : Int) :: ((PM.innerGaps h0 row s.pats).filterMap fun g => if g.2 = true then some g.1 else none) := by
        unfold PM.partCall
        rw [hr]
      rw [e] at q
      intro H1 r s1 er
      refine ⟨.ref r, rfl, rfl, _, rfl, if_f rfl ?_⟩
      obtain ⟨dx', wd, pd', g1, g2, g3⟩ := id (hx.same s1)
      refine ⟨.ref a, rfl, a, CL, dx, _, _, rfl, s1 _ _ h1, TL.cl, TL.nH, lnF_held _ pd el, .ref r, rfl, .ref a, rfl, a, CL, dx, _, _, rfl, s1 _ _ h1, TL.cl, TL.nP, lnF_pats _ pd el, x, r, pd, h0, row, s.pats, rfl, ⟨dx', wd, pd', g1⟩, hl_ok ho, er.rd, by omega, (h3.same s1).rd, lv_ok hro hp, fun H2 gp us s2 ngp egp pgp => ?_⟩
      refine ⟨gp, rfl, ⟨_, seqL egp⟩, fun D' hD' => ?_⟩
      have hgl := gaps_len h0 row s.pats
      have hul := paired_len pgp
      have step : ∀ {j : Nat} {g : Int × Bool}, (PM.innerGaps h0 row s.pats)[j]? = some g → iv (((PM.innerGaps h0 row s.pats).take (j + 1)).filterMap fun g => if g.2 = true then some g.1 else none) = if g.2 = true then iv (((PM.innerGaps h0 row s.pats).take j).filterMap fun g => if g.2 = true then some g.1 else none) ++ [V.int g.1] else iv (((PM.innerGaps h0 row s.pats).take j).filterMap fun g => if g.2 = true then some g.1 else none) := fun {j g} hg => by
        rw [take_snoc hg, List.filterMap_append]
        by_cases hb : g.2 = true
        · rw [if_pos hb, iv_app]
          simp [hb, iv]
        · rw [if_neg hb]
          simp [hb]
      refine lc_it (walk_list (xs := us)) (Grow H2 D' fun i => iv (((PM.innerGaps h0 row s.pats).take i).filterMap fun g => if g.2 = true then some g.1 else none)) (Grow.start hD' rfl) (fun i H' _ hp => seqL (hp.1 _ _ egp)) ?_ ?_
      · rintro j z H4 H5 hj hg ⟨rfl, hz⟩
        obtain ⟨g, hgg, t, rfl, et⟩ := paired_get pgp hz
        have hsz : (iv (((PM.innerGaps h0 row s.pats).take j).filterMap fun g => if g.2 = true then some g.1 else none)).length < sizeLine := len_lt (by
          rw [iv_len]
          refine Nat.le_trans (List.length_filterMap_le _ _) ?_
          rw [List.length_take]
          omega)
        refine ⟨t, _, rfl, seqT (hg.1 _ _ et), rfl, _, _, rfl, _, _, rfl, rfl, rfl, _, rfl, g.2, rfl, if_b (fun c1 => ⟨_, rfl, hg.yes hD' (Same.refl _) hsz (by rw [step hgg, if_pos c1])⟩) (fun c1 => hg.no (Same.refl _) (by rw [step hgg, if_neg (by rw [c1]; exact Bool.false_ne_true)]))⟩
      · rintro H4 ⟨s4, e4⟩
        replace e4 : H4 D' = some (.lst (iv (((PM.innerGaps h0 row s.pats).take us.length).filterMap fun g => if g.2 = true then some g.1 else none))) := e4
        rw [hul, List.take_length] at e4
        have s14 := (s1.trans s2).trans s4
        refine ⟨.ref D', rfl, D', _, rfl, .inl (seqL e4), by show 1 ≤ sizeLine; decide, fun p1 n1 => ⟨.ref D', rfl, p1, D', _, _, rfl, rfl, upd_same, (same_upd n1) _ _ e4, ?_, fun p2 n2 => ?_⟩⟩
        · rw [iv_len]
          refine small (m := 2000) ?_
          have : ((PM.innerGaps h0 row s.pats).filterMap fun g => if g.2 = true then some g.1 else none).length ≤ 1000 := Nat.le_trans (List.length_filterMap_le _ _) (by omega)
          show 1 + _ ≤ _
          omega
        · refine q _ p2 ((s14.new n1).new n2) ((s14.new n1).free n2) ?_
          rw [upd_same, iv_len]
          rfl
end
end PR
set_option Elab.async false
set_option linter.all false
set_option maxRecDepth 100000
set_option maxHeartbeats 2000000
/-! # learning: round, candidates, count -/
namespace PR
open PySem PySem.Spec PyProof.Rows L2
theorem cutV_to (xs : List V) (k : Nat) : cutV xs none (some (k : Int)) = xs.take k := by
  unfold cutV
  rw [HT.sIx_nat, HT.sIx_none, List.drop_zero, Nat.sub_zero]
  by_cases h : k ≤ xs.length
  · rw [Nat.min_eq_left h]
  · rw [Nat.min_eq_right (by omega), List.take_length, List.take_of_length_le (by omega)]
theorem But.none {a : Addr} {H H' : Hp} {r : Addr} {o : HO} (b : But a H H') (e : H' a = some o) (n : H' r = none) : H r = none := by
  cases hr : H r with
  | none => rfl
  | some u =>
    by_cases hra : r = a
    · rw [hra, e] at n; cases n
    · rw [b r u hra hr] at n; cases n
theorem max_top : ∀ (n : Int) (ns : PM.Ns), PySem.W.maxOf n ns = ns.foldl max n := fun n ns => by
  unfold PySem.W.maxOf
  induction ns generalizing n with
  | nil => rfl
  | cons m r ih =>
    rw [List.foldl_cons, List.foldl_cons]
    have e : (if PySem.W.DatumOrd.lt n m = true then m else n) = max n m := by
      have e : PySem.W.DatumOrd.lt n m = decide (n < m) := rfl
      rw [e, Int.max_def]
      by_cases h : n < m
      · rw [decide_eq_true h, if_pos rfl, if_pos (by omega)]
      · rw [decide_eq_false h, if_neg Bool.false_ne_true]
        split <;> omega
    rw [e]
    exact ih _
theorem foldl_max_mem : ∀ (ns : PM.Ns) (n : Int), ns.foldl max n = n ∨ ns.foldl max n ∈ ns
  | [], n => .inl rfl
  | m :: r, n => by
    rw [List.foldl_cons]
    rcases foldl_max_mem r (max n m) with h | h
    · rw [h]
      rcases Int.le_total n m with z | z
      · right; rw [Int.max_eq_right z]; exact List.mem_cons_self
      · left; exact Int.max_eq_left z
    · right; exact List.mem_cons_of_mem _ h
theorem top_cons {n : Int} {ns : PM.Ns} (h : 0 ≤ n) : PM.top (n :: ns) = ns.foldl max n := by
  unfold PM.top
  rw [List.foldl_cons, Int.max_eq_right h]
theorem top_mem {n : Int} {ns : PM.Ns} (h : 0 ≤ n) : PM.top (n :: ns) ∈ n :: ns := by
  rw [top_cons h]
  rcases foldl_max_mem ns n with z | z
  · rw [z]; exact List.mem_cons_self
  · exact List.mem_cons_of_mem _ z
theorem idx_find (ds : PM.Ns) (k : Int) : ds.idxOf k = ds.findIdx fun d => decide (d = k) := by
  unfold List.idxOf
  congr 1
section
variable {P : Program} {w : World} {K : PySem.W.Frag} {mg : Str → Option Value} {base : Heap} {k : Nat} {f CL CH : Addr} {fd : FuncData}
theorem ok_round_of {f_is_round : Addr} {fd_is_round : FuncData} {f_after_round : Addr} {fd_after_round : FuncData} {f_Learner_keep : Addr} {fd_Learner_keep : FuncData} (D : Dfn K mg "round_of" s_round_of ["learner", "numbers"] f fd) (B : Blt mg)
    (D_is_round : Dfn K mg "is_round" s_is_round ["numbers"] f_is_round fd_is_round) (G_is_round : FnOk P w K mg base CX0 k f_is_round fd_is_round ["numbers"] spIsRound)
    (D_after_round : Dfn K mg "after_round" s_after_round ["held", "patterns", "numbers"] f_after_round fd_after_round) (G_after_round : FnOk P w K mg base CX0 k f_after_round fd_after_round ["held", "patterns", "numbers"] (spAfter w CH))
    (D_Learner_keep : Mth K CL "keep" "Learner.keep" s_Learner_keep ["self", "patterns"] f_Learner_keep fd_Learner_keep) (G_Learner_keep : FnOk P w K mg base CX0 k f_Learner_keep fd_Learner_keep ["self", "patterns"] (spKeep w CL CH))
    (k_WRONG_NUMBERS : Kst mg "WRONG_NUMBERS" (.int (-4))) (k_MOST_PATTERNS_learning : Kst mg "MOST_PATTERNS_learning" (.int 200)) (k_TOO_MANY : Kst mg "TOO_MANY" (.int (-7))) (TL : LnT K mg CL) :
    FnOk P w K mg base CX0 (k + 1) f fd ["learner", "numbers"] (spDo w CL CH (fun ns => ns.length = 5) PM.roundCall) := by
  refine D.F.ok sc_round_of (fun vs H Q E h => ?_) (fun cdv A outer s H vs Q E hr h => ?_)
  · obtain ⟨a, m, s, h, ns, rfl, _⟩ := h; rfl
  · obtain ⟨a, m, s, h0, ns, rfl, hl, hok, hh, hm, hnl, hlen5, hlen, q⟩ := h
    refine ⟨_, pss_cons (ps_if (pt_not (pt_val (pe_call G_is_round hr (by rfl) D_is_round.g D_is_round.F.kp D_is_round.b .nil pass0 (pa_cons (pv 1) pa_nil))))
      (pss_one (ps_ret (pe_lst (pa_cons (pe_k k_WRONG_NUMBERS) pa_nil)))) pss_nil)
    (pss_cons (ps_asg (pe_call G_after_round hr (by rfl) D_after_round.g D_after_round.F.kp D_after_round.b .nil pass0 (pa_cons (pe_fld (pv 0) rfl) (pa_cons (pe_fld (pv 0) rfl) (pa_cons (pv 1) pa_nil)))) (pg_tup rfl (pgs_cons (pg_name (i := 2) sc_round_of.nd rfl (.inl rfl)) (pgs_cons (pg_name (i := 3) sc_round_of.nd rfl (.inl rfl)) pgs_nil))))
    (pss_cons (ps_if (pt_cmpR op_gt (pe_callB call_len_g (by rfl) B.len (by decide +kernel) (pa_cons (pv 2) pa_nil)) (pe_k k_MOST_PATTERNS_learning) (nomark _))
      (pss_one (ps_ret (pe_lst (pa_cons (pe_k k_TOO_MANY) pa_nil)))) pss_nil)
    (pss_cons (ps_expr (pe_meth (pv 0) TL.cl D_Learner_keep.m G_Learner_keep hr D_Learner_keep.b .nil pass0 (pa_cons (pv 2) pa_nil)))
    (pss_one (ps_ret (pe_op op_cat (pv 3) (pe_lst (pa_cons (pe_callB call_len_g (by rfl) B.len (by decide +kernel) (pa_cons (pv 2) pa_nil)) pa_nil)))))))), ?_⟩
    obtain ⟨dx, hv, pd, el, eds, h1, h2, h3, h4, h5⟩ := id hl
    rw [hh] at h2
    obtain ⟨x, rfl, hx⟩ := h2
    obtain ⟨ho, hp, hpl, _, hel⟩ := id hok
    replace ho := ho h0 hh
    refine ⟨.ref m, rfl, m, ns, rfl, hm, by omega, by omega, fun H1 s1 => ⟨_, rfl, if_b (fun g => ?_) (fun g => ?_)⟩⟩
    · have g' : PM.isRound ns = false := by simpa using g
      have e : PM.roundCall s h0 ns = (s, [-4]) := if_pos g'
      rw [e] at q
      refine ⟨by show 1 ≤ sizeLine; decide, fun p np => q _ p (BuL.of hl (s1.new np)) (s1.free np) (hl.same (s1.new np)) upd_same⟩
    · have g' : PM.isRound ns = true := by simpa using g
      refine ⟨.ref a, rfl, a, CL, dx, _, _, rfl, s1 _ _ h1, TL.cl, TL.nH, lnF_held _ pd el, .ref a, rfl, a, CL, dx, _, _, rfl, s1 _ _ h1, TL.cl, TL.nP, lnF_pats _ pd el, .ref m, rfl, x, pd, m, h0, s.pats, ns, rfl, hx.same s1, ho, h3.same s1, hp, by omega, s1 _ _ hm, hlen5, g', fun H2 t d' l s2 nd nl et hd' el' => ?_⟩
      have s12 := s1.trans s2
      obtain ⟨qs, ed, pq⟩ := id hd'
      refine ⟨t, _, rfl, seqT et, rfl, _, _, rfl, _, _, rfl, rfl, ?_⟩
      refine ⟨.ref d', rfl, d', qs, rfl, .inl ed, dict_keys pq, _, _, rfl, rfl, _, rfl, ?_⟩
      rw [paired_len pq]
      refine if_b (fun g2 => ?_) (fun g2 => ?_)
      · have e : PM.roundCall s h0 ns = (s, [-7]) := (if_neg (by rw [g']; decide)).trans (if_pos (by have := of_decide_eq_true g2; omega))
        rw [e] at q
        refine ⟨by show 1 ≤ sizeLine; decide, fun p np => q _ p (BuL.of hl (s12.new np)) (s12.free np) (hl.same (s12.new np)) upd_same⟩
      · have e : PM.roundCall s h0 ns = (PM.keep s (PM.afterRound h0 s.pats (PM.toRnd ns)).1, (PM.afterRound h0 s.pats (PM.toRnd ns)).2 ++ [((PM.afterRound h0 s.pats (PM.toRnd ns)).1.length : Int)]) := (if_neg (by rw [g']; decide)).trans (if_neg (by have := of_decide_eq_false g2; omega))
        rw [e] at q hlen
        have nl0 : H1 l = none := nl
        have hal : a ≠ l := fun z => by rw [← z, s1 _ _ h1] at nl; cases nl
        refine ⟨.ref a, rfl, a, dx, _, rfl, s12 _ _ h1, lnF_no _ pd el (by decide +kernel) (by decide +kernel) (by decide +kernel), .ref d', rfl, a, d', s, _, rfl, hl.same s12, hel, hd', fun H3 b3 hl3 => ?_⟩
        have hd3 := hd'.but b3.1 (s12 _ _ h1)
        have el3 := b3.1 _ _ hal.symm el'
        obtain ⟨qs3, ed3, pq3⟩ := id hd3
        refine ⟨.ref l, rfl, .ref d', rfl, d', qs3, rfl, .inl ed3, dict_keys pq3, by show 1 ≤ sizeLine; decide, fun p1 n1 => ⟨l, p1, _, _, rfl, rfl, (same_upd n1) _ _ el3, upd_same, ?_, fun p2 n2 => ?_⟩⟩
        · rw [iv_len]
          rw [List.length_append] at hlen
          rw [sizeLine_eq]
          show _ + 1 ≤ _
          omega
        · obtain ⟨_, _, _, _, _, g1, _⟩ := id hl3
          have b13 := (BuL.of hl s12).trans b3
          refine q _ p2 (b13.trans (BuL.of hl3 ((same_upd n1).new n2))) (b13.1.none g1 ((same_upd n1).free n2)) (hl3.same ((same_upd n1).new n2)) ?_
          rw [upd_same, paired_len pq3, iv_app]
          rfl
theorem ok_candidates {f_are_level_and_length : Addr} {fd_are_level_and_length : FuncData} {f_candidates_of : Addr} {fd_candidates_of : FuncData} {f_parted_words : Addr} {fd_parted_words : FuncData} {f_told_pattern : Addr} {fd_told_pattern : FuncData} (D : Dfn K mg "candidates" s_candidates ["learner", "numbers"] f fd) (B : Blt mg)
    (D_are_level_and_length : Dfn K mg "are_level_and_length" s_are_level_and_length ["level", "length"] f_are_level_and_length fd_are_level_and_length) (G_are_level_and_length : FnOk P w K mg base CX0 k f_are_level_and_length fd_are_level_and_length ["level", "length"] spGood)
    (D_candidates_of : Dfn K mg "candidates_of" s_candidates_of ["words", "level", "length"] f_candidates_of fd_candidates_of) (G_candidates_of : FnOk P w K mg base CX0 k f_candidates_of fd_candidates_of ["words", "level", "length"] (spCands w))
    (D_parted_words : Dfn K mg "parted_words" s_parted_words ["held", "patterns"] f_parted_words fd_parted_words) (G_parted_words : FnOk P w K mg base CX0 k f_parted_words fd_parted_words ["held", "patterns"] (spParted w CH))
    (D_told_pattern : Dfn K mg "told_pattern" s_told_pattern ["piece", "digits"] f_told_pattern fd_told_pattern) (G_told_pattern : FnOk P w K mg base CX0 k f_told_pattern fd_told_pattern ["piece", "digits"] spTold)
    (k_WRONG_NUMBERS : Kst mg "WRONG_NUMBERS" (.int (-4))) (k_MOST_SHOWN : Kst mg "MOST_SHOWN" (.int 20)) (TL : LnT K mg CL) :
    FnOk P w K mg base CX0 (k + 1) f fd ["learner", "numbers"] (spAsk w CL CH (fun ns => ns.length = 2) PM.candidatesCall) := by
  refine D.F.ok sc_candidates (fun vs H Q E h => ?_) (fun cdv A outer s H vs Q E hr h => ?_)
  · obtain ⟨a, m, s, h, ns, rfl, _⟩ := h; rfl
  · obtain ⟨a, m, s, h0, ns, rfl, hl, hok, hh, hm, hnl, h2l, hlen, q⟩ := h
    refine ⟨_, pss_cons (ps_asg (pv 1) (pg_unl rfl (pgs_cons (pg_name (i := 2) sc_candidates.nd rfl (.inl rfl)) (pgs_cons (pg_name (i := 3) sc_candidates.nd rfl (.inl rfl)) pgs_nil))))
    (pss_cons (ps_if (pt_not (pt_val (pe_call G_are_level_and_length hr (by rfl) D_are_level_and_length.g D_are_level_and_length.F.kp D_are_level_and_length.b .nil pass0 (pa_cons (pv 2) (pa_cons (pv 3) pa_nil)))))
      (pss_one (ps_ret (pe_lst (pa_cons (pe_k k_WRONG_NUMBERS) pa_nil)))) pss_nil)
    (pss_cons (ps_set (i := 4) sc_candidates.nd rfl (.inl rfl) (pe_call G_candidates_of hr (by rfl) D_candidates_of.g D_candidates_of.F.kp D_candidates_of.b .nil pass0 (pa_cons (pe_call G_parted_words hr (by rfl) D_parted_words.g D_parted_words.F.kp D_parted_words.b .nil pass0 (pa_cons (pe_fld (pv 0) rfl) (pa_cons (pe_fld (pv 0) rfl) pa_nil))) (pa_cons (pv 2) (pa_cons (pv 3) pa_nil)))))
    (pss_cons (ps_set (i := 5) sc_candidates.nd rfl (.inl rfl) (pe_lst (pa_cons (pe_callB call_len_seq (by rfl) B.len (by decide +kernel) (pa_cons (pv 4) pa_nil)) pa_nil)))
    (pss_cons (ps_for PassesOwn.never rfl (pi_list (pe_slice sl_list (pv 4) po_none (po_some (pe_k k_MOST_SHOWN)))) (pg_tup rfl (pgs_cons (pg_name (i := 6) sc_candidates.nd rfl (.inl rfl)) (pgs_cons (pg_name (i := 7) sc_candidates.nd rfl (.inl rfl)) (pgs_cons (pg_name (i := 8) sc_candidates.nd rfl (.inl rfl)) (pgs_cons (pg_name (i := 9) sc_candidates.nd rfl (.inl rfl)) pgs_nil)))))
      (pss_one (ps_expr (pe_bm PySem.F.plainAttrs_list PySem.F.slot_list_extend PySem.F.type_list_extend mt_extend (pv 5) (pa_cons (pe_op op_cat (pe_call G_told_pattern hr (by rfl) D_told_pattern.g D_told_pattern.F.kp D_told_pattern.b .nil pass0 (pa_cons (pv 6) (pa_cons (pv 7) pa_nil))) (pe_lst (pa_cons (pv 8) (pa_cons (pv 9) pa_nil)))) pa_nil)))))
    (pss_one (ps_ret (pv 5))))))), ?_⟩
    obtain ⟨dx, hv, pd, el, eds, h1, h2, h3, h4, h5⟩ := id hl
    rw [hh] at h2
    obtain ⟨x, rfl, hx⟩ := h2
    obtain ⟨ho, hp, hpl, _, hel⟩ := id hok
    replace ho := ho h0 hh
    obtain ⟨v, l, rfl⟩ : ∃ v l, ns = [v, l] := by
      match ns, h2l with
      | [v, l], _ => exact ⟨v, l, rfl⟩
    refine ⟨.ref m, rfl, m, _, rfl, seqL hm, rfl, _, _, rfl, _, _, rfl, rfl, ?_⟩
    refine ⟨.int v, rfl, .int l, rfl, v, l, rfl, _, rfl, if_b (fun g => ?_) (fun g => ?_)⟩
    · have g' : PM.goodLevel v l = false := by simpa using g
      have e : PM.candidatesCall s h0 [v, l] = [-4] := if_pos g'
      rw [e] at q
      exact ⟨by show 1 ≤ sizeLine; decide, fun p np => q _ p (same_upd np) np upd_same⟩
    · have g' : PM.goodLevel v l = true := by simpa using g
      have g3 : ((decide (1 ≤ v) && decide (v ≤ 9)) && (decide (1 ≤ l) && decide (l ≤ 8))) = true := g'
      simp only [Bool.and_eq_true, decide_eq_true_eq] at g3
      obtain ⟨len, rfl⟩ : ∃ len : Nat, l = (len : Int) := ⟨l.toNat, by omega⟩
      have hpo := PM.parted_ok ho s.pats
      have hcok := PM.cands_ok hpo v (len := len) (by omega)
      have e : PM.candidatesCall s h0 [v, (len : Int)] = ((PM.candidatesOf (PM.partedWords h0 s.pats) v len).length : Int) :: ((PM.candidatesOf (PM.partedWords h0 s.pats) v len).take 20).flatMap fun c => PM.toldPattern c.piece c.digits ++ [c.helped, c.hurt] := if_neg (by show ¬ PM.goodLevel v (len : Int) = false; rw [g']; decide)
      rw [e] at q hlen
      refine ⟨.ref a, rfl, a, CL, dx, _, _, rfl, h1, TL.cl, TL.nH, lnF_held _ pd el, .ref a, rfl, a, CL, dx, _, _, rfl, h1, TL.cl, TL.nP, lnF_pats _ pd el, x, pd, h0, s.pats, rfl, hx, hl_ok ho, h3.rd, by have := ho.2.2.1; omega, words_lv ho hp, fun H1 p us s1 np ep pu => ?_⟩
      refine ⟨_, rfl, _, rfl, p, us, _, v, len, rfl, ep, pu, ws_ok ho s.pats, by omega, tal_ok hpo v (by omega), fun H2 lc uc s2 nlc elc puc => ?_⟩
      have s12 := s1.trans s2
      have hcn2 := paired_len puc
      generalize hcs : PM.candidatesOf (PM.partedWords h0 s.pats) v len = cs at puc hcok hcn2 q hlen
      refine ⟨.ref lc, rfl, lc, _, rfl, .inl (seqL elc), by show 1 ≤ sizeLine; decide, fun la nla => ?_⟩
      have s3 := s12.trans (same_upd (o := .lst [.int ((uc.length : Nat) : Int)]) nla)
      have nla0 : H la = none := s12.free nla
      have elc3 : upd H2 la (.lst [.int ((uc.length : Nat) : Int)]) lc = some (.lst uc) := (same_upd nla) _ _ elc
      have ela3 : upd H2 la (.lst [.int ((uc.length : Nat) : Int)]) la = some (.lst (iv [(cs.length : Int)])) := by rw [upd_same, hcn2]; rfl
      have tp3 : Tups H2 (upd H2 la (.lst [.int ((uc.length : Nat) : Int)])) := Tups.of (same_upd nla)
      generalize upd H2 la (.lst [.int ((uc.length : Nat) : Int)]) = H3 at s3 elc3 ela3 tp3
      refine ⟨.ref lc, rfl, 20, rfl, lc, uc, rfl, seqL elc3, fun ps nps => ?_⟩
      have hcut : cutV uc none (some 20) = uc.take 20 := cutV_to uc 20
      rw [hcut]
      have s4 : Same H3 (upd H3 ps (.lst (uc.take 20))) := same_upd nps
      have e4 : upd H3 ps (.lst (uc.take 20)) ps = some (.lst (uc.take 20)) := upd_same
      generalize upd H3 ps (.lst (uc.take 20)) = H4 at s4 e4
      have p20 : Paired (CandAt H2) (uc.take 20) (cs.take 20) := pair_take puc
      have hne : ps ≠ la := fun z => by rw [z, ela3] at nps; cases nps
      have tp4 := tp3.trans (Tups.of s4)
      refine ⟨ps, rfl, ⟨_, seqL e4⟩, for_it (walk_list (xs := uc.take 20)) (fun i σ H' => ∃ v6 v7 v8 v9 : Option V, σ = [some (.ref a), some (.ref m), some (.int v), some (.int (len : Int)), some (.ref lc), some (.ref la), v6, v7, v8, v9] ∧ Same H H' ∧ But la H4 H' ∧
          H' la = some (.lst (iv ((cs.length : Int) :: ((cs.take 20).take i).flatMap fun c => PM.toldPattern c.piece c.digits ++ [c.helped, c.hurt]))))
        ⟨none, none, none, none, rfl, s3.trans s4, But.refl, s4 _ _ ela3⟩ (fun i σ H' _ hp' => ?_) ?_ ?_⟩
      · obtain ⟨_, _, _, _, _, _, b1, _⟩ := hp'
        exact seqL (b1 _ _ hne e4)
      · rintro i y σ H5 H6 hi ⟨v6, v7, v8, v9, rfl, s5, b5, e5⟩ ⟨rfl, hy⟩
        obtain ⟨c, hc, hca⟩ := paired_get p20 hy
        have tp5 : Tups H4 H6 := Tups.but b5 (s4 _ _ ela3) (fun _ z => (nomatch z)) (fun _ _ z => (nomatch z))
        obtain ⟨tt, pa, db, rfl, et, epa, edb⟩ := hca.go (tp4.trans tp5)
        have hcp := hcok c (List.mem_of_mem_take (List.mem_of_getElem? hc))
        have hl1 := fm_le (fun c : PM.Cand => PM.toldPattern c.piece c.digits ++ [c.helped, c.hurt]) (cs.take 20) (i + 1)
        rw [fm_take _ hc, List.length_append, List.length_append] at hl1
        rw [List.length_cons] at hlen
        have hl2 : ([c.helped, c.hurt] : PM.Ns).length = 2 := rfl
        refine ⟨tt, _, rfl, seqT et, rfl, _, _, rfl, _, _, rfl, _, _, rfl, _, _, rfl, rfl, ?_⟩
        refine ⟨.ref la, rfl, .inl ⟨rfl, _, seqL e5⟩, .ref pa, rfl, .ref db, rfl, pa, db, c.piece, c.digits, rfl, epa, edb, fits_ok hcp, by omega, fun H7 p7 s7 n7 e7 => ?_⟩
        refine ⟨_, rfl, _, rfl, by show 2 ≤ sizeLine; decide, fun p8 n8 => ⟨p7, p8, _, _, rfl, rfl, (same_upd n8) _ _ e7, upd_same, ?_, fun p9 n9 => ?_⟩⟩
        · rw [iv_len, sizeLine_eq]
          show _ + 2 ≤ _
          omega
        · have s79 := s7.trans ((same_upd (o := .lst [.int c.helped, .int c.hurt]) n8).new (o := .lst (iv (PM.toldPattern c.piece c.digits) ++ [.int c.helped, .int c.hurt])) n9)
          have e9 := s79 _ _ e5
          refine ⟨la, p9, _, _, rfl, rfl, e9, upd_same, ?_, ?_⟩
          · rw [iv_len, List.length_append, iv_len, List.length_cons, sizeLine_eq]
            show _ + 1 + (_ + 2) ≤ _
            omega
          · refine ⟨_, _, _, _, rfl, fun b' o q' => ?_, (b5.trans (But.of s79)).trans But.at, ?_⟩
            · rw [upd_ne (ne_of_none q' nla0)]
              exact s79 _ _ (s5 b' o q')
            · rw [upd_same, fm_take _ hc]
              show some (HO.lst (iv _ ++ (iv _ ++ iv [c.helped, c.hurt]))) = _
              rw [← iv_app, ← iv_app]
              rfl
      · rintro σ H5 ⟨v6, v7, v8, v9, rfl, s5, b5, e5⟩
        refine ⟨_, rfl, q _ la s5 nla0 ?_⟩
        rw [e5, List.length_take, hcn2, List.take_of_length_le (by rw [List.length_take]; exact Nat.le_refl _)]
end
end PR
set_option Elab.async false
set_option linter.all false
set_option maxRecDepth 100000
set_option maxHeartbeats 2000000
/-! # learning: count -/
namespace PR
open PySem PySem.Spec PyProof.Rows L2
section
variable {P : Program} {w : World} {K : PySem.W.Frag} {mg : Str → Option Value} {base : Heap} {k : Nat} {f CL CH : Addr} {fd : FuncData}
theorem ok_count_of {f_pattern_of : Addr} {fd_pattern_of : FuncData} {f_tally : Addr} {fd_tally : FuncData} {f_parted_words : Addr} {fd_parted_words : FuncData} (D : Dfn K mg "count_of" s_count_of ["learner", "chunk"] f fd) (B : Blt mg)
    (D_pattern_of : Dfn K mg "pattern_of" s_pattern_of ["chunk"] f_pattern_of fd_pattern_of) (G_pattern_of : FnOk P w K mg base CX0 k f_pattern_of fd_pattern_of ["chunk"] (spAs false PM.patternOf))
    (D_tally : Dfn K mg "tally" s_tally ["words", "level", "length"] f_tally fd_tally) (G_tally : FnOk P w K mg base CX0 k f_tally fd_tally ["words", "level", "length"] (spTally w))
    (D_parted_words : Dfn K mg "parted_words" s_parted_words ["held", "patterns"] f_parted_words fd_parted_words) (G_parted_words : FnOk P w K mg base CX0 k f_parted_words fd_parted_words ["held", "patterns"] (spParted w CH))
    (k_WRONG_NUMBERS : Kst mg "WRONG_NUMBERS" (.int (-4))) (TL : LnT K mg CL) :
    FnOk P w K mg base CX0 (k + 1) f fd ["learner", "chunk"] (spAsk w CL CH (fun _ => True) PM.countCall) := by
  refine D.F.ok sc_count_of (fun vs H Q E h => ?_) (fun cdv A outer s H vs Q E hr h => ?_)
  · obtain ⟨a, m, s, h, ns, rfl, _⟩ := h; rfl
  · obtain ⟨a, m, s, h0, ns, rfl, hl, hok, hh, hm, hnl, _, hlen, q⟩ := h
    refine ⟨_, pss_cons (ps_set (i := 2) sc_count_of.nd rfl (.inl rfl) (pe_call G_pattern_of hr (by rfl) D_pattern_of.g D_pattern_of.F.kp D_pattern_of.b .nil pass0 (pa_cons (pe_callTy call_tuple_of (by rfl) B.tuple (by decide +kernel) (pa_cons (pv 1) pa_nil)) pa_nil)))
    (pss_cons (ps_if (pt_cmpR op_isN (pv 2) (pe_non) (nomark _))
      (pss_one (ps_ret (pe_lst (pa_cons (pe_k k_WRONG_NUMBERS) pa_nil)))) pss_nil)
    (pss_cons (ps_asg (pv 2) (pg_tup rfl (pgs_cons (pg_name (i := 3) sc_count_of.nd rfl (.inl rfl)) (pgs_cons (pg_name (i := 4) sc_count_of.nd rfl (.inl rfl)) pgs_nil))))
    (pss_cons (ps_set (i := 5) sc_count_of.nd rfl (.inl rfl) (pe_callB (cr_maxT rfl (hu_of8 hr)) (by rfl) B.max (by decide +kernel) (pa_cons (pv 4) pa_nil)))
    (pss_cons (ps_if (pt_cmpR op_ne (pe_callB (cr_sumT rfl) (by rfl) B.sum (by decide +kernel) (pa_cons (pv 4) pa_nil)) (pv 5) (nomark _))
      (pss_one (ps_ret (pe_lst (pa_cons (pe_k k_WRONG_NUMBERS) pa_nil)))) pss_nil)
    (pss_cons (ps_set (i := 6) sc_count_of.nd rfl (.inl rfl) (pe_tup (pa_cons (pv 3) (pa_cons (pe_tm PySem.F.slot_tuple_index PySem.F.type_tuple_index (mt_tindex (hu_of8 hr)) (pv 4) (pv 5) ⟨by rfl, by rfl, by rfl, by rfl⟩) pa_nil))))
    (pss_cons (ps_asg (pe_call G_tally hr (by rfl) D_tally.g D_tally.F.kp D_tally.b .nil pass0 (pa_cons (pe_call G_parted_words hr (by rfl) D_parted_words.g D_parted_words.F.kp D_parted_words.b .nil pass0 (pa_cons (pe_fld (pv 0) rfl) (pa_cons (pe_fld (pv 0) rfl) pa_nil))) (pa_cons (pv 5) (pa_cons (pe_callB call_len_seq (by rfl) B.len (by decide +kernel) (pa_cons (pv 3) pa_nil)) pa_nil)))) (pg_tup rfl (pgs_cons (pg_name (i := 7) sc_count_of.nd rfl (.inl rfl)) (pgs_cons (pg_name (i := 8) sc_count_of.nd rfl (.inl rfl)) pgs_nil))))
    (pss_one (ps_ret (pe_lst (pa_cons (pe_gget2 (hu_of9 hr) (pv 7) (pv 6) (pe_int) ⟨by rfl, by rfl, by rfl, by rfl⟩) (pa_cons (pe_gget2 (hu_of9 hr) (pv 8) (pv 6) (pe_int) ⟨by rfl, by rfl, by rfl, by rfl⟩) pa_nil))))))))))), ?_⟩
    obtain ⟨dx, hv, pd, el, eds, h1, h2, h3, h4, h5⟩ := id hl
    rw [hh] at h2
    obtain ⟨x, rfl, hx⟩ := h2
    obtain ⟨ho, hp, hpl, _, hel⟩ := id hok
    replace ho := ho h0 hh
    refine ⟨.ref m, rfl, m, _, rfl, .inl ⟨seqL hm, fun t0 nt0 => ⟨t0, ns, rfl, upd_same, hnl, ?_⟩⟩⟩
    have s0 : Same H (upd H t0 (.tup (iv ns))) := same_upd nt0
    cases hpt : PM.patternOf ns with
    | none =>
      have e : PM.countCall s h0 ns = [-4] := by
        unfold PM.countCall
        rw [hpt]
      rw [e] at q
      intro H1 s1
      refine ⟨.non, rfl, rfl, _, rfl, if_t rfl ⟨by show 1 ≤ sizeLine; decide, fun p np => q _ p ((s0.trans s1).new np) ((s0.trans s1).free np) upd_same⟩⟩
    | some pr =>
      obtain ⟨pc, ds⟩ := pr
      obtain ⟨hpo, hl1, hl8, hdg⟩ := PM.pattern_ok hpt
      intro H1 t pa db s1 et ea eb
      replace eb : Nice H1 db (iv ds) := eb
      replace ea : Rd H1 pa (.tup (iv pc)) := ea
      have s01 := s0.trans s1
      obtain ⟨n, r, rfl⟩ : ∃ n r, ds = n :: r := by
        cases ds with
        | nil =>
          have : ([] : PM.Ns).length = PM.lettersIn pc + 1 := hpo.1
          cases this
        | cons n r => exact ⟨n, r, rfl⟩
      have hn0 : 0 ≤ n := (hdg n List.mem_cons_self).1
      have htop : PySem.W.maxOf n r = PM.top (n :: r) := by rw [max_top, top_cons hn0]
      refine ⟨.ref t, rfl, rfl, _, rfl, if_f rfl ?_⟩
      refine ⟨.ref t, rfl, t, _, rfl, seqT et, rfl, _, _, rfl, _, _, rfl, rfl, ?_⟩
      refine ⟨.ref db, rfl, db, n, r, rfl, seqR eb.rd, ?_⟩
      rw [htop]
      refine ⟨.ref db, rfl, db, n :: r, rfl, seqR eb.rd, _, rfl, rfl, _, rfl, ?_⟩
      rw [vint_ne]
      refine if_b (fun g => ?_) (fun g => ?_)
      · have g2 : ¬ (n :: r).sum = PM.top (n :: r) := of_decide_eq_true g
        have e : PM.countCall s h0 ns = [-4] := by
          unfold PM.countCall
          rw [hpt]
          exact if_pos g2
        rw [e] at q
        exact ⟨by show 1 ≤ sizeLine; decide, fun p np => q _ p (s01.new np) (s01.free np) upd_same⟩
      · have g2 : (n :: r).sum = PM.top (n :: r) := by
          have z : ¬ (n :: r).sum ≠ PM.top (n :: r) := of_decide_eq_false g
          exact Classical.not_not.mp z
        have e : PM.countCall s h0 ns = [(PM.dget (PM.tally (PM.partedWords h0 s.pats) (PM.top (n :: r)) pc.length).1 (pc, (((n :: r).findIdx fun d => decide (d = PM.top (n :: r)) : Nat) : Int))).getD 0, (PM.dget (PM.tally (PM.partedWords h0 s.pats) (PM.top (n :: r)) pc.length).2 (pc, (((n :: r).findIdx fun d => decide (d = PM.top (n :: r)) : Nat) : Int))).getD 0] := by
          unfold PM.countCall
          rw [hpt]
          exact if_neg (fun z => z g2)
        rw [e] at q
        refine ⟨.ref pa, rfl, .ref db, rfl, db, _, rfl, eb, _, rfl, db, n :: r, PM.top (n :: r), rfl, rfl, seqR eb.rd, top_mem hn0, by show 2 ≤ sizeLine; decide, fun fo nfo => ?_⟩
        have s2 : Same H1 (upd H1 fo (.tup [.ref pa, .int (((n :: r).idxOf (PM.top (n :: r)) : Nat) : Int)])) := same_upd nfo
        have efo : upd H1 fo (.tup [.ref pa, .int (((n :: r).idxOf (PM.top (n :: r)) : Nat) : Int)]) fo = some (.tup [.ref pa, .int (((n :: r).idxOf (PM.top (n :: r)) : Nat) : Int)]) := upd_same
        generalize upd H1 fo (.tup [.ref pa, .int (((n :: r).idxOf (PM.top (n :: r)) : Nat) : Int)]) = H2 at s2 efo
        have s02 := s01.trans s2
        refine ⟨.ref a, rfl, a, CL, dx, _, _, rfl, s02 _ _ h1, TL.cl, TL.nH, lnF_held _ pd el, .ref a, rfl, a, CL, dx, _, _, rfl, s02 _ _ h1, TL.cl, TL.nP, lnF_pats _ pd el, x, pd, h0, s.pats, rfl, hx.same s02, hl_ok ho, (h3.same s02).rd, by have := ho.2.2.1; omega, words_lv ho hp, fun H3 p us s3 np ep pu => ?_⟩
        have ea3 := L2.Rd.same (L2.Rd.same ea s2) s3
        refine ⟨_, rfl, .ref pa, rfl, pa, _, rfl, .inr (seqR ea3), p, us, _, PM.top (n :: r), pc.length, by rw [iv_len]; rfl, ep, pu, ws_ok ho s.pats, by omega, fun H4 tt d1 d2 s4 h12 ett t1 t2 => ?_⟩
        obtain ⟨qs1, ed1, pq1⟩ := id t1
        obtain ⟨qs2, ed2, pq2⟩ := id t2
        have efo4 := s4 _ _ (s3 _ _ efo)
        have ea4 := L2.Rd.same ea3 s4
        have kf : KAt H4 fo (nk (pc, (((n :: r).idxOf (PM.top (n :: r)) : Nat) : Int))) := .inr ⟨pc, _, pa, rfl, .inl efo4, ea4⟩
        refine ⟨tt, _, rfl, seqT ett, rfl, _, _, rfl, _, _, rfl, rfl, ?_⟩
        refine ⟨.ref d1, rfl, d1, qs1, rfl, .inl ed1, .ref fo, rfl, fo, _, qs1, rfl, .inl ed1, tal_keys pq1, kf, ?_⟩
        rw [tal_getD pq1]
        refine ⟨.ref d2, rfl, d2, qs2, rfl, .inl ed2, .ref fo, rfl, fo, _, qs2, rfl, .inl ed2, tal_keys pq2, kf, ?_⟩
        rw [tal_getD pq2]
        refine ⟨by show 2 ≤ sizeLine; decide, fun ra nra => ?_⟩
        have s04 := (s02.trans s3).trans s4
        refine q _ ra (s04.new nra) (s04.free nra) ?_
        rw [upd_same, idx_find]
        rfl
end
end PR
set_option Elab.async false
set_option linter.all false
set_option maxRecDepth 100000
set_option maxHeartbeats 2000000
/-! # learning: rounds, load -/
namespace PR
open PySem PySem.Spec PyProof.Rows L2
abbrev s_rounds_in : Stmt := topS 74
theorem sc_rounds_in : FnScope ["numbers", "count", "told", "at", "single"] ["numbers"] (defScope s_rounds_in) := ⟨rfl, rfl, rfl, by decide +kernel, rfl, by decide +kernel, by decide +kernel⟩
abbrev s_rounds : Stmt := topS 75
theorem sc_rounds : FnScope ["learner", "numbers", "told", "patterns", "single"] ["learner", "numbers"] (defScope s_rounds) := ⟨rfl, rfl, rfl, by decide +kernel, rfl, by decide +kernel, by decide +kernel⟩
abbrev s_load : Stmt := topS 72
theorem sc_load : FnScope ["learner", "text", "held", "e"] ["learner", "text"] (defScope s_load) := ⟨rfl, rfl, rfl, by decide +kernel, rfl, by decide +kernel, by decide +kernel⟩
def LsAt (D : Addr) (H : Hp) (v : V) (ns : PM.Ns) : Prop := ∃ b, v = .ref b ∧ b ≠ D ∧ H b = some (.lst (iv ns))
theorem LsAt.but {D : Addr} {H H' : Hp} {v : V} {ns : PM.Ns} (h : LsAt D H v ns) (b : But D H H') : LsAt D H' v ns := by
  obtain ⟨x, e1, e2, e3⟩ := h
  exact ⟨x, e1, e2, b _ _ e2 e3⟩
theorem LsAt.same {D : Addr} {H H' : Hp} {v : V} {ns : PM.Ns} (h : LsAt D H v ns) (s : Same H H') : LsAt D H' v ns := h.but (But.of s)
def goOk (h : PM.Held) : Prop := PM.HeldOk h
theorem len_of_round {r : PM.Ns} (h : PM.isRound r = true) (h5 : r.length = 5) : 1 ≤ (PM.toRnd r).len := by
  obtain ⟨v, g, b, t, len, hns, hrd, hv, hlen, _⟩ := round_nums h5 h
  rw [hrd]
  exact hlen.1
theorem go_cons {h : PM.Held} {r : PM.Ns} {rs : List PM.Ns} {p : PM.Dict} : PM.roundsGo h (r :: rs) p = if 200 < (PM.afterRound h p (PM.toRnd r)).1.length then none else PM.roundsGo h rs (PM.afterRound h p (PM.toRnd r)).1 := rfl
theorem keep_ok {s : PM.L} (hs : LOk s) {p : PM.Dict} (hp : PM.PatsOk p) (hl : p.length ≤ 1000) : LOk (PM.keep s p) := by
  obtain ⟨h1, h2, h3, h4, h5⟩ := hs
  refine ⟨h1, hp, hl, fun d hd => ?_, ?_⟩
  · have hd2 : d ∈ s.earlier ++ [s.pats] := List.mem_of_mem_drop hd
    rcases List.mem_append.mp hd2 with z | z
    · exact h4 d z
    · rw [List.mem_singleton.mp z]
      exact ⟨h2, h3⟩
  · show ((s.earlier ++ [s.pats]).drop ((s.earlier ++ [s.pats]).length - 20)).length ≤ 20
    rw [List.length_drop]
    omega
def spRoundsIn : Sp := fun vs H Q _ => ∃ (m : Addr) (ns : PM.Ns), vs = [.ref m] ∧ H m = some (.lst (iv ns)) ∧ ns.length ≤ 100000 ∧ (match PM.roundsIn ns with
  | none => ∀ H', Same H H' → Q .non H'
  | some told => ∀ H' p us, Same H H' → H p = none → H' p = some (.lst us) → Paired (LsAt p H') us told → Q (.ref p) H')
def told5 (ns : PM.Ns) : List PM.Ns := (List.range (ns.length / 5)).map fun i => (ns.drop (5 * i)).take 5
theorem in_bad {ns : PM.Ns} (h : ns.length ≠ ns.length / 5 * 5 ∨ 10 < ns.length / 5) : PM.roundsIn ns = none := if_pos h
theorem in_good {ns : PM.Ns} (h : ¬ (ns.length ≠ ns.length / 5 * 5 ∨ 10 < ns.length / 5)) : PM.roundsIn ns = if (told5 ns).all PM.isRound = true then some (told5 ns) else none := if_neg h
theorem told_at {ns : PM.Ns} {i : Nat} (h : i < ns.length / 5) : (told5 ns)[i]? = some ((ns.drop (5 * i)).take 5) := by
  unfold told5
  rw [List.getElem?_map, List.getElem?_range h]
  rfl
section
variable {P : Program} {w : World} {K : PySem.W.Frag} {mg : Str → Option Value} {base : Heap} {k : Nat} {f CL CH : Addr} {fd : FuncData}
theorem ok_rounds_in {f_is_round : Addr} {fd_is_round : FuncData} (D : Dfn K mg "rounds_in" s_rounds_in ["numbers"] f fd) (B : Blt mg)
    (D_is_round : Dfn K mg "is_round" s_is_round ["numbers"] f_is_round fd_is_round) (G_is_round : FnOk P w K mg base CX0 k f_is_round fd_is_round ["numbers"] spIsRound)
    (k_ROUND_NUMBERS : Kst mg "ROUND_NUMBERS" (.int 5)) (k_MOST_ROUNDS : Kst mg "MOST_ROUNDS" (.int 10)) :
    FnOk P w K mg base CX0 (k + 1) f fd ["numbers"] spRoundsIn := by
  refine D.F.ok sc_rounds_in (fun vs H Q E h => ?_) (fun cdv A outer s H vs Q E hr h => ?_)
  · obtain ⟨m, ns, rfl, _⟩ := h; rfl
  · obtain ⟨m, ns, rfl, hm, hnl, q⟩ := h
    refine ⟨_, pss_cons (ps_set (i := 1) sc_rounds_in.nd rfl (.inl rfl) (pe_op op_fdiv (pe_callB call_len_seq (by rfl) B.len (by decide +kernel) (pa_cons (pv 0) pa_nil)) (pe_k k_ROUND_NUMBERS)))
    (pss_cons (ps_if (PW.pt (pw_or (pt_cmpR op_ne (pe_callB call_len_seq (by rfl) B.len (by decide +kernel) (pa_cons (pv 0) pa_nil)) (pe_op op_mul (pv 1) (pe_k k_ROUND_NUMBERS)) (nomark _)) (pw_or1 (pt_cmpR op_gt (pv 1) (pe_k k_MOST_ROUNDS) (nomark _)))))
      (pss_one (ps_ret (pe_non))) pss_nil)
    (pss_cons (ps_setLc (i := 2) (own := [("at", 3)]) (g := gName 3) (tt := tYes) rfl sc_rounds_in.nd rfl rfl (sw_true rfl rfl rfl (by decide +kernel)) (pi_range1 (by rfl) B.range (pa_cons (pv 1) pa_nil)) (blkOk_by (own := [("at", 3)]) (N := ["numbers", "count", "told", "at", "single"]) (sc := defScope s_rounds_in) (by decide +kernel)) (fun _ _ _ _ _ => pg_name (i := 3) sc_rounds_in.nd rfl (Or.inl rfl)) (fun _ _ _ _ _ => pts_nil) (fun _ _ _ _ _ => pe_slice (show SlR _ (rSlL K) from sl_list) (pv 0) (po_some (pe_op op_mul (pe_k k_ROUND_NUMBERS) (pv 3))) (po_some (pe_op op_mul (pe_k k_ROUND_NUMBERS) (pe_op op_add (pv 3) (pe_int))))))
    (pss_one (ps_ret (pe_ifExp (pt_val (pe_callB (cr_all rfl) (by rfl) B.all (by decide +kernel) (pa_cons (pe_lc (own := [("single", 4)]) (g := gName 4) (tt := tYes) rfl sc_rounds_in.nd (pi_list (pv 2)) (blkOk_by (own := [("single", 4)]) (N := ["numbers", "count", "told", "at", "single"]) (sc := defScope s_rounds_in) (by decide +kernel)) (fun _ _ _ _ _ => pg_name (i := 4) sc_rounds_in.nd rfl (Or.inl rfl)) (fun _ _ _ _ _ => pts_nil) (fun _ _ _ _ _ => pe_call G_is_round hr (by rfl) D_is_round.g D_is_round.F.kp D_is_round.b .nil pass0 (pa_cons (pv 4) pa_nil))) pa_nil))) (pv 2) (pe_non)))))), ?_⟩
    refine ⟨.ref m, rfl, m, _, rfl, .inl (seqL hm), _, _, rfl, rfl, ⟨by decide, by decide⟩, ?_⟩
    rw [iv_len]
    have ecnt : ((ns.length : Int) / 5) = ((ns.length / 5 : Nat) : Int) := by omega
    refine ⟨.ref m, rfl, m, _, rfl, .inl (seqL hm), _, rfl, _, _, rfl, rfl, .inl ⟨by omega, by omega⟩, rfl, _, rfl, ?_⟩
    rw [vint_ne, iv_len]
    refine if_b (fun g => ?_) (fun g => ⟨_, rfl, _, _, rfl, rfl, _, rfl, if_b (fun g2 => ?_) (fun g2 => ?_)⟩)
    · have h1 : (ns.length : Int) ≠ ((ns.length : Int) / 5) * 5 := of_decide_eq_true g
      rw [in_bad (.inl (by omega))] at q
      exact q H (Same.refl H)
    · have h1 := of_decide_eq_true g2
      rw [in_bad (.inr (by omega))] at q
      exact q H (Same.refl H)
    · have h1 : ¬ (ns.length : Int) ≠ ((ns.length : Int) / 5) * 5 := of_decide_eq_false g
      have h2 := of_decide_eq_false g2
      rw [in_good (by omega)] at q
      have hl5 : (told5 ns).length = ns.length / 5 := by unfold told5; rw [List.length_map, List.length_range]
      refine ⟨_, rfl, _, rfl, by omega, by omega, fun D hD => ?_⟩
      rw [show ((ns.length : Int) / 5).toNat = ns.length / 5 from by omega]
      refine lc_it (walk_rg (lo := 0) (n := ns.length / 5) (fun j => ((j : Nat) : Int)) (fun j => Int.zero_add _)) (fun i H' => Same H H' ∧ ∃ us, H' D = some (.lst us) ∧ Paired (LsAt D H') us ((told5 ns).take i)) ⟨same_upd hD, [], upd_same, .nil⟩ (fun _ _ _ _ => True.intro) ?_ ?_
      · rintro i y H1 H2 hi ⟨s1, us, e1, p1⟩ ⟨rfl, rfl⟩
        refine ⟨rfl, .ref m, rfl, _, rfl, _, _, rfl, rfl, .inl ⟨by decide, by decide⟩, _, rfl, _, rfl, _, _, rfl, rfl, _, _, rfl, rfl, .inl ⟨by decide, by decide⟩, _, rfl, m, _, rfl, seqL (s1 _ _ hm), fun p np => ?_⟩
        have hcut : cutV (iv ns) (some (5 * ((i : Nat) : Int))) (some (5 * (((i : Nat) : Int) + 1))) = iv ((ns.drop (5 * i)).take 5) := by
          rw [cutV_iv, show 5 * ((i : Nat) : Int) = ((5 * i : Nat) : Int) from by omega, show 5 * (((i : Nat) : Int) + 1) = ((5 * i + 5 : Nat) : Int) from by omega, cutI_range, Nat.add_sub_cancel_left]
        rw [hcut]
        have s2 : Same H2 (upd H2 p (.lst (iv ((ns.drop (5 * i)).take 5)))) := same_upd np
        have hul := paired_len p1
        rw [List.length_take] at hul
        refine ⟨us, s2 _ _ e1, len_lt (by omega), fun b o q' => ?_, us ++ [.ref p], upd_same, ?_⟩
        · rw [upd_ne (ne_of_none q' hD)]
          exact s2 _ _ (s1 _ _ q')
        · rw [take_snoc (told_at hi)]
          refine Paired.snoc (paired_mono (fun _ _ z => (z.same s2).but But.at) p1) ⟨p, rfl, (fun z => by rw [z, e1] at np; cases np), ?_⟩
          rw [upd_ne (fun z => by rw [z, e1] at np; cases np), upd_same]
      · rintro H1 ⟨s1, us, e1, p1⟩
        rw [List.take_of_length_le (by rw [hl5]; exact Nat.le_refl _)] at p1
        have hul := paired_len p1
        refine ⟨.ref D, rfl, D, rfl, ⟨_, seqL e1⟩, fun E' hE => ?_⟩
        refine lc_it (walk_list (xs := us)) (Grow H1 E' fun i => ((told5 ns).take i).map fun r => V.bl (PM.isRound r)) (Grow.start hE rfl) (fun i H' _ hp => seqL (hp.1 _ _ e1)) ?_ ?_
        · rintro i y H2 H3 hi hg ⟨rfl, hy⟩
          obtain ⟨r, hr, b, rfl, hb1, hb2⟩ := paired_get p1 hy
          have hir : i < ns.length / 5 := by rw [← hl5, ← hul]; exact hi
          have hrl : r.length = 5 := by
            rw [told_at hir] at hr
            rw [← Option.some.inj hr, List.length_take, List.length_drop]
            omega
          refine ⟨rfl, .ref b, rfl, b, r, rfl, hg.1 _ _ hb2, by omega, by omega, fun H4 s4 => hg.yes hE s4 ?_ ?_⟩
          · refine len_lt ?_
            rw [List.length_map, List.length_take]
            omega
          · rw [take_snoc hr, List.map_append]
            rfl
        · rintro H2 ⟨s2, e2⟩
          replace e2 : H2 E' = some (.lst (((told5 ns).take us.length).map fun r => V.bl (PM.isRound r))) := e2
          rw [hul, List.take_length] at e2
          refine ⟨E', (told5 ns).map PM.isRound, rfl, seqL (by rw [e2, List.map_map]; rfl), _, rfl, ?_⟩
          have ea : ((told5 ns).map PM.isRound).all id = (told5 ns).all PM.isRound := by rw [List.all_map]; rfl
          rw [ea]
          refine if_b (fun g3 => ?_) (fun g3 => ?_)
          · rw [if_pos g3] at q
            exact ⟨_, rfl, q H2 D us (s1.trans s2) hD (s2 _ _ e1) (paired_mono (fun _ _ z => z.same s2) p1)⟩
          · rw [if_neg (by rw [g3]; exact Bool.false_ne_true)] at q
            exact q H2 (s1.trans s2)
theorem ok_rounds {f_rounds_in : Addr} {fd_rounds_in : FuncData} {f_after_round : Addr} {fd_after_round : FuncData} {f_Learner_keep : Addr} {fd_Learner_keep : FuncData} {f_score : Addr} {fd_score : FuncData} (D : Dfn K mg "rounds" s_rounds ["learner", "numbers"] f fd) (B : Blt mg)
    (D_rounds_in : Dfn K mg "rounds_in" s_rounds_in ["numbers"] f_rounds_in fd_rounds_in) (G_rounds_in : FnOk P w K mg base CX0 k f_rounds_in fd_rounds_in ["numbers"] spRoundsIn)
    (D_after_round : Dfn K mg "after_round" s_after_round ["held", "patterns", "numbers"] f_after_round fd_after_round) (G_after_round : FnOk P w K mg base CX0 k f_after_round fd_after_round ["held", "patterns", "numbers"] (spAfter w CH))
    (D_Learner_keep : Mth K CL "keep" "Learner.keep" s_Learner_keep ["self", "patterns"] f_Learner_keep fd_Learner_keep) (G_Learner_keep : FnOk P w K mg base CX0 k f_Learner_keep fd_Learner_keep ["self", "patterns"] (spKeep w CL CH))
    (D_score : Dfn K mg "score" s_score ["learner"] f_score fd_score) (G_score : FnOk P w K mg base CX0 k f_score fd_score ["learner"] (spTell w CL CH PM.score))
    (k_WRONG_NUMBERS : Kst mg "WRONG_NUMBERS" (.int (-4))) (k_MOST_PATTERNS_learning : Kst mg "MOST_PATTERNS_learning" (.int 200)) (k_TOO_MANY : Kst mg "TOO_MANY" (.int (-7))) (TL : LnT K mg CL) :
    FnOk P w K mg base CX0 (k + 1) f fd ["learner", "numbers"] (spDo w CL CH (fun _ => True) PM.roundsCall) := by
  refine D.F.ok sc_rounds (fun vs H Q E h => ?_) (fun cdv A outer s H vs Q E hr h => ?_)
  · obtain ⟨a, m, s, h, ns, rfl, _⟩ := h; rfl
  · obtain ⟨a, m, s, h0, ns, rfl, hl, hok, hh, hm, hnl, _, hlen, q⟩ := h
    refine ⟨_, pss_cons (ps_set (i := 2) sc_rounds.nd rfl (.inl rfl) (pe_call G_rounds_in hr (by rfl) D_rounds_in.g D_rounds_in.F.kp D_rounds_in.b .nil pass0 (pa_cons (pv 1) pa_nil)))
    (pss_cons (ps_if (pt_cmpR op_isN (pv 2) (pe_non) (nomark _))
      (pss_one (ps_ret (pe_lst (pa_cons (pe_k k_WRONG_NUMBERS) pa_nil)))) pss_nil)
    (pss_cons (ps_set (i := 3) sc_rounds.nd rfl (.inl rfl) (pe_fld (pv 0) rfl))
    (pss_cons (ps_for PassesOwn.never rfl (pi_list (pv 2)) (pg_name (i := 4) sc_rounds.nd rfl (.inl rfl))
      (pss_cons (ps_set (i := 3) sc_rounds.nd rfl (.inl rfl) (pe_ix ix_tup (pe_call G_after_round hr (by rfl) D_after_round.g D_after_round.F.kp D_after_round.b .nil pass0 (pa_cons (pe_fld (pv 0) rfl) (pa_cons (pv 3) (pa_cons (pv 4) pa_nil)))) (pe_int) (fun _ _ => rfl)))
        (pss_one (ps_if (pt_cmpR op_gt (pe_callB call_len_g (by rfl) B.len (by decide +kernel) (pa_cons (pv 3) pa_nil)) (pe_k k_MOST_PATTERNS_learning) (nomark _))
          (pss_one (ps_ret (pe_lst (pa_cons (pe_k k_TOO_MANY) pa_nil)))) pss_nil))))
    (C8.pss_cut (ps_if (pt_truth (pv 2) (by intro _; rfl))
      (pss_one (ps_expr (pe_meth (pv 0) TL.cl D_Learner_keep.m G_Learner_keep hr D_Learner_keep.b .nil pass0 (pa_cons (pv 3) pa_nil)))) pss_nil)
    (pss_one (ps_ret (pe_call G_score hr (by rfl) D_score.g D_score.F.kp D_score.b .nil pass0 (pa_cons (pv 0) pa_nil)))))))), ?_⟩
    obtain ⟨dx, hv, pd, el, eds, h1, h2, h3, h4, h5⟩ := id hl
    rw [hh] at h2
    obtain ⟨x, rfl, hx⟩ := h2
    obtain ⟨ho, hp, hpl, _, hel⟩ := id hok
    replace ho := ho h0 hh
    refine ⟨.ref m, rfl, m, ns, rfl, hm, hnl, ?_⟩
    cases hri : PM.roundsIn ns with
    | none =>
      have e : PM.roundsCall s h0 ns = (s, [-4]) := by
        unfold PM.roundsCall
        rw [hri]
      rw [e] at q
      intro H1 s1
      exact ⟨.non, rfl, rfl, _, rfl, if_t rfl ⟨by show 1 ≤ sizeLine; decide, fun p np => q _ p (BuL.of hl (s1.new np)) (s1.free np) (hl.same (s1.new np)) upd_same⟩⟩
    | some told =>
      intro H1 p us s1 np ep pu
      have hul := paired_len pu
      have hall : ∀ r ∈ told, PM.isRound r = true ∧ r.length = 5 := by
        by_cases hb : ns.length ≠ ns.length / 5 * 5 ∨ 10 < ns.length / 5
        · rw [in_bad hb] at hri; cases hri
        · rw [in_good hb] at hri
          by_cases ha : (told5 ns).all PM.isRound = true
          · rw [if_pos ha] at hri
            have e := Option.some.inj hri
            intro r hr
            rw [← e] at hr
            refine ⟨List.all_eq_true.mp ha r hr, ?_⟩
            unfold told5 at hr
            obtain ⟨i, hi, hx⟩ := List.mem_map.mp hr
            rw [List.mem_range] at hi
            rw [← hx, List.length_take, List.length_drop]
            omega
          · rw [if_neg ha] at hri; cases hri
      have hrc : PM.roundsCall s h0 ns = match PM.roundsGo h0 told s.pats with
          | none => (s, [-7])
          | some p => (if told = [] then s else PM.keep s p, PM.score (if told = [] then s else PM.keep s p) h0) := by
        unfold PM.roundsCall
        rw [hri]
        all_goals (dsimp only; cases PM.roundsGo h0 told s.pats <;> rfl)
      refine ⟨.ref p, rfl, rfl, _, rfl, if_f rfl ?_⟩
      refine ⟨.ref a, rfl, a, CL, dx, _, _, rfl, s1 _ _ h1, TL.cl, TL.nP, lnF_pats _ pd el, ?_⟩
      refine ⟨.ref p, rfl, p, rfl, ⟨_, seqL ep⟩, for_it (walk_list (xs := us)) (fun i σ H' => ∃ (d : Addr) (pc : PM.Dict) (v4 : Option V), σ = [some (.ref a), some (.ref m), some (.ref p), some (.ref d), v4] ∧ Same H1 H' ∧ DictAt w false H' d pc ∧ PM.PatsOk pc ∧ pc.length ≤ 1000 ∧
          PM.roundsGo h0 told s.pats = PM.roundsGo h0 (told.drop i) pc ∧ (i = 0 → pc = s.pats))
        ⟨pd, s.pats, none, rfl, Same.refl _, h3.same s1, hp, hpl, rfl, fun _ => rfl⟩ (fun i σ H' _ hp' => ?_) ?_ ?_⟩
      · obtain ⟨_, _, _, _, s2, _⟩ := hp'
        exact seqL (s2 _ _ ep)
      · rintro i y σ H2 H3 hi ⟨d, pc, v4, rfl, s2, hd, hpc, hpcl, hgo, _⟩ ⟨rfl, hy⟩
        obtain ⟨r, hr, b, rfl, hb1, hb2⟩ := paired_get pu hy
        obtain ⟨hrr, hr5⟩ := hall r (List.mem_of_getElem? hr)
        have s12 := s1.trans s2
        refine ⟨.ref a, rfl, a, CL, dx, _, _, rfl, s12 _ _ h1, TL.cl, TL.nH, lnF_held _ pd el, .ref d, rfl, .ref b, rfl, x, d, b, h0, pc, r, rfl, hx.same s12, ho, hd, hpc, by omega, s2 _ _ hb2, hr5, hrr, fun H4 t d' l s4 nd nl et hd' el' => ?_⟩
        obtain ⟨qs, ed, pq⟩ := id hd'
        have hgo2 := hgo
        rw [drop_at hr, go_cons] at hgo2
        refine ⟨t, _, 0, _, rfl, rfl, seqT et, atI_nat (j := 0) rfl, .ref d', rfl, d', qs, rfl, .inl ed, dict_keys pq, _, _, rfl, rfl, _, rfl, ?_⟩
        rw [paired_len pq]
        refine if_b (fun g2 => ?_) (fun g2 => ?_)
        · rw [if_pos (by have := of_decide_eq_true g2; omega)] at hgo2
          rw [hrc, hgo2] at q
          have s14 := s12.trans s4
          exact ⟨by show 1 ≤ sizeLine; decide, fun p np => q _ p (BuL.of hl (s14.new np)) (s14.free np) (hl.same (s14.new np)) upd_same⟩
        · have g3 : ¬ 200 < (PM.afterRound h0 pc (PM.toRnd r)).1.length := by have := of_decide_eq_false g2; omega
          rw [if_neg g3] at hgo2
          exact ⟨d', _, _, rfl, s2.trans s4, hd', PM.after_ok ho hpc (len_of_round hrr hr5), by omega, hgo2, fun z => (nomatch z)⟩
      · rintro σ H2 ⟨d, pc, v4, rfl, s2, hd, hpc, hpcl, hgo, h00⟩
        rw [hul, List.drop_length] at hgo
        have s12 := s1.trans s2
        have hrc2 : PM.roundsCall s h0 ns = (if told = [] then s else PM.keep s pc, PM.score (if told = [] then s else PM.keep s pc) h0) := by
          rw [hrc, hgo]
          rfl
        rw [hrc2] at q hlen
        refine ⟨fun σ' H' => σ' = [some (.ref a), some (.ref m), some (.ref p), some (.ref d), v4] ∧ BuL a H H' ∧ LrAt w CL CH H' a (if told = [] then s else PM.keep s pc), ?_, ?_⟩
        · refine ⟨.ref p, rfl, _, .inl ⟨us, seqL (s2 _ _ ep), rfl⟩, if_b (fun g => ?_) (fun g => ?_)⟩
          · have ht : told ≠ [] := fun z => by
              rw [z] at pu
              cases pu
              cases g
            rw [if_neg ht]
            exact ⟨.ref a, rfl, a, dx, _, rfl, s12 _ _ h1, lnF_no _ pd el (by decide +kernel) (by decide +kernel) (by decide +kernel), .ref d, rfl, a, d, s, pc, rfl, hl.same s12, hel, hd, fun H3 b3 hl3 => ⟨rfl, (BuL.of hl s12).trans b3, hl3⟩⟩
          · have ht : told = [] := by
              have : us = [] := by
                cases us with
                | nil => rfl
                | cons _ _ => cases g
              rw [this] at hul
              exact List.length_eq_zero_iff.mp hul.symm
            rw [if_pos ht]
            exact ⟨rfl, BuL.of hl s12, hl.same s12⟩
        · rintro σ' H3 ⟨rfl, b3, hl3⟩
          obtain ⟨_, _, _, _, _, g1, _⟩ := id hl3
          have hok2 : LOk (if told = [] then s else PM.keep s pc) := by
            split
            · exact hok
            · exact keep_ok hok hpc hpcl
          have hh2 : (if told = [] then s else PM.keep s pc).held = some h0 := by
            split
            · exact hh
            · exact hh
          refine ⟨.ref a, rfl, a, _, h0, rfl, hl3, hok2, hh2, hlen, fun H4 r s4 nr er => q _ r (b3.trans (BuL.of hl3 s4)) (b3.1.none g1 nr) (hl3.same s4) er⟩
end
end PR
set_option Elab.async false
set_option linter.all false
set_option maxRecDepth 100000
set_option maxHeartbeats 2000000
/-! # learning: load, one call -/
namespace PR
open PySem PySem.Spec PyProof.Rows L2
abbrev s_span_of : Stmt := topS 89
theorem sc_span_of : FnScope ["calls", "at"] ["calls", "at"] (defScope s_span_of) := ⟨rfl, rfl, rfl, by decide +kernel, rfl, by decide +kernel, by decide +kernel⟩
abbrev s_answer_of : Stmt := topS 90
theorem sc_answer_of : FnScope ["learner", "call", "numbers"] ["learner", "call", "numbers"] (defScope s_answer_of) := ⟨rfl, rfl, rfl, by decide +kernel, rfl, by decide +kernel, by decide +kernel⟩
def spLoad (w : World) (C CH : Addr) : Sp := fun vs H Q _ => ∃ (a m : Addr) (s : PM.L) (ns : PM.Ns), vs = [.ref a, .ref m] ∧ LrAt w C CH H a s ∧ LOk s ∧ H m = some (.lst (iv ns)) ∧ ns.length ≤ 100000 ∧
  ∀ H' p, BuL a H H' → H p = none → LrAt w C CH H' a (PM.load s ns).1 → H' p = some (.lst (iv (PM.load s ns).2)) → Q (.ref p) H'
def spSpan (K : PySem.W.Frag) : Sp := fun vs H Q _ => ∃ (c : Addr) (l : PM.Ns) (i : Nat), vs = [.ref c, .int (i : Int)] ∧ SqL K H c (iv l) ∧ i < l.length ∧ ((PM.spanOf (l.drop i)).1 = 2 → i + 1 < l.length ∧ 0 ≤ l.getD (i + 1) 0) ∧
  ∀ H' t, Same H H' → H' t = some (.tup [.int ((i + (PM.spanOf (l.drop i)).1 : Nat) : Int), .int ((i + (PM.spanOf (l.drop i)).1 + (PM.spanOf (l.drop i)).2 : Nat) : Int)]) → Q (.ref t) H'
def isRow (p : Int) : Prop := p = 0 ∨ p = 2 ∨ p = 4 ∨ p = 7
theorem span_row {p : Int} {r : PM.Ns} (h : p = 0 ∨ p = 2 ∨ p = 4 ∨ p = 7) : PM.spanOf (p :: r) = (2, ((p :: r).getD 1 0).toNat) := if_pos h
theorem span_plain {p : Int} {r : PM.Ns} (h : ¬ (p = 0 ∨ p = 2 ∨ p = 4 ∨ p = 7)) : PM.spanOf (p :: r) = (1, if p = 1 then 5 else if p = 3 then 2 else 0) := if_neg h
section
variable {P : Program} {w : World} {K : PySem.W.Frag} {mg : Str → Option Value} {base : Heap} {k : Nat} {f CL CH : Addr} {fd : FuncData}
theorem ok_load {C : Addr} {f_list_of : Addr} {fd_list_of : FuncData} {f_Learner_hold : Addr} {fd_Learner_hold : FuncData} (D : Dfn K mg "load" s_load ["learner", "text"] f fd) (B : Blt mg)
    (D_list_of : Dfn K mg "list_of" s_list_of ["text"] f_list_of fd_list_of) (G_list_of : FnOk P w K mg base (L2.CX P w) k f_list_of fd_list_of ["text"] (spListOf w CH C))
    (D_Learner_hold : Mth K CL "hold" "Learner.hold" s_Learner_hold ["self", "held"] f_Learner_hold fd_Learner_hold) (G_Learner_hold : FnOk P w K mg base CX0 k f_Learner_hold fd_Learner_hold ["self", "held"] (spHold w CL CH)) (TL : LnT K mg CL) (TH : HlT K mg CH) {fF : Addr} {fdF : FuncData} (TF : FaultT K mg C fF fdF) :
    FnOk P w K mg base CX0 (k + 1) f fd ["learner", "text"] (spLoad w CL CH) := by
  refine D.F.ok sc_load (fun vs H Q E h => ?_) (fun cdv A outer s H vs Q E hr h => ?_)
  · obtain ⟨a, m, s, ns, rfl, _⟩ := h; rfl
  · obtain ⟨a, m, s, ns, rfl, hl, hok, hm, hnl, q⟩ := h
    refine ⟨_, pss_cons (ps_try_as (i := 3) rfl rfl sc_load.nd rfl rfl ⟨rfl, by decide, .inl TF.g⟩ takes0
        (fun W pn xe tk _ => pss_one (ps_set (i := 2) sc_load.nd rfl (.inl rfl) (pe_callS G_list_of hr (by rfl) D_list_of.g D_list_of.F.kp D_list_of.b (fun σ => passAt tk σ) (pa_cons (pv 1) pa_nil))))
        (fun a oe cls d pn hz hf => pss_one (ps_ret (pe_lst (pa_cons pe_int (pa_cons (pe_xf TF.xf TF.nC hz hf (pv 3)) (pa_cons (pe_xf TF.xf TF.nP hz hf (pv 3)) pa_nil)))))))
    (pss_cons (ps_expr (pe_meth (pv 0) TL.cl D_Learner_hold.m G_Learner_hold hr D_Learner_hold.b .nil pass0 (pa_cons (pv 2) pa_nil)))
    (pss_one (ps_ret (pe_lst (pa_cons (pe_int) (pa_cons (pe_callB call_len_g (by rfl) B.len (by decide +kernel) (pa_cons (pe_fld (pv 2) rfl) pa_nil)) (pa_cons (pe_callB call_len_g (by rfl) B.len (by decide +kernel) (pa_cons (pe_fld (pv 2) rfl) pa_nil)) pa_nil))))))), ?_⟩
    obtain ⟨dx, hv, pd, el, eds, h1, h2, h3, h4, h5⟩ := id hl
    refine ⟨.ref m, rfl, m, ns, rfl, hm, hnl, ?_⟩
    cases hlo : PM.listOf ns with
    | error f =>
      have e : PM.load s ns = (s, [0, f.1, f.2]) := by
        unfold PM.load
        rw [hlo]
      rw [e] at q
      intro d fs H1 s1 ed ec ep
      refine ⟨true, TF.te, fun _ ea nea => ?_, fun q => Bool.noConfusion q⟩
      refine ⟨_, rfl, rfl, rfl, d, fs, _, rfl, ed, ec, _, rfl, rfl, rfl, d, fs, _, rfl, ed, ep, by show 3 ≤ sizeLine; decide, fun p np => q _ p (BuL.of hl (s1.new np)) (s1.free np) (hl.same (s1.new np)) upd_same⟩
    | ok h0 =>
      have e : PM.load s ns = (PM.hold s h0, [1, (h0.words.length : Int), (h0.pats.length : Int)]) := by
        unfold PM.load
        rw [hlo]
      rw [e] at q
      intro H1 x s1 hx
      refine ⟨.ref a, rfl, a, dx, _, rfl, s1 _ _ h1, lnF_no _ pd el (by decide +kernel) (by decide +kernel) (by decide +kernel), .ref x, rfl, a, x, s, h0, rfl, hl.same s1, hx, fun H2 b2 hl2 => ?_⟩
      have hx2 := hx.ln b2.1 (s1 _ _ h1)
      obtain ⟨dx', wd, pd', g1, g2, g3⟩ := id hx2
      obtain ⟨qs, ed, pq⟩ := id g2
      obtain ⟨qs', ed', pq'⟩ := id g3
      obtain ⟨_, _, _, _, _, k1, _⟩ := id hl2
      refine ⟨.ref x, rfl, x, CH, dx', _, _, rfl, g1, TH.cl, TH.nW, hlF_words h0 wd pd', wd, qs, rfl, .inl ed, dict_keys pq, .ref x, rfl, x, CH, dx', _, _, rfl, g1, TH.cl, TH.nP, hlF_patterns h0 wd pd', pd', qs', rfl, .inl ed', dict_keys pq', by show 3 ≤ sizeLine; decide, fun r nr => ?_⟩
      have b02 := (BuL.of hl s1).trans b2
      refine q _ r (b02.trans (BuL.of hl2 (same_upd nr))) (b02.1.none k1 nr) (hl2.same (same_upd nr)) ?_
      rw [upd_same, paired_len pq, paired_len pq']
      rfl
theorem ok_span_of (D : Dfn K mg "span_of" s_span_of ["calls", "at"] f fd) (B : Blt mg) {rc pl : Addr} (KRC : Kst mg "ROW_CALLS" (.ref rc)) (tR : ∀ H, SqT K H rc (iv [0, 2, 4, 7])) (KPL : Kst mg "PLAIN_NUMBERS" (.ref pl)) (kdP : KD K pl [((1 : Int), V.int 5), (3, .int 2)]) :
    FnOk P w K mg base CX0 (k + 1) f fd ["calls", "at"] (spSpan K) := by
  refine D.F.ok sc_span_of (fun vs H Q E h => ?_) (fun cdv A outer s H vs Q E hr h => ?_)
  · obtain ⟨c, l, i, rfl, _⟩ := h; rfl
  · obtain ⟨c, l, i, rfl, hc, hi, hrow, q⟩ := h
    refine ⟨_, pss_cons (ps_if (pt_cmpR op_in_seq (pe_ix ix_list (pv 0) (pv 1) (fun _ _ => rfl)) (pe_k KRC) (by rfl))
      (pss_one (ps_ret (pe_tup (pa_cons (pe_op op_add (pv 1) (pe_int)) (pa_cons (pe_op op_add (pe_op op_add (pv 1) (pe_int)) (pe_ix ix_list (pv 0) (pe_op op_add (pv 1) (pe_int)) (fun _ _ => rfl))) pa_nil))))) pss_nil)
    (pss_one (ps_ret (pe_tup (pa_cons (pe_op op_add (pv 1) (pe_int)) (pa_cons (pe_op op_add (pe_op op_add (pv 1) (pe_int)) (pe_kget2 (pe_k KPL) (pe_ix ix_list (pv 0) (pv 1) (fun _ _ => rfl)) (pe_int) ⟨by rfl, by rfl, by rfl, by rfl⟩)) pa_nil))))), ?_⟩
    obtain ⟨p, hp⟩ : ∃ p, l[i]? = some p := ⟨l[i], List.getElem?_eq_getElem hi⟩
    have hd := drop_at hp
    rw [hd] at q hrow
    have hat : atI (iv l) ((i : Nat) : Int) = some (.int p) := atI_nat (by rw [List.getElem?_map, hp]; rfl)
    refine ⟨.ref c, rfl, _, rfl, c, _, _, _, rfl, rfl, hc, hat, rc, _, rfl, .inr (tR H), rfl, flat_iv [0, 2, 4, 7], _, rfl, ?_⟩
    have hin : (if false = true then !inV (.int p) (iv [0, 2, 4, 7]) else inV (.int p) (iv [0, 2, 4, 7])) = decide (p = 0 ∨ p = 2 ∨ p = 4 ∨ p = 7) := by
      refine (inV_iv p [0, 2, 4, 7]).trans (decide_eq_decide.mpr ⟨fun z => by simpa using z, fun z => by simpa using z⟩)
    rw [hin]
    refine if_b (fun g => ?_) (fun g => ?_)
    · have g2 := of_decide_eq_true g
      rw [span_row g2] at q hrow
      obtain ⟨hi1, hn0⟩ := hrow rfl
      obtain ⟨n, hn⟩ : ∃ n, l[i + 1]? = some n := ⟨l[i + 1], List.getElem?_eq_getElem hi1⟩
      have hnn : 0 ≤ n := by
        rw [List.getD_eq_getElem?_getD, hn] at hn0
        exact hn0
      have hat1 : atI (iv l) (((i : Nat) : Int) + 1) = some (.int n) := by
        rw [show ((i : Nat) : Int) + 1 = ((i + 1 : Nat) : Int) from by omega]
        exact atI_nat (by rw [List.getElem?_map, hn]; rfl)
      have hd1 : l.drop (i + 1) = n :: l.drop (i + 1 + 1) := drop_at hn
      refine ⟨_, rfl, _, _, rfl, rfl, _, rfl, _, _, rfl, rfl, .ref c, rfl, _, rfl, _, _, rfl, rfl, c, _, _, _, rfl, rfl, hc, hat1, _, _, rfl, rfl, by show 2 ≤ sizeLine; decide, fun t nt => q _ t (same_upd nt) ?_⟩
      rw [upd_same, hd1]
      show some (HO.tup [.int ((i : Int) + 2), .int ((i : Int) + 2 + n)]) = some (HO.tup [.int ((i + 2 : Nat) : Int), .int ((i + 2 + n.toNat : Nat) : Int)])
      rw [show ((i + 2 : Nat) : Int) = (i : Int) + 2 from by omega, show ((i + 2 + n.toNat : Nat) : Int) = (i : Int) + 2 + n from by omega]
    · have g2 := of_decide_eq_false g
      rw [span_plain g2] at q
      refine ⟨_, rfl, _, _, rfl, rfl, _, rfl, _, _, rfl, rfl, pl, _, rfl, kdP, .ref c, rfl, _, rfl, c, _, _, _, rfl, rfl, hc, hat, p, rfl, ?_⟩
      have hv : (valI [((1 : Int), V.int 5), (3, .int 2)] p).getD (.int 0) = .int (((if p = 1 then 5 else if p = 3 then 2 else 0 : Nat)) : Int) := by
        by_cases h1 : p = 1
        · subst h1; rfl
        · by_cases h3 : p = 3
          · subst h3; rfl
          · unfold valI
            rw [if_neg h1, if_neg h3]
            have e1 : decide ((1 : Int) = p) = false := decide_eq_false (fun z => h1 z.symm)
            have e3 : decide ((3 : Int) = p) = false := decide_eq_false (fun z => h3 z.symm)
            simp only [List.find?_cons, e1, e3, List.find?_nil]
            rfl
      dsimp only [tC]
      rw [hv]
      refine ⟨_, _, rfl, rfl, by show 2 ≤ sizeLine; decide, fun t nt => q _ t (same_upd nt) ?_⟩
      rw [upd_same]
      show some (HO.tup [.int ((i : Int) + 1), .int ((i : Int) + 1 + _)]) = some (HO.tup [.int ((i + 1 : Nat) : Int), .int ((i + 1 + _ : Nat) : Int)])
      rw [show ((i + 1 : Nat) : Int) = (i : Int) + 1 from by omega]
      congr 4
end
end PR
set_option Elab.async false
set_option linter.all false
set_option maxRecDepth 100000
set_option maxHeartbeats 2000000
/-! # learning: answer_of, answers -/
namespace PR
open PySem PySem.Spec PyProof.Rows L2
abbrev s_answers : Stmt := topS 91
theorem sc_answers : FnScope ["calls", "learner", "told", "at", "begin", "end", "answer"] ["calls"] (defScope s_answers) := ⟨rfl, rfl, rfl, by decide +kernel, rfl, by decide +kernel, by decide +kernel⟩
theorem hold_ok {s : PM.L} {h : PM.Held} (ho : PM.HeldOk h) : LOk (PM.hold s h) := ⟨fun x hx => by cases hx; exact ho, ho.2.2.2.2.1, ho.2.2.2.2.2, fun _ z => (nomatch z), Nat.zero_le _⟩
theorem roundsGo_ok {h : PM.Held} (ho : PM.HeldOk h) : ∀ {rs : List PM.Ns} {p q : PM.Dict}, (∀ r ∈ rs, PM.isRound r = true ∧ r.length = 5) → PM.PatsOk p → p.length ≤ 1000 → PM.roundsGo h rs p = some q → PM.PatsOk q ∧ q.length ≤ 1000
  | [], p, q, _, hp, hl, e => by
    cases e
    exact ⟨hp, hl⟩
  | r :: rs, p, q, hr, hp, hl, e => by
    rw [go_cons] at e
    split at e
    · cases e
    · rename_i hn
      have h1 := hr r List.mem_cons_self
      exact roundsGo_ok ho (fun x hx => hr x (List.mem_cons_of_mem _ hx)) (PM.after_ok ho hp (len_of_round h1.1 h1.2)) (by omega) e
theorem answer_ok {s : PM.L} (hs : LOk s) (p : Int) {ns : PM.Ns} (h1 : p = 1 → ns.length = 5) : LOk (PM.answerOf s p ns).1 := by
  unfold PM.answerOf
  split
  · unfold PM.load
    cases e : PM.listOf ns with
    | error f => exact hs
    | ok h => exact hold_ok (s := s) (PM.listOf_ok e).1
  · cases hh : s.held with
    | none => exact hs
    | some h =>
      have ho := hs.1 h hh
      dsimp only
      split
      · rename_i hp1
        unfold PM.roundCall
        split
        · exact hs
        · rename_i hr
          dsimp only
          split
          · exact hs
          · refine keep_ok hs (PM.after_ok ho hs.2.1 (len_of_round (by simpa using hr) (h1 hp1))) (by omega)
      · split
        · unfold PM.roundsCall
          cases hri : PM.roundsIn ns with
          | none => exact hs
          | some told =>
            dsimp only
            cases hgo : PM.roundsGo h told s.pats with
            | none => exact hs
            | some q =>
              have hall : ∀ r ∈ told, PM.isRound r = true ∧ r.length = 5 := by
                by_cases hb : ns.length ≠ ns.length / 5 * 5 ∨ 10 < ns.length / 5
                · rw [in_bad hb] at hri; cases hri
                · rw [in_good hb] at hri
                  by_cases ha : (told5 ns).all PM.isRound = true
                  · rw [if_pos ha] at hri
                    have e := Option.some.inj hri
                    intro r hr
                    rw [← e] at hr
                    refine ⟨List.all_eq_true.mp ha r hr, ?_⟩
                    unfold told5 at hr
                    obtain ⟨i, hi, hx⟩ := List.mem_map.mp hr
                    rw [List.mem_range] at hi
                    rw [← hx, List.length_take, List.length_drop]
                    omega
                  · rw [if_neg ha] at hri; cases hri
              obtain ⟨g1, g2⟩ := roundsGo_ok ho hall hs.2.1 hs.2.2.1 hgo
              dsimp only
              split
              · exact hs
              · exact keep_ok hs g1 g2
        · split
          · exact hs
          · split
            · exact hs
            · split
              · exact hs
              · split
                · exact hs
                · split
                  · exact hs
                  · split
                    · unfold PM.undoCall
                      cases hl : s.earlier.getLast? with
                      | none => exact hs
                      | some d =>
                        have hd := hs.2.2.2.1 d (List.mem_of_getLast? hl)
                        exact ⟨hs.1, hd.1, hd.2, fun x hx => hs.2.2.2.1 x (by rw [List.dropLast_eq_take] at hx; exact List.mem_of_mem_take hx), by
                          show s.earlier.dropLast.length ≤ 20
                          rw [List.length_dropLast]
                          have := hs.2.2.2.2
                          omega⟩
                    · exact hold_ok (s := s) ho
def spAnswerOf (w : World) (C CH : Addr) : Sp := fun vs H Q _ => ∃ (a m : Addr) (s : PM.L) (p : Int) (ns : PM.Ns), vs = [.ref a, .int p, .ref m] ∧ LrAt w C CH H a s ∧ LOk s ∧ H m = some (.lst (iv ns)) ∧ ns.length ≤ 100000 ∧ (0 ≤ p ∧ p ≤ 9) ∧ (p = 1 → ns.length = 5) ∧ (p = 3 → ns.length = 2) ∧ (PM.answerOf s p ns).2.length ≤ 10000000 ∧
  ∀ H' r, BuL a H H' → H r = none → LrAt w C CH H' a (PM.answerOf s p ns).1 → H' r = some (.lst (iv (PM.answerOf s p ns).2)) → Q (.ref r) H'
/-- the calls' table -/
structure CallsT (w : World) (CL CH : Addr) (S : Addr → Option Sp) (cs bs f0 f1 f2 f3 f4 f5 f6 f7 f8 f9 : Addr) (K : PySem.W.Frag) (mg : Str → Option Value) : Prop where
  kC : Kst mg "CALLS" (.ref cs)
  kB : Kst mg "BARE_CALLS" (.ref bs)
  dC : KD K cs [((0 : Int), V.ref f0), (1, .ref f1), (2, .ref f2), (3, .ref f3), (4, .ref f4), (7, .ref f7)]
  dB : KD K bs [((5 : Int), V.ref f5), (6, .ref f6), (8, .ref f8), (9, .ref f9)]
  S0 : S f0 = some (spLoad w CL CH)
  S1 : S f1 = some (spDo w CL CH (fun ns => ns.length = 5) PM.roundCall)
  S2 : S f2 = some (spDo w CL CH (fun _ => True) PM.roundsCall)
  S3 : S f3 = some (spAsk w CL CH (fun ns => ns.length = 2) PM.candidatesCall)
  S4 : S f4 = some (spAsk w CL CH (fun _ => True) PM.countCall)
  S5 : S f5 = some (spTell w CL CH fun s _ => PM.patternsCall s)
  S6 : S f6 = some (spTell w CL CH PM.score)
  S7 : S f7 = some (spAsk w CL CH (fun _ => True) PM.partCall)
  S8 : S f8 = some (spChange w CL CH (fun _ => True) PM.undoCall)
  S9 : S f9 = some (spChange w CL CH (fun s => s.held ≠ none) fun s => match s.held with | none => (s, []) | some h => PM.forgetCall s h)
section
variable {P : Program} {w : World} {K : PySem.W.Frag} {mg : Str → Option Value} {base : Heap} {k : Nat} {f CL CH : Addr} {S : Addr → Option Sp} {cs bs f0 f1 f2 f3 f4 f5 f6 f7 f8 f9 : Addr} {fd : FuncData}
theorem ok_answer_of (D : Dfn K mg "answer_of" s_answer_of ["learner", "call", "numbers"] f fd) (B : Blt mg)
    (k_LOAD : Kst mg "LOAD" (.int 0)) (k_NO_LIST : Kst mg "NO_LIST" (.int (-1))) (TL : LnT K mg CL) (TC : CallsT w CL CH S cs bs f0 f1 f2 f3 f4 f5 f6 f7 f8 f9 K mg) (AS : ∀ g sp, S g = some sp → L2.Held P w K mg base k g sp) :
    FnOk P w K mg base CX0 (k + 1) f fd ["learner", "call", "numbers"] (spAnswerOf w CL CH) := by
  refine D.F.ok sc_answer_of (fun vs H Q E h => ?_) (fun cdv A outer s H vs Q E hr h => ?_)
  · obtain ⟨a, m, s, p, ns, rfl, _⟩ := h; rfl
  · obtain ⟨a, m, s, p, ns, rfl, hl, hok, hm, hnl, hp9, hp1, hp3, hlen, q⟩ := h
    refine ⟨_, C8.pss_cut (ps_if (PW.pt (pw_and (pt_cmpR op_isN (pe_fld (pv 0) rfl) (pe_non) (nomark _)) (pw_and1 (pt_cmpR op_ne (pv 1) (pe_k k_LOAD) (nomark _)))))
      (pss_one (ps_ret (pe_lst (pa_cons (pe_k k_NO_LIST) pa_nil)))) pss_nil)
    (pss_cons (ps_if (pt_cmp (pc_kin (pv 1) (pe_k TC.kB)))
      (pss_one (ps_ret (pe_callF AS hr (pe_kix (pe_k TC.kB) (pv 1) (fun _ _ => rfl)) (pa_cons (pv 0) pa_nil)))) pss_nil)
    (pss_one (ps_ret (pe_callF AS hr (pe_kix (pe_k TC.kC) (pv 1) (fun _ _ => rfl)) (pa_cons (pv 0) (pa_cons (pv 2) pa_nil)))))), ?_⟩
    obtain ⟨dx, hv, pd, el, eds, h1, h2, h3, h4, h5⟩ := id hl
    obtain ⟨p0, p9⟩ := hp9
    refine ⟨fun σ' H' => σ' = [some (.ref a), some (.int p), some (.ref m)] ∧ H' = H ∧ (p = 0 ∨ ∃ h0, s.held = some h0), ?_, ?_⟩
    · cases hh : s.held with
      | none =>
        rw [hh] at h2
        have e2 : hv = .non := h2
        subst e2
        refine ⟨.ref a, rfl, a, CL, dx, _, _, rfl, h1, TL.cl, TL.nH, lnF_held _ pd el, rfl, _, rfl, if_t rfl ⟨_, rfl, rfl, _, rfl, ?_⟩⟩
        rw [vint_ne]
        refine if_b (fun g => ?_) (fun g => ?_)
        · have g2 : p ≠ 0 := of_decide_eq_true g
          have e : PM.answerOf s p ns = (s, [-1]) := by
            unfold PM.answerOf
            rw [if_neg g2, hh]
          rw [e] at q
          exact ⟨by show 1 ≤ sizeLine; decide, fun r nr => q _ r (BuL.of hl (same_upd nr)) nr (hl.same (same_upd nr)) upd_same⟩
        · have g2 : p = 0 := by simpa using g
          exact ⟨rfl, rfl, .inl g2⟩
      | some h0 =>
        rw [hh] at h2
        obtain ⟨x, rfl, hx⟩ := h2
        exact ⟨.ref a, rfl, a, CL, dx, _, _, rfl, h1, TL.cl, TL.nH, lnF_held _ pd el, rfl, _, rfl, if_f rfl ⟨rfl, rfl, .inr ⟨h0, rfl⟩⟩⟩
    · rintro σ' H' ⟨rfl, rfl, hor⟩
      have same : ∀ {H1 : Hp} {r : Addr} {ans : PM.Ns}, PM.answerOf s p ns = (s, ans) → Same H' H1 → H' r = none → H1 r = some (.lst (iv ans)) → Q (.ref r) H1 := fun e s1 nr er => by
        rw [e] at q
        exact q _ _ (BuL.of hl s1) nr (hl.same s1) er
      by_cases p00 : p = 0
      · subst p00
        have e : PM.answerOf s 0 ns = PM.load s ns := if_pos rfl
        rw [e] at q
        exact ⟨_, rfl, bs, _, 0, rfl, rfl, TC.dB, _, rfl, if_f rfl ⟨_, rfl, cs, _, 0, .ref f0, rfl, rfl, TC.dC, rfl, f0, _, rfl, TC.S0, _, rfl, _, rfl, a, m, s, ns, rfl, hl, hok, hm, hnl, q⟩⟩
      obtain ⟨h0, hh⟩ : ∃ h0, s.held = some h0 := by
        rcases hor with z | z
        · exact absurd z p00
        · exact z
      have e0 : ∀ p', p' = p → PM.answerOf s p ns = (if p = 1 then PM.roundCall s h0 ns else if p = 2 then PM.roundsCall s h0 ns else if p = 3 then (s, PM.candidatesCall s h0 ns) else if p = 4 then (s, PM.countCall s h0 ns)
          else if p = 5 then (s, PM.patternsCall s) else if p = 6 then (s, PM.score s h0) else if p = 7 then (s, PM.partCall s h0 ns) else if p = 8 then PM.undoCall s else PM.forgetCall s h0) := fun _ _ => by
        unfold PM.answerOf
        rw [if_neg p00, hh]
      have e1 := e0 p rfl
      have hcase : p = 1 ∨ p = 2 ∨ p = 3 ∨ p = 4 ∨ p = 5 ∨ p = 6 ∨ p = 7 ∨ p = 8 ∨ p = 9 := by omega
      rcases hcase with rfl | rfl | rfl | rfl | rfl | rfl | rfl | rfl | rfl
      · have e : PM.answerOf s 1 ns = PM.roundCall s h0 ns := e1
        rw [e] at q hlen
        exact ⟨_, rfl, bs, _, 1, rfl, rfl, TC.dB, _, rfl, if_f rfl ⟨_, rfl, cs, _, 1, .ref f1, rfl, rfl, TC.dC, rfl, f1, _, rfl, TC.S1, _, rfl, _, rfl, a, m, s, h0, ns, rfl, hl, hok, hh, hm, hnl, hp1 rfl, hlen, q⟩⟩
      · have e : PM.answerOf s 2 ns = PM.roundsCall s h0 ns := e1
        rw [e] at q hlen
        exact ⟨_, rfl, bs, _, 2, rfl, rfl, TC.dB, _, rfl, if_f rfl ⟨_, rfl, cs, _, 2, .ref f2, rfl, rfl, TC.dC, rfl, f2, _, rfl, TC.S2, _, rfl, _, rfl, a, m, s, h0, ns, rfl, hl, hok, hh, hm, hnl, trivial, hlen, q⟩⟩
      · have e : PM.answerOf s 3 ns = (s, PM.candidatesCall s h0 ns) := e1
        rw [e] at hlen
        exact ⟨_, rfl, bs, _, 3, rfl, rfl, TC.dB, _, rfl, if_f rfl ⟨_, rfl, cs, _, 3, .ref f3, rfl, rfl, TC.dC, rfl, f3, _, rfl, TC.S3, _, rfl, _, rfl, a, m, s, h0, ns, rfl, hl, hok, hh, hm, hnl, hp3 rfl, hlen, fun H1 r s1 nr er => same e s1 nr er⟩⟩
      · have e : PM.answerOf s 4 ns = (s, PM.countCall s h0 ns) := e1
        rw [e] at hlen
        exact ⟨_, rfl, bs, _, 4, rfl, rfl, TC.dB, _, rfl, if_f rfl ⟨_, rfl, cs, _, 4, .ref f4, rfl, rfl, TC.dC, rfl, f4, _, rfl, TC.S4, _, rfl, _, rfl, a, m, s, h0, ns, rfl, hl, hok, hh, hm, hnl, trivial, hlen, fun H1 r s1 nr er => same e s1 nr er⟩⟩
      · have e : PM.answerOf s 5 ns = (s, PM.patternsCall s) := e1
        rw [e] at hlen
        exact ⟨_, rfl, bs, _, 5, rfl, rfl, TC.dB, _, rfl, if_t rfl ⟨_, rfl, bs, _, 5, .ref f5, rfl, rfl, TC.dB, rfl, f5, _, rfl, TC.S5, _, rfl, a, s, h0, rfl, hl, hok, hh, hlen, fun H1 r s1 nr er => same e s1 nr er⟩⟩
      · have e : PM.answerOf s 6 ns = (s, PM.score s h0) := e1
        rw [e] at hlen
        exact ⟨_, rfl, bs, _, 6, rfl, rfl, TC.dB, _, rfl, if_t rfl ⟨_, rfl, bs, _, 6, .ref f6, rfl, rfl, TC.dB, rfl, f6, _, rfl, TC.S6, _, rfl, a, s, h0, rfl, hl, hok, hh, hlen, fun H1 r s1 nr er => same e s1 nr er⟩⟩
      · have e : PM.answerOf s 7 ns = (s, PM.partCall s h0 ns) := e1
        rw [e] at hlen
        exact ⟨_, rfl, bs, _, 7, rfl, rfl, TC.dB, _, rfl, if_f rfl ⟨_, rfl, cs, _, 7, .ref f7, rfl, rfl, TC.dC, rfl, f7, _, rfl, TC.S7, _, rfl, _, rfl, a, m, s, h0, ns, rfl, hl, hok, hh, hm, hnl, trivial, hlen, fun H1 r s1 nr er => same e s1 nr er⟩⟩
      · have e : PM.answerOf s 8 ns = PM.undoCall s := e1
        rw [e] at q hlen
        exact ⟨_, rfl, bs, _, 8, rfl, rfl, TC.dB, _, rfl, if_t rfl ⟨_, rfl, bs, _, 8, .ref f8, rfl, rfl, TC.dB, rfl, f8, _, rfl, TC.S8, _, rfl, a, s, rfl, hl, hok, trivial, q⟩⟩
      · have e : PM.answerOf s 9 ns = PM.forgetCall s h0 := e1
        rw [e] at q hlen
        have e9 : (match s.held with
            | none => (s, [])
            | some h => PM.forgetCall s h) = PM.forgetCall s h0 := by rw [hh]
        refine ⟨_, rfl, bs, _, 9, rfl, rfl, TC.dB, _, rfl, if_t rfl ⟨_, rfl, bs, _, 9, .ref f9, rfl, rfl, TC.dB, rfl, f9, _, rfl, TC.S9, _, rfl, a, s, rfl, hl, hok, (fun z => by rw [hh] at z; cases z), ?_⟩⟩
        dsimp only
        rw [e9]
        exact q
end
end PR
set_option Elab.async false
set_option linter.all false
set_option maxRecDepth 100000
set_option maxHeartbeats 2000000
/-! # learning: answers -/
namespace PR
open PySem PySem.Spec PyProof.Rows L2
def spAnswers (K : PySem.W.Frag) : Sp := fun vs H Q _ => ∃ (c : Addr) (l : PM.Ns), vs = [.ref c] ∧ SqL K H c (iv l) ∧ l.length ≤ 17000 ∧ PM.wfc l.length l ∧ (PM.answers l).length ≤ 10000000 ∧
  ∀ H' p, H' p = some (.lst (iv (PM.answers l))) → Q (.ref p) H'
theorem go_nil (n : Nat) (s : PM.L) : PM.answersGo n s [] = [] := by cases n <;> rfl
theorem go_more (n : Nat) (s : PM.L) (p : Int) (r : PM.Ns) : PM.answersGo (n + 1) s (p :: r) = (((PM.answerOf s p (((p :: r).drop (PM.spanOf (p :: r)).1).take (PM.spanOf (p :: r)).2)).2.length : Int) :: (PM.answerOf s p (((p :: r).drop (PM.spanOf (p :: r)).1).take (PM.spanOf (p :: r)).2)).2) ++
    PM.answersGo n (PM.answerOf s p (((p :: r).drop (PM.spanOf (p :: r)).1).take (PM.spanOf (p :: r)).2)).1 ((p :: r).drop ((PM.spanOf (p :: r)).1 + (PM.spanOf (p :: r)).2)) := rfl
theorem span_one {r : PM.Ns} : PM.spanOf (1 :: r) = (1, 5) := span_plain (by decide)
theorem span_three {r : PM.Ns} : PM.spanOf (3 :: r) = (1, 2) := span_plain (by decide)
theorem lnF_el {C C' dx dx' pd pd' el el' : Addr} {hv hv' : V} (e3 : HO.ins C dx (lnF hv pd el) = .ins C' dx' (lnF hv' pd' el')) : el = el' := by
  injection e3 with _ _ e3
  unfold lnF at e3
  injection e3 with _ e3
  injection e3 with _ e3
  injection e3 with e3 _
  injection e3 with _ e3
  injection e3
/-- a list changes that is none of the learner's -/
theorem dict_lst {w : World} {fz : Bool} {H H' : Hp} {lt d : Addr} {xs : List V} {dict : PM.Dict} (h : DictAt w fz H d dict) (b : But lt H H') (e : H lt = some (.lst xs)) : DictAt w fz H' d dict :=
  h.go (fun qs e2 => b _ _ (fun z => by rw [z, e] at e2; exact gd_no_lst (Option.some.inj e2).symm) e2) (Tups.but b e (fun _ z => (nomatch z)) (fun _ _ z => (nomatch z)))
theorem lr_lst {w : World} {C CH : Addr} {H H' : Hp} {a lt : Addr} {s : PM.L} {xs : List V} (h : LrAt w C CH H a s) (b : But lt H H') (e : H lt = some (.lst xs)) (n : NotEl H a lt) (na : a ≠ lt) : LrAt w C CH H' a s := by
  obtain ⟨dx, hv, pd, el, eds, h1, h2, h3, h4, h5⟩ := h
  refine ⟨dx, hv, pd, el, eds, b _ _ na h1, ?_, dict_lst h3 b e, b _ _ (n _ _ _ _ _ h1) h4, paired_mono (fun _ _ z => ?_) h5⟩
  · cases hs : s.held with
    | none => rw [hs] at h2; exact h2
    | some x =>
      rw [hs] at h2
      obtain ⟨y, e1, dx', wd, pd', g1, g2, g3⟩ := h2
      exact ⟨y, e1, dx', wd, pd', b _ _ (fun z => by rw [z, e] at g1; cases g1) g1, dict_lst g2 b e, dict_lst g3 b e⟩
  · obtain ⟨x, e1, g⟩ := z
    exact ⟨x, e1, dict_lst g b e⟩
theorem fresh_ok : LOk PM.fresh := ⟨fun _ z => (nomatch z), ⟨fun _ z => (nomatch z), List.nodup_nil⟩, Nat.zero_le _, fun _ z => (nomatch z), Nat.zero_le _⟩
section
variable {P : Program} {w : World} {K : PySem.W.Frag} {mg : Str → Option Value} {base : Heap} {k : Nat} {f CL CH : Addr} {fd : FuncData}
theorem ok_answers {f_span_of : Addr} {fd_span_of : FuncData} {f_answer_of : Addr} {fd_answer_of : FuncData} (D : Dfn K mg "answers" s_answers ["calls"] f fd) (B : Blt mg)
    (D_span_of : Dfn K mg "span_of" s_span_of ["calls", "at"] f_span_of fd_span_of) (G_span_of : FnOk P w K mg base CX0 k f_span_of fd_span_of ["calls", "at"] (spSpan K))
    (D_answer_of : Dfn K mg "answer_of" s_answer_of ["learner", "call", "numbers"] f_answer_of fd_answer_of) (G_answer_of : FnOk P w K mg base CX0 k f_answer_of fd_answer_of ["learner", "call", "numbers"] (spAnswerOf w CL CH)) (TL : LnT K mg CL) {fI : Addr} {fdI : FuncData} (ML : Mk K CL fI) (GI : FnOk P w K mg base CX0 1 fI fdI ["self"] (spLnInit w CL CH)) (bI : Binds K fdI ["self"] []) (hk : 2 ≤ k) :
    FnOk P w K mg base CX0 (k + 1) f fd ["calls"] (spAnswers K) := by
  refine D.F.ok sc_answers (fun vs H Q E h => ?_) (fun cdv A outer s H vs Q E hr h => ?_)
  · obtain ⟨c, l, rfl, _⟩ := h; rfl
  · obtain ⟨c, l, rfl, hc, hcl, hwf, htl, q⟩ := h
    refine ⟨_, pss_cons (ps_set (i := 1) sc_answers.nd rfl (.inl rfl) (pe_make0 ML GI (hr.mono hk) (by rfl) TL.g bI .nil pass0))
    (pss_cons (ps_set (i := 2) sc_answers.nd rfl (.inl rfl) (pe_lst pa_nil))
    (pss_cons (ps_set (i := 3) sc_answers.nd rfl (.inl rfl) (pe_int))
    (pss_cons (ps_while PassesOwn.never (pt_cmpR op_lt (pv 3) (pe_callB call_len_seq (by rfl) B.len (by decide +kernel) (pa_cons (pv 0) pa_nil)) (nomark _))
      (pss_cons (ps_asg (pe_call G_span_of hr (by rfl) D_span_of.g D_span_of.F.kp D_span_of.b .nil pass0 (pa_cons (pv 0) (pa_cons (pv 3) pa_nil))) (pg_tup rfl (pgs_cons (pg_name (i := 4) sc_answers.nd rfl (.inl rfl)) (pgs_cons (pg_name (i := 5) sc_answers.nd rfl (.inl rfl)) pgs_nil))))
        (pss_cons (ps_set (i := 6) sc_answers.nd rfl (.inl rfl) (pe_call G_answer_of hr (by rfl) D_answer_of.g D_answer_of.F.kp D_answer_of.b .nil pass0 (pa_cons (pv 1) (pa_cons (pe_ix ix_list (pv 0) (pv 3) (fun _ _ => rfl)) (pa_cons (pe_slice sl_list (pv 0) (po_some (pv 4)) (po_some (pv 5))) pa_nil)))))
        (pss_cons (ps_expr (pe_bm PySem.F.plainAttrs_list PySem.F.slot_list_append PySem.F.type_list_append mt_append (pv 2) (pa_cons (pe_callB call_len_seq (by rfl) B.len (by decide +kernel) (pa_cons (pv 6) pa_nil)) pa_nil)))
        (pss_cons (ps_expr (pe_bm PySem.F.plainAttrs_list PySem.F.slot_list_extend PySem.F.type_list_extend mt_extend (pv 2) (pa_cons (pv 6) pa_nil)))
        (pss_one (ps_set (i := 3) sc_answers.nd rfl (.inl rfl) (pv 5))))))))
    (pss_one (ps_ret (pv 2)))))), ?_⟩
    intro x dx nx ndx ne
    refine ⟨x, dx, rfl, upd_same, fun H1 b1 hl1 => ⟨rfl, Nat.zero_le _, fun lt nlt => ?_⟩⟩
    have s1 : Same H H1 := fun b o e => by
      refine b1 b o (ne_of_none e nx) ?_
      rw [upd_ne (ne_of_none e nx), upd_ne (ne_of_none e ndx)]
      exact e
    have s2 := s1.trans (same_upd (o := .lst []) nlt)
    have nlt0 := s1.free nlt
    have hnot : NotEl (upd H1 lt (.lst [])) x lt := fun C' dx' hv' pd' el' e z => by
      obtain ⟨dx1, hv1, pd1, el1, eds1, g1, g2, g3, g4, g5⟩ := hl1
      have e2 := (same_upd (o := .lst []) nlt) _ _ g1
      have e3 := Option.some.inj (e2.symm.trans e)
      have e4 := lnF_el e3
      rw [e4, z, nlt] at g4
      cases g4
    refine while_dir (fun m σ H' => ∃ (i : Nat) (s : PM.L) (o : PM.Ns) (n : Nat) (v4 v5 v6 : Option V), σ = [some (.ref c), some (.ref x), some (.ref lt), some (.int (i : Int)), v4, v5, v6] ∧ Same H H' ∧ LrAt w CL CH H' x s ∧ NotEl H' x lt ∧ LOk s ∧ H' lt = some (.lst (iv o)) ∧
        o ++ PM.answersGo n s (l.drop i) = PM.answers l ∧ PM.wfc n (l.drop i) ∧ i ≤ l.length ∧ m = l.length - i)
      ⟨_, 0, PM.fresh, [], l.length, none, none, none, rfl, s2, hl1.same (same_upd nlt), hnot, fresh_ok, upd_same, rfl, hwf, Nat.zero_le _, rfl⟩ ?_
    rintro m σ H2 ⟨i, s, o, n, v4, v5, v6, rfl, s3, hl, hnel, hok, elt, ho, hw, hil, rfl⟩
    refine ⟨_, rfl, .ref c, rfl, c, _, rfl, .inl (s3.seq hc), _, _, rfl, rfl, _, rfl, ?_⟩
    rw [iv_len]
    refine if_b (fun g => ?_) (fun g => ?_)
    · have hi : i < l.length := by have := of_decide_eq_true g; omega
      obtain ⟨p, hp⟩ : ∃ p, l[i]? = some p := ⟨l[i], List.getElem?_eq_getElem hi⟩
      have hd := drop_at hp
      rw [hd] at hw ho
      cases n with
      | zero => exact hw.elim
      | succ n =>
      obtain ⟨hp9, hrow, hbe, hw2⟩ := hw
      rw [go_more] at ho
      refine ⟨_, fun _ _ z => z, ?_⟩
      have hlen1 : (p :: l.drop (i + 1)).length = l.length - i := by rw [← hd, List.length_drop]
      refine ⟨.ref c, rfl, _, rfl, c, l, i, rfl, s3.seq hc, hi, ?_, fun H3 t s4 et => ?_⟩
      · rw [hd]
        intro z
        obtain ⟨z1, z2⟩ := hrow z
        refine ⟨by omega, ?_⟩
        have e : l.getD (i + 1) 0 = (p :: l.drop (i + 1)).getD 1 0 := by
          rw [← hd, List.getD_eq_getElem?_getD, List.getD_eq_getElem?_getD, List.getElem?_drop]
        rw [e]
        exact z2
      rw [hd] at et
      generalize hb : (PM.spanOf (p :: l.drop (i + 1))).1 = b at ho hbe hw2 et hrow
      generalize he : (PM.spanOf (p :: l.drop (i + 1))).2 = e at ho hbe hw2 et
      have hargs : ((p :: l.drop (i + 1)).drop b).take e = (l.drop (i + b)).take e := by rw [← hd, List.drop_drop]
      rw [hargs] at ho
      have hrest : (p :: l.drop (i + 1)).drop (b + e) = l.drop (i + b + e) := by rw [← hd, List.drop_drop, Nat.add_assoc]
      rw [hrest] at ho hw2
      have hal : ((l.drop (i + b)).take e).length = e := by
        rw [List.length_take, List.length_drop]
        omega
      have s34 := s3.trans s4
      have elt3 := s4 _ _ elt
      have hl3 := hl.same s4
      generalize hans : PM.answerOf s p ((l.drop (i + b)).take e) = ans at ho
      have htot : o.length + (ans.2.length + 1 + (PM.answersGo n ans.1 (l.drop (i + b + e))).length) ≤ 10000000 := by
        have := congrArg List.length ho
        rw [List.length_append, List.length_append, List.length_cons] at this
        omega
      refine ⟨t, _, rfl, seqT et, rfl, _, _, rfl, _, _, rfl, rfl, ?_⟩
      refine ⟨.ref x, rfl, .ref c, rfl, _, rfl, c, _, _, .int p, rfl, rfl, s34.seq hc, atI_nat (by rw [List.getElem?_map, hp]; rfl), .ref c, rfl, _, rfl, _, rfl, _, rfl, _, rfl, c, _, rfl, s34.seq hc, fun aq naq => ?_⟩
      have hcut : cutV (iv l) (some ((i + b : Nat) : Int)) (some ((i + b + e : Nat) : Int)) = iv ((l.drop (i + b)).take e) := by rw [cutV_iv, cutI_range, Nat.add_sub_cancel_left]
      rw [hcut]
      have s5 : Same H3 (upd H3 aq (.lst (iv ((l.drop (i + b)).take e)))) := same_upd naq
      have eaq : upd H3 aq (.lst (iv ((l.drop (i + b)).take e))) aq = some (.lst (iv ((l.drop (i + b)).take e))) := upd_same
      generalize upd H3 aq (.lst (iv ((l.drop (i + b)).take e))) = H4 at s5 eaq
      refine ⟨x, aq, s, p, _, rfl, hl3.same s5, hok, eaq, by omega, hp9, fun z => ?_, fun z => ?_, by rw [hans]; omega, fun H5 ra b5 nra hl5 era => ?_⟩
      · subst z
        rw [span_one] at he
        rw [hal, ← he]
      · subst z
        rw [span_three] at he
        rw [hal, ← he]
      rw [hans] at hl5 era
      have s35 := s34.trans s5
      have s05 : Same H H5 := But.new s35 nx b5.1
      have elt4 := s5 _ _ elt3
      obtain ⟨_, _, _, _, _, k1, _⟩ := id (hl3.same s5)
      have hlx : lt ≠ x := fun z => by rw [z, k1] at elt4; cases elt4
      have elt5 := b5.1 _ _ hlx elt4
      have hrl : ra ≠ lt := fun z => by rw [z, elt4] at nra; cases nra
      have sk : ∀ {u : HO} {H6 : Hp}, Same H H6 → Same H (upd H6 lt u) := fun s6 b' o' q' => by
        rw [upd_ne (ne_of_none q' nlt0)]
        exact s6 b' o' q'
      refine ⟨.ref lt, rfl, .inl ⟨rfl, _, seqL elt5⟩, .ref ra, rfl, ra, _, rfl, .inl (seqL era), lt, _, _, rfl, rfl, elt5, by rw [iv_len, sizeLine_eq]; omega, ?_⟩
      refine ⟨.ref lt, rfl, .inl ⟨rfl, _, seqL upd_same⟩, .ref ra, rfl, lt, ra, _, _, rfl, rfl, upd_same, by rw [upd_ne hrl]; exact era, by rw [List.length_append, iv_len, iv_len, sizeLine_eq]; show _ + 1 + _ ≤ _; omega, ?_⟩
      have hpos : 1 ≤ b := by
        rw [← hb]
        unfold PM.spanOf
        dsimp only
        split
        · exact Nat.le_succ 1
        · exact Nat.le_refl _
      obtain ⟨dx5, hv5, pd5, el5, eds5, q1, q2, q3, q4, q5⟩ := id hl5
      have hn5 : NotEl H5 x lt := b5.2 lt hlx ⟨_, elt4⟩ ((BuL.of hl (s4.trans s5)).2 lt hlx ⟨_, elt⟩ hnel)
      have hel5 : el5 ≠ lt := hn5 _ _ _ _ _ q1
      have hxlt : x ≠ lt := hlx.symm
      have bb : But lt H5 (upd (upd H5 lt (.lst (iv o ++ [.int ((iv ans.2).length : Nat)]))) lt (.lst ((iv o ++ [.int ((iv ans.2).length : Nat)]) ++ iv ans.2))) := But.at.trans But.at
      have tpl : Tups H5 (upd (upd H5 lt (.lst (iv o ++ [.int ((iv ans.2).length : Nat)]))) lt (.lst ((iv o ++ [.int ((iv ans.2).length : Nat)]) ++ iv ans.2))) := Tups.but bb elt5 (fun _ z => (nomatch z)) (fun _ _ z => (nomatch z))
      refine ⟨_, rfl, l.length - (i + b + e), by omega, i + b + e, ans.1, o ++ ((ans.2.length : Int) :: ans.2), n, _, _, _, rfl, sk (sk s05), ?_, ?_, ?_, ?_, ?_, ?_, by omega, rfl⟩
      · exact lr_lst hl5 bb elt5 hn5 hxlt
      · exact fun C' dx' hv' pd' el' e2 => hn5 C' dx' hv' pd' el' (by rw [← e2]; symm; exact (upd_ne hxlt).trans (upd_ne hxlt))
      · rw [← hans]
        exact answer_ok hok p fun z => by
          subst z
          rw [span_one] at he
          rw [hal, ← he]
      · rw [upd_same, iv_len]
        show some (HO.lst ((iv o ++ [.int ((ans.2.length : Nat) : Int)]) ++ iv ans.2)) = _
        rw [List.append_assoc, iv_app o]
        rfl
      · rw [← ho, List.append_assoc]
      · exact hw2
    · have hie : l.length ≤ i := by have := of_decide_eq_false g; omega
      rw [List.drop_of_length_le hie, go_nil, List.append_nil] at ho
      refine ⟨_, rfl, q _ lt ?_⟩
      rw [elt, ho]
end
end PR
set_option Elab.async false
set_option linter.all false
set_option maxRecDepth 100000
set_option maxHeartbeats 2000000
/-! # the end: what the top has left -/
namespace PR
open PySem PySem.Spec PyProof.Rows L2
def tblS (fs : List (Addr × Sp)) (g : Addr) : Option Sp := (fs.find? fun q => decide (q.1 = g)).map (·.2)
theorem tblS_at : ∀ {fs : List (Addr × Sp)}, (fs.map (·.1)).Nodup → ∀ {p : Addr × Sp}, p ∈ fs → tblS fs p.1 = some p.2
  | [], _, _, h => nomatch h
  | q :: r, nd, p, h => by
    unfold tblS
    rw [List.find?_cons]
    rcases List.mem_cons.mp h with e | h
    · subst e
      simp
    · have hn : ¬ q.1 = p.1 := fun z => by
        have h1 := (List.nodup_cons.mp nd).1
        exact h1 (List.mem_map.mpr ⟨p, h, z.symm⟩)
      simp only [hn, decide_false]
      exact tblS_at (List.nodup_cons.mp nd).2 h
theorem tblS_mem : ∀ {fs : List (Addr × Sp)} {g : Addr} {sp : Sp}, tblS fs g = some sp → ∃ p ∈ fs, p.1 = g ∧ p.2 = sp
  | [], _, _, h => by cases h
  | q :: r, g, sp, h => by
    unfold tblS at h
    rw [List.find?_cons] at h
    by_cases hq : q.1 = g
    · simp only [hq, decide_true] at h
      exact ⟨q, List.mem_cons_self, hq, Option.some.inj h⟩
    · simp only [hq, decide_false] at h
      obtain ⟨p, h1, h2⟩ := tblS_mem (fs := r) h
      exact ⟨p, List.mem_cons_of_mem _ h1, h2⟩
/-- an error of the class at S is what «except S» names -/
theorem exm_own {K : PySem.W.Frag} {S : Addr} (h1 : PySem.W.subIn K (.ref S) (.type "BaseException") = some true) (h2 : PySem.W.isClsIn K S = true) (h3 : PySem.W.typeIn K (.ref S) = some (.type "type")) (h4 : PySem.W.subIn K (.ref S) (.ref S) = some true) :
    PySem.W.exmOne K (.ref S) (.ref S) = some true := by
  have e2 : (PySem.W.clsIn K S).isSome = true := h2
  have a : (PySem.W.subIn K (.ref S) (.type "BaseException") == some true) = true := by rw [h1]; rfl
  have b : ((PySem.W.clsIn K S).isSome && PySem.W.typeIn K (.ref S) == some (.type "type")) = true := by rw [e2, h3]; rfl
  exact (if_pos a).trans ((if_pos b).trans h4)
theorem all_mk {P : Program} {w : World} {K : PySem.W.Frag} {h : Heap} {mg : Str → Option Value} {fa : Addr} (X : K.In h) (G : h.Ns mainGlobals mg) (hfa : mg "answers" = some (.ref fa))
    {CF CH CR CL : Addr}
    {od_span_of an_span_of : Option Addr} {sl_span_of : Array (Option Value)} {oc_span_of kV_span_of dc_span_of pm_span_of cd_span_of ct_span_of : Value} {f_span_of : Addr}
    {od_remark_end an_remark_end : Option Addr} {sl_remark_end : Array (Option Value)} {oc_remark_end kV_remark_end dc_remark_end pm_remark_end cd_remark_end ct_remark_end : Value} {f_remark_end : Addr}
    {od_is_digit an_is_digit : Option Addr} {sl_is_digit : Array (Option Value)} {oc_is_digit kV_is_digit dc_is_digit pm_is_digit cd_is_digit ct_is_digit : Value} {f_is_digit : Addr}
    {od_is_letter an_is_letter : Option Addr} {sl_is_letter : Array (Option Value)} {oc_is_letter kV_is_letter dc_is_letter pm_is_letter cd_is_letter ct_is_letter : Value} {f_is_letter : Addr}
    {od_is_chunk_byte an_is_chunk_byte : Option Addr} {sl_is_chunk_byte : Array (Option Value)} {oc_is_chunk_byte kV_is_chunk_byte dc_is_chunk_byte pm_is_chunk_byte cd_is_chunk_byte ct_is_chunk_byte : Value} {f_is_chunk_byte : Addr}
    {od_chunk_end an_chunk_end : Option Addr} {sl_chunk_end : Array (Option Value)} {oc_chunk_end kV_chunk_end dc_chunk_end pm_chunk_end cd_chunk_end ct_chunk_end : Value} {f_chunk_end : Addr}
    {od_tokens_of an_tokens_of : Option Addr} {sl_tokens_of : Array (Option Value)} {oc_tokens_of kV_tokens_of dc_tokens_of pm_tokens_of cd_tokens_of ct_tokens_of : Value} {f_tokens_of : Addr}
    {od_spelled an_spelled : Option Addr} {sl_spelled : Array (Option Value)} {oc_spelled kV_spelled dc_spelled pm_spelled cd_spelled ct_spelled : Value} {f_spelled : Addr}
    {od_Reader_is_at an_Reader_is_at : Option Addr} {sl_Reader_is_at : Array (Option Value)} {oc_Reader_is_at kV_Reader_is_at dc_Reader_is_at pm_Reader_is_at cd_Reader_is_at ct_Reader_is_at : Value} {f_Reader_is_at : Addr}
    {od_Reader_where an_Reader_where : Option Addr} {sl_Reader_where : Array (Option Value)} {oc_Reader_where kV_Reader_where dc_Reader_where pm_Reader_where cd_Reader_where ct_Reader_where : Value} {f_Reader_where : Addr}
    {od_Reader_pass_over an_Reader_pass_over : Option Addr} {sl_Reader_pass_over : Array (Option Value)} {oc_Reader_pass_over kV_Reader_pass_over dc_Reader_pass_over pm_Reader_pass_over cd_Reader_pass_over ct_Reader_pass_over : Value} {f_Reader_pass_over : Addr}
    {od_margin_of an_margin_of : Option Addr} {sl_margin_of : Array (Option Value)} {oc_margin_of kV_margin_of dc_margin_of pm_margin_of cd_margin_of ct_margin_of : Value} {f_margin_of : Addr}
    {od_Reader_take_chunk an_Reader_take_chunk : Option Addr} {sl_Reader_take_chunk : Array (Option Value)} {oc_Reader_take_chunk kV_Reader_take_chunk dc_Reader_take_chunk pm_Reader_take_chunk cd_Reader_take_chunk ct_Reader_take_chunk : Value} {f_Reader_take_chunk : Addr}
    {od_read_margin an_read_margin : Option Addr} {sl_read_margin : Array (Option Value)} {oc_read_margin kV_read_margin dc_read_margin pm_read_margin cd_read_margin ct_read_margin : Value} {f_read_margin : Addr}
    {od_row_of an_row_of : Option Addr} {sl_row_of : Array (Option Value)} {oc_row_of kV_row_of dc_row_of pm_row_of cd_row_of ct_row_of : Value} {f_row_of : Addr}
    {od_word_of an_word_of : Option Addr} {sl_word_of : Array (Option Value)} {oc_word_of kV_word_of dc_word_of pm_word_of cd_word_of ct_word_of : Value} {f_word_of : Addr}
    {od_without_points an_without_points : Option Addr} {sl_without_points : Array (Option Value)} {oc_without_points kV_without_points dc_without_points pm_without_points cd_without_points ct_without_points : Value} {f_without_points : Addr}
    {od_pattern_of an_pattern_of : Option Addr} {sl_pattern_of : Array (Option Value)} {oc_pattern_of kV_pattern_of dc_pattern_of pm_pattern_of cd_pattern_of ct_pattern_of : Value} {f_pattern_of : Addr}
    {od_read_named an_read_named : Option Addr} {sl_read_named : Array (Option Value)} {oc_read_named kV_read_named dc_read_named pm_read_named cd_read_named ct_read_named : Value} {f_read_named : Addr}
    {od_Reader___init__ an_Reader___init__ : Option Addr} {sl_Reader___init__ : Array (Option Value)} {oc_Reader___init__ kV_Reader___init__ dc_Reader___init__ pm_Reader___init__ cd_Reader___init__ ct_Reader___init__ : Value} {f_Reader___init__ : Addr}
    {od_HeldList___init__ an_HeldList___init__ : Option Addr} {sl_HeldList___init__ : Array (Option Value)} {oc_HeldList___init__ kV_HeldList___init__ dc_HeldList___init__ pm_HeldList___init__ cd_HeldList___init__ ct_HeldList___init__ : Value} {f_HeldList___init__ : Addr}
    {od_list_of an_list_of : Option Addr} {sl_list_of : Array (Option Value)} {oc_list_of kV_list_of dc_list_of pm_list_of cd_list_of ct_list_of : Value} {f_list_of : Addr}
    {od_Learner_hold an_Learner_hold : Option Addr} {sl_Learner_hold : Array (Option Value)} {oc_Learner_hold kV_Learner_hold dc_Learner_hold pm_Learner_hold cd_Learner_hold ct_Learner_hold : Value} {f_Learner_hold : Addr}
    {od_load an_load : Option Addr} {sl_load : Array (Option Value)} {oc_load kV_load dc_load pm_load cd_load ct_load : Value} {f_load : Addr}
    {od_are_level_and_length an_are_level_and_length : Option Addr} {sl_are_level_and_length : Array (Option Value)} {oc_are_level_and_length kV_are_level_and_length dc_are_level_and_length pm_are_level_and_length cd_are_level_and_length ct_are_level_and_length : Value} {f_are_level_and_length : Addr}
    {od_is_round an_is_round : Option Addr} {sl_is_round : Array (Option Value)} {oc_is_round kV_is_round dc_is_round pm_is_round cd_is_round ct_is_round : Value} {f_is_round : Addr}
    {od_first_gap an_first_gap : Option Addr} {sl_first_gap : Array (Option Value)} {oc_first_gap kV_first_gap dc_first_gap pm_first_gap cd_first_gap ct_first_gap : Value} {f_first_gap : Addr}
    {od_pieces_with an_pieces_with : Option Addr} {sl_pieces_with : Array (Option Value)} {oc_pieces_with kV_pieces_with dc_pieces_with pm_pieces_with cd_pieces_with ct_pieces_with : Value} {f_pieces_with : Addr}
    {od_tally an_tally : Option Addr} {sl_tally : Array (Option Value)} {oc_tally kV_tally dc_tally pm_tally cd_tally ct_tally : Value} {f_tally : Addr}
    {od_single_digits an_single_digits : Option Addr} {sl_single_digits : Array (Option Value)} {oc_single_digits kV_single_digits dc_single_digits pm_single_digits cd_single_digits ct_single_digits : Value} {f_single_digits : Addr}
    {od_candidates_of an_candidates_of : Option Addr} {sl_candidates_of : Array (Option Value)} {oc_candidates_of kV_candidates_of dc_candidates_of pm_candidates_of cd_candidates_of ct_candidates_of : Value} {f_candidates_of : Addr}
    {od_raise_levels an_raise_levels : Option Addr} {sl_raise_levels : Array (Option Value)} {oc_raise_levels kV_raise_levels dc_raise_levels pm_raise_levels cd_raise_levels ct_raise_levels : Value} {f_raise_levels : Addr}
    {od_levels_of an_levels_of : Option Addr} {sl_levels_of : Array (Option Value)} {oc_levels_of kV_levels_of dc_levels_of pm_levels_of cd_levels_of ct_levels_of : Value} {f_levels_of : Addr}
    {od_gaps_within an_gaps_within : Option Addr} {sl_gaps_within : Array (Option Value)} {oc_gaps_within kV_gaps_within dc_gaps_within pm_gaps_within cd_gaps_within ct_gaps_within : Value} {f_gaps_within : Addr}
    {od_inner_gaps an_inner_gaps : Option Addr} {sl_inner_gaps : Array (Option Value)} {oc_inner_gaps kV_inner_gaps dc_inner_gaps pm_inner_gaps cd_inner_gaps ct_inner_gaps : Value} {f_inner_gaps : Addr}
    {od_parted_words an_parted_words : Option Addr} {sl_parted_words : Array (Option Value)} {oc_parted_words kV_parted_words dc_parted_words pm_parted_words cd_parted_words ct_parted_words : Value} {f_parted_words : Addr}
    {od_put_pattern an_put_pattern : Option Addr} {sl_put_pattern : Array (Option Value)} {oc_put_pattern kV_put_pattern dc_put_pattern pm_put_pattern cd_put_pattern ct_put_pattern : Value} {f_put_pattern : Addr}
    {od_after_round an_after_round : Option Addr} {sl_after_round : Array (Option Value)} {oc_after_round kV_after_round dc_after_round pm_after_round cd_after_round ct_after_round : Value} {f_after_round : Addr}
    {od_Learner_keep an_Learner_keep : Option Addr} {sl_Learner_keep : Array (Option Value)} {oc_Learner_keep kV_Learner_keep dc_Learner_keep pm_Learner_keep cd_Learner_keep ct_Learner_keep : Value} {f_Learner_keep : Addr}
    {od_round_of an_round_of : Option Addr} {sl_round_of : Array (Option Value)} {oc_round_of kV_round_of dc_round_of pm_round_of cd_round_of ct_round_of : Value} {f_round_of : Addr}
    {od_rounds_in an_rounds_in : Option Addr} {sl_rounds_in : Array (Option Value)} {oc_rounds_in kV_rounds_in dc_rounds_in pm_rounds_in cd_rounds_in ct_rounds_in : Value} {f_rounds_in : Addr}
    {od_score_of an_score_of : Option Addr} {sl_score_of : Array (Option Value)} {oc_score_of kV_score_of dc_score_of pm_score_of cd_score_of ct_score_of : Value} {f_score_of : Addr}
    {od_score an_score : Option Addr} {sl_score : Array (Option Value)} {oc_score kV_score dc_score pm_score cd_score ct_score : Value} {f_score : Addr}
    {od_rounds an_rounds : Option Addr} {sl_rounds : Array (Option Value)} {oc_rounds kV_rounds dc_rounds pm_rounds cd_rounds ct_rounds : Value} {f_rounds : Addr}
    {od_digit_bytes an_digit_bytes : Option Addr} {sl_digit_bytes : Array (Option Value)} {oc_digit_bytes kV_digit_bytes dc_digit_bytes pm_digit_bytes cd_digit_bytes ct_digit_bytes : Value} {f_digit_bytes : Addr}
    {od_pattern_bytes an_pattern_bytes : Option Addr} {sl_pattern_bytes : Array (Option Value)} {oc_pattern_bytes kV_pattern_bytes dc_pattern_bytes pm_pattern_bytes cd_pattern_bytes ct_pattern_bytes : Value} {f_pattern_bytes : Addr}
    {od_told_pattern an_told_pattern : Option Addr} {sl_told_pattern : Array (Option Value)} {oc_told_pattern kV_told_pattern dc_told_pattern pm_told_pattern cd_told_pattern ct_told_pattern : Value} {f_told_pattern : Addr}
    {od_candidates an_candidates : Option Addr} {sl_candidates : Array (Option Value)} {oc_candidates kV_candidates dc_candidates pm_candidates cd_candidates ct_candidates : Value} {f_candidates : Addr}
    {od_count_of an_count_of : Option Addr} {sl_count_of : Array (Option Value)} {oc_count_of kV_count_of dc_count_of pm_count_of cd_count_of ct_count_of : Value} {f_count_of : Addr}
    {od_patterns_now an_patterns_now : Option Addr} {sl_patterns_now : Array (Option Value)} {oc_patterns_now kV_patterns_now dc_patterns_now pm_patterns_now cd_patterns_now ct_patterns_now : Value} {f_patterns_now : Addr}
    {od_part an_part : Option Addr} {sl_part : Array (Option Value)} {oc_part kV_part dc_part pm_part cd_part ct_part : Value} {f_part : Addr}
    {od_undo an_undo : Option Addr} {sl_undo : Array (Option Value)} {oc_undo kV_undo dc_undo pm_undo cd_undo ct_undo : Value} {f_undo : Addr}
    {od_forget an_forget : Option Addr} {sl_forget : Array (Option Value)} {oc_forget kV_forget dc_forget pm_forget cd_forget ct_forget : Value} {f_forget : Addr}
    {od_answer_of an_answer_of : Option Addr} {sl_answer_of : Array (Option Value)} {oc_answer_of kV_answer_of dc_answer_of pm_answer_of cd_answer_of ct_answer_of : Value} {f_answer_of : Addr}
    {od_Learner___init__ an_Learner___init__ : Option Addr} {sl_Learner___init__ : Array (Option Value)} {oc_Learner___init__ kV_Learner___init__ dc_Learner___init__ pm_Learner___init__ cd_Learner___init__ ct_Learner___init__ : Value} {f_Learner___init__ : Addr}
    {od_answers an_answers : Option Addr} {sl_answers : Array (Option Value)} {oc_answers kV_answers dc_answers pm_answers cd_answers ct_answers : Value} {f_answers : Addr}
    {od_Fault___init__ an_Fault___init__ : Option Addr} {sl_Fault___init__ : Array (Option Value)} {oc_Fault___init__ kV_Fault___init__ dc_Fault___init__ pm_Fault___init__ cd_Fault___init__ ct_Fault___init__ : Value} {f_Fault___init__ : Addr}
    {nmF qF : Str} {NF : Addr} {bsF : List Value} {snF : List Str} {subF : List Value} {abF : Bool} {colF : Option Bool} {ddF : Option Addr} {m0F m1F m2F m3F m5F : Option Value}
    {tk_LINE_FEED : Tok}
    {tk_ZERO : Tok}
    {tk_POINT : Tok}
    {tk_HYPHEN : Tok}
    {tk_TAB : Tok}
    {tk_BLANK : Tok}
    {tk_REMARK : Tok}
    {tk_SIGN : Tok}
    {tk_MOST_CHUNK : Tok}
    {tk_GREATEST_MARGIN : Tok}
    {tk_FEWEST_WORD_LETTERS : Tok}
    {tk_MOST_WORD_LETTERS : Tok}
    {tk_MOST_PIECE_LETTERS : Tok}
    {tk_MOST_BYTES : Tok}
    {tk_MOST_WORDS : Tok}
    {tk_MOST_PATTERNS_lists : Tok}
    {tk_GREATEST_LENGTH : Tok}
    {tk_GREATEST_LEVEL : Tok}
    {tk_GREATEST_WEIGHT : Tok}
    {tk_LONGEST_PIECE : Tok}
    {tk_MOST_EARLIER : Tok}
    {tk_WRONG_NUMBERS : Tok}
    {tk_MOST_PATTERNS_learning : Tok}
    {tk_TOO_MANY : Tok}
    {tk_ROUND_NUMBERS : Tok}
    {tk_MOST_ROUNDS : Tok}
    {tk_MOST_SHOWN : Tok}
    {tk_NONE_EARLIER : Tok}
    {tk_LOAD : Tok}
    {tk_NO_LIST : Tok}
    {rc pl cs bs : Addr} {odr : Option Addr} {nr n1 n2 n3 : Nat} {slr : Array (Option Value)} {r0 : Tok} {r2 : Tok} {r4 : Tok} {r7 : Tok} {p1 : Tok} {p3 : Tok} {q1 : Tok} {q3 : Tok} {c0 : Tok} {c1 : Tok} {c2 : Tok} {c3 : Tok} {c4 : Tok} {c7 : Tok} {d5 : Tok} {d6 : Tok} {d8 : Tok} {d9 : Tok}
    (n_Fault : PySem.W.nsIn K mainGlobals "Fault" = some (some (.ref CF)))
    (n_HeldList : PySem.W.nsIn K mainGlobals "HeldList" = some (some (.ref CH)))
    (n_Reader : PySem.W.nsIn K mainGlobals "Reader" = some (some (.ref CR)))
    (n_Learner : PySem.W.nsIn K mainGlobals "Learner" = some (some (.ref CL)))
    (a_span_of : PySem.W.nsIn K mainGlobals "span_of" = some (some (.ref f_span_of)))
    (l_span_of : K.lookup f_span_of = some ⟨oc_span_of, od_span_of, .func (PySem.W.fnOf "span_of" "span_of" (defArgs s_span_of) (defBody s_span_of) (defScope s_span_of) .none kV_span_of dc_span_of pm_span_of an_span_of cd_span_of ct_span_of), sl_span_of⟩)
    (c_span_of : PySem.W.codeIn K cd_span_of "span_of" = true)
    (k_span_of_ : PySem.W.keepIn K (.ref f_span_of) = true)
    (a_remark_end : PySem.W.nsIn K mainGlobals "remark_end" = some (some (.ref f_remark_end)))
    (l_remark_end : K.lookup f_remark_end = some ⟨oc_remark_end, od_remark_end, .func (PySem.W.fnOf "remark_end" "remark_end" (defArgs s_remark_end) (defBody s_remark_end) (defScope s_remark_end) .none kV_remark_end dc_remark_end pm_remark_end an_remark_end cd_remark_end ct_remark_end), sl_remark_end⟩)
    (c_remark_end : PySem.W.codeIn K cd_remark_end "remark_end" = true)
    (k_remark_end_ : PySem.W.keepIn K (.ref f_remark_end) = true)
    (a_is_digit : PySem.W.nsIn K mainGlobals "is_digit" = some (some (.ref f_is_digit)))
    (l_is_digit : K.lookup f_is_digit = some ⟨oc_is_digit, od_is_digit, .func (PySem.W.fnOf "is_digit" "is_digit" (defArgs s_is_digit) (defBody s_is_digit) (defScope s_is_digit) .none kV_is_digit dc_is_digit pm_is_digit an_is_digit cd_is_digit ct_is_digit), sl_is_digit⟩)
    (c_is_digit : PySem.W.codeIn K cd_is_digit "is_digit" = true)
    (k_is_digit_ : PySem.W.keepIn K (.ref f_is_digit) = true)
    (a_is_letter : PySem.W.nsIn K mainGlobals "is_letter" = some (some (.ref f_is_letter)))
    (l_is_letter : K.lookup f_is_letter = some ⟨oc_is_letter, od_is_letter, .func (PySem.W.fnOf "is_letter" "is_letter" (defArgs s_is_letter) (defBody s_is_letter) (defScope s_is_letter) .none kV_is_letter dc_is_letter pm_is_letter an_is_letter cd_is_letter ct_is_letter), sl_is_letter⟩)
    (c_is_letter : PySem.W.codeIn K cd_is_letter "is_letter" = true)
    (k_is_letter_ : PySem.W.keepIn K (.ref f_is_letter) = true)
    (a_is_chunk_byte : PySem.W.nsIn K mainGlobals "is_chunk_byte" = some (some (.ref f_is_chunk_byte)))
    (l_is_chunk_byte : K.lookup f_is_chunk_byte = some ⟨oc_is_chunk_byte, od_is_chunk_byte, .func (PySem.W.fnOf "is_chunk_byte" "is_chunk_byte" (defArgs s_is_chunk_byte) (defBody s_is_chunk_byte) (defScope s_is_chunk_byte) .none kV_is_chunk_byte dc_is_chunk_byte pm_is_chunk_byte an_is_chunk_byte cd_is_chunk_byte ct_is_chunk_byte), sl_is_chunk_byte⟩)
    (c_is_chunk_byte : PySem.W.codeIn K cd_is_chunk_byte "is_chunk_byte" = true)
    (k_is_chunk_byte_ : PySem.W.keepIn K (.ref f_is_chunk_byte) = true)
    (a_chunk_end : PySem.W.nsIn K mainGlobals "chunk_end" = some (some (.ref f_chunk_end)))
    (l_chunk_end : K.lookup f_chunk_end = some ⟨oc_chunk_end, od_chunk_end, .func (PySem.W.fnOf "chunk_end" "chunk_end" (defArgs s_chunk_end) (defBody s_chunk_end) (defScope s_chunk_end) .none kV_chunk_end dc_chunk_end pm_chunk_end an_chunk_end cd_chunk_end ct_chunk_end), sl_chunk_end⟩)
    (c_chunk_end : PySem.W.codeIn K cd_chunk_end "chunk_end" = true)
    (k_chunk_end_ : PySem.W.keepIn K (.ref f_chunk_end) = true)
    (a_tokens_of : PySem.W.nsIn K mainGlobals "tokens_of" = some (some (.ref f_tokens_of)))
    (l_tokens_of : K.lookup f_tokens_of = some ⟨oc_tokens_of, od_tokens_of, .func (PySem.W.fnOf "tokens_of" "tokens_of" (defArgs s_tokens_of) (defBody s_tokens_of) (defScope s_tokens_of) .none kV_tokens_of dc_tokens_of pm_tokens_of an_tokens_of cd_tokens_of ct_tokens_of), sl_tokens_of⟩)
    (c_tokens_of : PySem.W.codeIn K cd_tokens_of "tokens_of" = true)
    (k_tokens_of_ : PySem.W.keepIn K (.ref f_tokens_of) = true)
    (a_spelled : PySem.W.nsIn K mainGlobals "spelled" = some (some (.ref f_spelled)))
    (l_spelled : K.lookup f_spelled = some ⟨oc_spelled, od_spelled, .func (PySem.W.fnOf "spelled" "spelled" (defArgs s_spelled) (defBody s_spelled) (defScope s_spelled) .none kV_spelled dc_spelled pm_spelled an_spelled cd_spelled ct_spelled), sl_spelled⟩)
    (c_spelled : PySem.W.codeIn K cd_spelled "spelled" = true)
    (k_spelled_ : PySem.W.keepIn K (.ref f_spelled) = true)
    (a_Reader_is_at : PySem.W.findIn K (.ref CR) "is_at" = some (some (.ref f_Reader_is_at)))
    (i_Reader_is_at : PySem.W.isFn K (.ref f_Reader_is_at) = true)
    (l_Reader_is_at : K.lookup f_Reader_is_at = some ⟨oc_Reader_is_at, od_Reader_is_at, .func (PySem.W.fnOf "is_at" "Reader.is_at" (defArgs s_Reader_is_at) (defBody s_Reader_is_at) (defScope s_Reader_is_at) .none kV_Reader_is_at dc_Reader_is_at pm_Reader_is_at an_Reader_is_at cd_Reader_is_at ct_Reader_is_at), sl_Reader_is_at⟩)
    (c_Reader_is_at : PySem.W.codeIn K cd_Reader_is_at "Reader.is_at" = true)
    (k_Reader_is_at_ : PySem.W.keepIn K (.ref f_Reader_is_at) = true)
    (a_Reader_where : PySem.W.findIn K (.ref CR) "where" = some (some (.ref f_Reader_where)))
    (i_Reader_where : PySem.W.isFn K (.ref f_Reader_where) = true)
    (l_Reader_where : K.lookup f_Reader_where = some ⟨oc_Reader_where, od_Reader_where, .func (PySem.W.fnOf "where" "Reader.where" (defArgs s_Reader_where) (defBody s_Reader_where) (defScope s_Reader_where) .none kV_Reader_where dc_Reader_where pm_Reader_where an_Reader_where cd_Reader_where ct_Reader_where), sl_Reader_where⟩)
    (c_Reader_where : PySem.W.codeIn K cd_Reader_where "Reader.where" = true)
    (k_Reader_where_ : PySem.W.keepIn K (.ref f_Reader_where) = true)
    (a_Reader_pass_over : PySem.W.findIn K (.ref CR) "pass_over" = some (some (.ref f_Reader_pass_over)))
    (i_Reader_pass_over : PySem.W.isFn K (.ref f_Reader_pass_over) = true)
    (l_Reader_pass_over : K.lookup f_Reader_pass_over = some ⟨oc_Reader_pass_over, od_Reader_pass_over, .func (PySem.W.fnOf "pass_over" "Reader.pass_over" (defArgs s_Reader_pass_over) (defBody s_Reader_pass_over) (defScope s_Reader_pass_over) .none kV_Reader_pass_over dc_Reader_pass_over pm_Reader_pass_over an_Reader_pass_over cd_Reader_pass_over ct_Reader_pass_over), sl_Reader_pass_over⟩)
    (c_Reader_pass_over : PySem.W.codeIn K cd_Reader_pass_over "Reader.pass_over" = true)
    (k_Reader_pass_over_ : PySem.W.keepIn K (.ref f_Reader_pass_over) = true)
    (a_margin_of : PySem.W.nsIn K mainGlobals "margin_of" = some (some (.ref f_margin_of)))
    (l_margin_of : K.lookup f_margin_of = some ⟨oc_margin_of, od_margin_of, .func (PySem.W.fnOf "margin_of" "margin_of" (defArgs s_margin_of) (defBody s_margin_of) (defScope s_margin_of) .none kV_margin_of dc_margin_of pm_margin_of an_margin_of cd_margin_of ct_margin_of), sl_margin_of⟩)
    (c_margin_of : PySem.W.codeIn K cd_margin_of "margin_of" = true)
    (k_margin_of_ : PySem.W.keepIn K (.ref f_margin_of) = true)
    (a_Reader_take_chunk : PySem.W.findIn K (.ref CR) "take_chunk" = some (some (.ref f_Reader_take_chunk)))
    (i_Reader_take_chunk : PySem.W.isFn K (.ref f_Reader_take_chunk) = true)
    (l_Reader_take_chunk : K.lookup f_Reader_take_chunk = some ⟨oc_Reader_take_chunk, od_Reader_take_chunk, .func (PySem.W.fnOf "take_chunk" "Reader.take_chunk" (defArgs s_Reader_take_chunk) (defBody s_Reader_take_chunk) (defScope s_Reader_take_chunk) .none kV_Reader_take_chunk dc_Reader_take_chunk pm_Reader_take_chunk an_Reader_take_chunk cd_Reader_take_chunk ct_Reader_take_chunk), sl_Reader_take_chunk⟩)
    (c_Reader_take_chunk : PySem.W.codeIn K cd_Reader_take_chunk "Reader.take_chunk" = true)
    (k_Reader_take_chunk_ : PySem.W.keepIn K (.ref f_Reader_take_chunk) = true)
    (a_read_margin : PySem.W.nsIn K mainGlobals "read_margin" = some (some (.ref f_read_margin)))
    (l_read_margin : K.lookup f_read_margin = some ⟨oc_read_margin, od_read_margin, .func (PySem.W.fnOf "read_margin" "read_margin" (defArgs s_read_margin) (defBody s_read_margin) (defScope s_read_margin) .none kV_read_margin dc_read_margin pm_read_margin an_read_margin cd_read_margin ct_read_margin), sl_read_margin⟩)
    (c_read_margin : PySem.W.codeIn K cd_read_margin "read_margin" = true)
    (k_read_margin_ : PySem.W.keepIn K (.ref f_read_margin) = true)
    (a_row_of : PySem.W.nsIn K mainGlobals "row_of" = some (some (.ref f_row_of)))
    (l_row_of : K.lookup f_row_of = some ⟨oc_row_of, od_row_of, .func (PySem.W.fnOf "row_of" "row_of" (defArgs s_row_of) (defBody s_row_of) (defScope s_row_of) .none kV_row_of dc_row_of pm_row_of an_row_of cd_row_of ct_row_of), sl_row_of⟩)
    (c_row_of : PySem.W.codeIn K cd_row_of "row_of" = true)
    (k_row_of_ : PySem.W.keepIn K (.ref f_row_of) = true)
    (a_word_of : PySem.W.nsIn K mainGlobals "word_of" = some (some (.ref f_word_of)))
    (l_word_of : K.lookup f_word_of = some ⟨oc_word_of, od_word_of, .func (PySem.W.fnOf "word_of" "word_of" (defArgs s_word_of) (defBody s_word_of) (defScope s_word_of) .none kV_word_of dc_word_of pm_word_of an_word_of cd_word_of ct_word_of), sl_word_of⟩)
    (c_word_of : PySem.W.codeIn K cd_word_of "word_of" = true)
    (k_word_of_ : PySem.W.keepIn K (.ref f_word_of) = true)
    (a_without_points : PySem.W.nsIn K mainGlobals "without_points" = some (some (.ref f_without_points)))
    (l_without_points : K.lookup f_without_points = some ⟨oc_without_points, od_without_points, .func (PySem.W.fnOf "without_points" "without_points" (defArgs s_without_points) (defBody s_without_points) (defScope s_without_points) .none kV_without_points dc_without_points pm_without_points an_without_points cd_without_points ct_without_points), sl_without_points⟩)
    (c_without_points : PySem.W.codeIn K cd_without_points "without_points" = true)
    (k_without_points_ : PySem.W.keepIn K (.ref f_without_points) = true)
    (a_pattern_of : PySem.W.nsIn K mainGlobals "pattern_of" = some (some (.ref f_pattern_of)))
    (l_pattern_of : K.lookup f_pattern_of = some ⟨oc_pattern_of, od_pattern_of, .func (PySem.W.fnOf "pattern_of" "pattern_of" (defArgs s_pattern_of) (defBody s_pattern_of) (defScope s_pattern_of) .none kV_pattern_of dc_pattern_of pm_pattern_of an_pattern_of cd_pattern_of ct_pattern_of), sl_pattern_of⟩)
    (c_pattern_of : PySem.W.codeIn K cd_pattern_of "pattern_of" = true)
    (k_pattern_of_ : PySem.W.keepIn K (.ref f_pattern_of) = true)
    (a_read_named : PySem.W.nsIn K mainGlobals "read_named" = some (some (.ref f_read_named)))
    (l_read_named : K.lookup f_read_named = some ⟨oc_read_named, od_read_named, .func (PySem.W.fnOf "read_named" "read_named" (defArgs s_read_named) (defBody s_read_named) (defScope s_read_named) .none kV_read_named dc_read_named pm_read_named an_read_named cd_read_named ct_read_named), sl_read_named⟩)
    (c_read_named : PySem.W.codeIn K cd_read_named "read_named" = true)
    (k_read_named_ : PySem.W.keepIn K (.ref f_read_named) = true)
    (a_Reader___init__ : PySem.W.findIn K (.ref CR) "__init__" = some (some (.ref f_Reader___init__)))
    (i_Reader___init__ : PySem.W.isFn K (.ref f_Reader___init__) = true)
    (l_Reader___init__ : K.lookup f_Reader___init__ = some ⟨oc_Reader___init__, od_Reader___init__, .func (PySem.W.fnOf "__init__" "Reader.__init__" (defArgs s_Reader___init__) (defBody s_Reader___init__) (defScope s_Reader___init__) .none kV_Reader___init__ dc_Reader___init__ pm_Reader___init__ an_Reader___init__ cd_Reader___init__ ct_Reader___init__), sl_Reader___init__⟩)
    (c_Reader___init__ : PySem.W.codeIn K cd_Reader___init__ "Reader.__init__" = true)
    (k_Reader___init___ : PySem.W.keepIn K (.ref f_Reader___init__) = true)
    (a_HeldList___init__ : PySem.W.findIn K (.ref CH) "__init__" = some (some (.ref f_HeldList___init__)))
    (i_HeldList___init__ : PySem.W.isFn K (.ref f_HeldList___init__) = true)
    (l_HeldList___init__ : K.lookup f_HeldList___init__ = some ⟨oc_HeldList___init__, od_HeldList___init__, .func (PySem.W.fnOf "__init__" "HeldList.__init__" (defArgs s_HeldList___init__) (defBody s_HeldList___init__) (defScope s_HeldList___init__) .none kV_HeldList___init__ dc_HeldList___init__ pm_HeldList___init__ an_HeldList___init__ cd_HeldList___init__ ct_HeldList___init__), sl_HeldList___init__⟩)
    (c_HeldList___init__ : PySem.W.codeIn K cd_HeldList___init__ "HeldList.__init__" = true)
    (k_HeldList___init___ : PySem.W.keepIn K (.ref f_HeldList___init__) = true)
    (a_list_of : PySem.W.nsIn K mainGlobals "list_of" = some (some (.ref f_list_of)))
    (l_list_of : K.lookup f_list_of = some ⟨oc_list_of, od_list_of, .func (PySem.W.fnOf "list_of" "list_of" (defArgs s_list_of) (defBody s_list_of) (defScope s_list_of) .none kV_list_of dc_list_of pm_list_of an_list_of cd_list_of ct_list_of), sl_list_of⟩)
    (c_list_of : PySem.W.codeIn K cd_list_of "list_of" = true)
    (k_list_of_ : PySem.W.keepIn K (.ref f_list_of) = true)
    (a_Learner_hold : PySem.W.findIn K (.ref CL) "hold" = some (some (.ref f_Learner_hold)))
    (i_Learner_hold : PySem.W.isFn K (.ref f_Learner_hold) = true)
    (l_Learner_hold : K.lookup f_Learner_hold = some ⟨oc_Learner_hold, od_Learner_hold, .func (PySem.W.fnOf "hold" "Learner.hold" (defArgs s_Learner_hold) (defBody s_Learner_hold) (defScope s_Learner_hold) .none kV_Learner_hold dc_Learner_hold pm_Learner_hold an_Learner_hold cd_Learner_hold ct_Learner_hold), sl_Learner_hold⟩)
    (c_Learner_hold : PySem.W.codeIn K cd_Learner_hold "Learner.hold" = true)
    (k_Learner_hold_ : PySem.W.keepIn K (.ref f_Learner_hold) = true)
    (a_load : PySem.W.nsIn K mainGlobals "load" = some (some (.ref f_load)))
    (l_load : K.lookup f_load = some ⟨oc_load, od_load, .func (PySem.W.fnOf "load" "load" (defArgs s_load) (defBody s_load) (defScope s_load) .none kV_load dc_load pm_load an_load cd_load ct_load), sl_load⟩)
    (c_load : PySem.W.codeIn K cd_load "load" = true)
    (k_load_ : PySem.W.keepIn K (.ref f_load) = true)
    (a_are_level_and_length : PySem.W.nsIn K mainGlobals "are_level_and_length" = some (some (.ref f_are_level_and_length)))
    (l_are_level_and_length : K.lookup f_are_level_and_length = some ⟨oc_are_level_and_length, od_are_level_and_length, .func (PySem.W.fnOf "are_level_and_length" "are_level_and_length" (defArgs s_are_level_and_length) (defBody s_are_level_and_length) (defScope s_are_level_and_length) .none kV_are_level_and_length dc_are_level_and_length pm_are_level_and_length an_are_level_and_length cd_are_level_and_length ct_are_level_and_length), sl_are_level_and_length⟩)
    (c_are_level_and_length : PySem.W.codeIn K cd_are_level_and_length "are_level_and_length" = true)
    (k_are_level_and_length_ : PySem.W.keepIn K (.ref f_are_level_and_length) = true)
    (a_is_round : PySem.W.nsIn K mainGlobals "is_round" = some (some (.ref f_is_round)))
    (l_is_round : K.lookup f_is_round = some ⟨oc_is_round, od_is_round, .func (PySem.W.fnOf "is_round" "is_round" (defArgs s_is_round) (defBody s_is_round) (defScope s_is_round) .none kV_is_round dc_is_round pm_is_round an_is_round cd_is_round ct_is_round), sl_is_round⟩)
    (c_is_round : PySem.W.codeIn K cd_is_round "is_round" = true)
    (k_is_round_ : PySem.W.keepIn K (.ref f_is_round) = true)
    (a_first_gap : PySem.W.nsIn K mainGlobals "first_gap" = some (some (.ref f_first_gap)))
    (l_first_gap : K.lookup f_first_gap = some ⟨oc_first_gap, od_first_gap, .func (PySem.W.fnOf "first_gap" "first_gap" (defArgs s_first_gap) (defBody s_first_gap) (defScope s_first_gap) .none kV_first_gap dc_first_gap pm_first_gap an_first_gap cd_first_gap ct_first_gap), sl_first_gap⟩)
    (c_first_gap : PySem.W.codeIn K cd_first_gap "first_gap" = true)
    (k_first_gap_ : PySem.W.keepIn K (.ref f_first_gap) = true)
    (a_pieces_with : PySem.W.nsIn K mainGlobals "pieces_with" = some (some (.ref f_pieces_with)))
    (l_pieces_with : K.lookup f_pieces_with = some ⟨oc_pieces_with, od_pieces_with, .func (PySem.W.fnOf "pieces_with" "pieces_with" (defArgs s_pieces_with) (defBody s_pieces_with) (defScope s_pieces_with) .none kV_pieces_with dc_pieces_with pm_pieces_with an_pieces_with cd_pieces_with ct_pieces_with), sl_pieces_with⟩)
    (c_pieces_with : PySem.W.codeIn K cd_pieces_with "pieces_with" = true)
    (k_pieces_with_ : PySem.W.keepIn K (.ref f_pieces_with) = true)
    (a_tally : PySem.W.nsIn K mainGlobals "tally" = some (some (.ref f_tally)))
    (l_tally : K.lookup f_tally = some ⟨oc_tally, od_tally, .func (PySem.W.fnOf "tally" "tally" (defArgs s_tally) (defBody s_tally) (defScope s_tally) .none kV_tally dc_tally pm_tally an_tally cd_tally ct_tally), sl_tally⟩)
    (c_tally : PySem.W.codeIn K cd_tally "tally" = true)
    (k_tally_ : PySem.W.keepIn K (.ref f_tally) = true)
    (a_single_digits : PySem.W.nsIn K mainGlobals "single_digits" = some (some (.ref f_single_digits)))
    (l_single_digits : K.lookup f_single_digits = some ⟨oc_single_digits, od_single_digits, .func (PySem.W.fnOf "single_digits" "single_digits" (defArgs s_single_digits) (defBody s_single_digits) (defScope s_single_digits) .none kV_single_digits dc_single_digits pm_single_digits an_single_digits cd_single_digits ct_single_digits), sl_single_digits⟩)
    (c_single_digits : PySem.W.codeIn K cd_single_digits "single_digits" = true)
    (k_single_digits_ : PySem.W.keepIn K (.ref f_single_digits) = true)
    (a_candidates_of : PySem.W.nsIn K mainGlobals "candidates_of" = some (some (.ref f_candidates_of)))
    (l_candidates_of : K.lookup f_candidates_of = some ⟨oc_candidates_of, od_candidates_of, .func (PySem.W.fnOf "candidates_of" "candidates_of" (defArgs s_candidates_of) (defBody s_candidates_of) (defScope s_candidates_of) .none kV_candidates_of dc_candidates_of pm_candidates_of an_candidates_of cd_candidates_of ct_candidates_of), sl_candidates_of⟩)
    (c_candidates_of : PySem.W.codeIn K cd_candidates_of "candidates_of" = true)
    (k_candidates_of_ : PySem.W.keepIn K (.ref f_candidates_of) = true)
    (a_raise_levels : PySem.W.nsIn K mainGlobals "raise_levels" = some (some (.ref f_raise_levels)))
    (l_raise_levels : K.lookup f_raise_levels = some ⟨oc_raise_levels, od_raise_levels, .func (PySem.W.fnOf "raise_levels" "raise_levels" (defArgs s_raise_levels) (defBody s_raise_levels) (defScope s_raise_levels) .none kV_raise_levels dc_raise_levels pm_raise_levels an_raise_levels cd_raise_levels ct_raise_levels), sl_raise_levels⟩)
    (c_raise_levels : PySem.W.codeIn K cd_raise_levels "raise_levels" = true)
    (k_raise_levels_ : PySem.W.keepIn K (.ref f_raise_levels) = true)
    (a_levels_of : PySem.W.nsIn K mainGlobals "levels_of" = some (some (.ref f_levels_of)))
    (l_levels_of : K.lookup f_levels_of = some ⟨oc_levels_of, od_levels_of, .func (PySem.W.fnOf "levels_of" "levels_of" (defArgs s_levels_of) (defBody s_levels_of) (defScope s_levels_of) .none kV_levels_of dc_levels_of pm_levels_of an_levels_of cd_levels_of ct_levels_of), sl_levels_of⟩)
    (c_levels_of : PySem.W.codeIn K cd_levels_of "levels_of" = true)
    (k_levels_of_ : PySem.W.keepIn K (.ref f_levels_of) = true)
    (a_gaps_within : PySem.W.nsIn K mainGlobals "gaps_within" = some (some (.ref f_gaps_within)))
    (l_gaps_within : K.lookup f_gaps_within = some ⟨oc_gaps_within, od_gaps_within, .func (PySem.W.fnOf "gaps_within" "gaps_within" (defArgs s_gaps_within) (defBody s_gaps_within) (defScope s_gaps_within) .none kV_gaps_within dc_gaps_within pm_gaps_within an_gaps_within cd_gaps_within ct_gaps_within), sl_gaps_within⟩)
    (c_gaps_within : PySem.W.codeIn K cd_gaps_within "gaps_within" = true)
    (k_gaps_within_ : PySem.W.keepIn K (.ref f_gaps_within) = true)
    (a_inner_gaps : PySem.W.nsIn K mainGlobals "inner_gaps" = some (some (.ref f_inner_gaps)))
    (l_inner_gaps : K.lookup f_inner_gaps = some ⟨oc_inner_gaps, od_inner_gaps, .func (PySem.W.fnOf "inner_gaps" "inner_gaps" (defArgs s_inner_gaps) (defBody s_inner_gaps) (defScope s_inner_gaps) .none kV_inner_gaps dc_inner_gaps pm_inner_gaps an_inner_gaps cd_inner_gaps ct_inner_gaps), sl_inner_gaps⟩)
    (c_inner_gaps : PySem.W.codeIn K cd_inner_gaps "inner_gaps" = true)
    (k_inner_gaps_ : PySem.W.keepIn K (.ref f_inner_gaps) = true)
    (a_parted_words : PySem.W.nsIn K mainGlobals "parted_words" = some (some (.ref f_parted_words)))
    (l_parted_words : K.lookup f_parted_words = some ⟨oc_parted_words, od_parted_words, .func (PySem.W.fnOf "parted_words" "parted_words" (defArgs s_parted_words) (defBody s_parted_words) (defScope s_parted_words) .none kV_parted_words dc_parted_words pm_parted_words an_parted_words cd_parted_words ct_parted_words), sl_parted_words⟩)
    (c_parted_words : PySem.W.codeIn K cd_parted_words "parted_words" = true)
    (k_parted_words_ : PySem.W.keepIn K (.ref f_parted_words) = true)
    (a_put_pattern : PySem.W.nsIn K mainGlobals "put_pattern" = some (some (.ref f_put_pattern)))
    (l_put_pattern : K.lookup f_put_pattern = some ⟨oc_put_pattern, od_put_pattern, .func (PySem.W.fnOf "put_pattern" "put_pattern" (defArgs s_put_pattern) (defBody s_put_pattern) (defScope s_put_pattern) .none kV_put_pattern dc_put_pattern pm_put_pattern an_put_pattern cd_put_pattern ct_put_pattern), sl_put_pattern⟩)
    (c_put_pattern : PySem.W.codeIn K cd_put_pattern "put_pattern" = true)
    (k_put_pattern_ : PySem.W.keepIn K (.ref f_put_pattern) = true)
    (a_after_round : PySem.W.nsIn K mainGlobals "after_round" = some (some (.ref f_after_round)))
    (l_after_round : K.lookup f_after_round = some ⟨oc_after_round, od_after_round, .func (PySem.W.fnOf "after_round" "after_round" (defArgs s_after_round) (defBody s_after_round) (defScope s_after_round) .none kV_after_round dc_after_round pm_after_round an_after_round cd_after_round ct_after_round), sl_after_round⟩)
    (c_after_round : PySem.W.codeIn K cd_after_round "after_round" = true)
    (k_after_round_ : PySem.W.keepIn K (.ref f_after_round) = true)
    (a_Learner_keep : PySem.W.findIn K (.ref CL) "keep" = some (some (.ref f_Learner_keep)))
    (i_Learner_keep : PySem.W.isFn K (.ref f_Learner_keep) = true)
    (l_Learner_keep : K.lookup f_Learner_keep = some ⟨oc_Learner_keep, od_Learner_keep, .func (PySem.W.fnOf "keep" "Learner.keep" (defArgs s_Learner_keep) (defBody s_Learner_keep) (defScope s_Learner_keep) .none kV_Learner_keep dc_Learner_keep pm_Learner_keep an_Learner_keep cd_Learner_keep ct_Learner_keep), sl_Learner_keep⟩)
    (c_Learner_keep : PySem.W.codeIn K cd_Learner_keep "Learner.keep" = true)
    (k_Learner_keep_ : PySem.W.keepIn K (.ref f_Learner_keep) = true)
    (a_round_of : PySem.W.nsIn K mainGlobals "round_of" = some (some (.ref f_round_of)))
    (l_round_of : K.lookup f_round_of = some ⟨oc_round_of, od_round_of, .func (PySem.W.fnOf "round_of" "round_of" (defArgs s_round_of) (defBody s_round_of) (defScope s_round_of) .none kV_round_of dc_round_of pm_round_of an_round_of cd_round_of ct_round_of), sl_round_of⟩)
    (c_round_of : PySem.W.codeIn K cd_round_of "round_of" = true)
    (k_round_of_ : PySem.W.keepIn K (.ref f_round_of) = true)
    (a_rounds_in : PySem.W.nsIn K mainGlobals "rounds_in" = some (some (.ref f_rounds_in)))
    (l_rounds_in : K.lookup f_rounds_in = some ⟨oc_rounds_in, od_rounds_in, .func (PySem.W.fnOf "rounds_in" "rounds_in" (defArgs s_rounds_in) (defBody s_rounds_in) (defScope s_rounds_in) .none kV_rounds_in dc_rounds_in pm_rounds_in an_rounds_in cd_rounds_in ct_rounds_in), sl_rounds_in⟩)
    (c_rounds_in : PySem.W.codeIn K cd_rounds_in "rounds_in" = true)
    (k_rounds_in_ : PySem.W.keepIn K (.ref f_rounds_in) = true)
    (a_score_of : PySem.W.nsIn K mainGlobals "score_of" = some (some (.ref f_score_of)))
    (l_score_of : K.lookup f_score_of = some ⟨oc_score_of, od_score_of, .func (PySem.W.fnOf "score_of" "score_of" (defArgs s_score_of) (defBody s_score_of) (defScope s_score_of) .none kV_score_of dc_score_of pm_score_of an_score_of cd_score_of ct_score_of), sl_score_of⟩)
    (c_score_of : PySem.W.codeIn K cd_score_of "score_of" = true)
    (k_score_of_ : PySem.W.keepIn K (.ref f_score_of) = true)
    (a_score : PySem.W.nsIn K mainGlobals "score" = some (some (.ref f_score)))
    (l_score : K.lookup f_score = some ⟨oc_score, od_score, .func (PySem.W.fnOf "score" "score" (defArgs s_score) (defBody s_score) (defScope s_score) .none kV_score dc_score pm_score an_score cd_score ct_score), sl_score⟩)
    (c_score : PySem.W.codeIn K cd_score "score" = true)
    (k_score_ : PySem.W.keepIn K (.ref f_score) = true)
    (a_rounds : PySem.W.nsIn K mainGlobals "rounds" = some (some (.ref f_rounds)))
    (l_rounds : K.lookup f_rounds = some ⟨oc_rounds, od_rounds, .func (PySem.W.fnOf "rounds" "rounds" (defArgs s_rounds) (defBody s_rounds) (defScope s_rounds) .none kV_rounds dc_rounds pm_rounds an_rounds cd_rounds ct_rounds), sl_rounds⟩)
    (c_rounds : PySem.W.codeIn K cd_rounds "rounds" = true)
    (k_rounds_ : PySem.W.keepIn K (.ref f_rounds) = true)
    (a_digit_bytes : PySem.W.nsIn K mainGlobals "digit_bytes" = some (some (.ref f_digit_bytes)))
    (l_digit_bytes : K.lookup f_digit_bytes = some ⟨oc_digit_bytes, od_digit_bytes, .func (PySem.W.fnOf "digit_bytes" "digit_bytes" (defArgs s_digit_bytes) (defBody s_digit_bytes) (defScope s_digit_bytes) .none kV_digit_bytes dc_digit_bytes pm_digit_bytes an_digit_bytes cd_digit_bytes ct_digit_bytes), sl_digit_bytes⟩)
    (c_digit_bytes : PySem.W.codeIn K cd_digit_bytes "digit_bytes" = true)
    (k_digit_bytes_ : PySem.W.keepIn K (.ref f_digit_bytes) = true)
    (a_pattern_bytes : PySem.W.nsIn K mainGlobals "pattern_bytes" = some (some (.ref f_pattern_bytes)))
    (l_pattern_bytes : K.lookup f_pattern_bytes = some ⟨oc_pattern_bytes, od_pattern_bytes, .func (PySem.W.fnOf "pattern_bytes" "pattern_bytes" (defArgs s_pattern_bytes) (defBody s_pattern_bytes) (defScope s_pattern_bytes) .none kV_pattern_bytes dc_pattern_bytes pm_pattern_bytes an_pattern_bytes cd_pattern_bytes ct_pattern_bytes), sl_pattern_bytes⟩)
    (c_pattern_bytes : PySem.W.codeIn K cd_pattern_bytes "pattern_bytes" = true)
    (k_pattern_bytes_ : PySem.W.keepIn K (.ref f_pattern_bytes) = true)
    (a_told_pattern : PySem.W.nsIn K mainGlobals "told_pattern" = some (some (.ref f_told_pattern)))
    (l_told_pattern : K.lookup f_told_pattern = some ⟨oc_told_pattern, od_told_pattern, .func (PySem.W.fnOf "told_pattern" "told_pattern" (defArgs s_told_pattern) (defBody s_told_pattern) (defScope s_told_pattern) .none kV_told_pattern dc_told_pattern pm_told_pattern an_told_pattern cd_told_pattern ct_told_pattern), sl_told_pattern⟩)
    (c_told_pattern : PySem.W.codeIn K cd_told_pattern "told_pattern" = true)
    (k_told_pattern_ : PySem.W.keepIn K (.ref f_told_pattern) = true)
    (a_candidates : PySem.W.nsIn K mainGlobals "candidates" = some (some (.ref f_candidates)))
    (l_candidates : K.lookup f_candidates = some ⟨oc_candidates, od_candidates, .func (PySem.W.fnOf "candidates" "candidates" (defArgs s_candidates) (defBody s_candidates) (defScope s_candidates) .none kV_candidates dc_candidates pm_candidates an_candidates cd_candidates ct_candidates), sl_candidates⟩)
    (c_candidates : PySem.W.codeIn K cd_candidates "candidates" = true)
    (k_candidates_ : PySem.W.keepIn K (.ref f_candidates) = true)
    (a_count_of : PySem.W.nsIn K mainGlobals "count_of" = some (some (.ref f_count_of)))
    (l_count_of : K.lookup f_count_of = some ⟨oc_count_of, od_count_of, .func (PySem.W.fnOf "count_of" "count_of" (defArgs s_count_of) (defBody s_count_of) (defScope s_count_of) .none kV_count_of dc_count_of pm_count_of an_count_of cd_count_of ct_count_of), sl_count_of⟩)
    (c_count_of : PySem.W.codeIn K cd_count_of "count_of" = true)
    (k_count_of_ : PySem.W.keepIn K (.ref f_count_of) = true)
    (a_patterns_now : PySem.W.nsIn K mainGlobals "patterns_now" = some (some (.ref f_patterns_now)))
    (l_patterns_now : K.lookup f_patterns_now = some ⟨oc_patterns_now, od_patterns_now, .func (PySem.W.fnOf "patterns_now" "patterns_now" (defArgs s_patterns_now) (defBody s_patterns_now) (defScope s_patterns_now) .none kV_patterns_now dc_patterns_now pm_patterns_now an_patterns_now cd_patterns_now ct_patterns_now), sl_patterns_now⟩)
    (c_patterns_now : PySem.W.codeIn K cd_patterns_now "patterns_now" = true)
    (k_patterns_now_ : PySem.W.keepIn K (.ref f_patterns_now) = true)
    (a_part : PySem.W.nsIn K mainGlobals "part" = some (some (.ref f_part)))
    (l_part : K.lookup f_part = some ⟨oc_part, od_part, .func (PySem.W.fnOf "part" "part" (defArgs s_part) (defBody s_part) (defScope s_part) .none kV_part dc_part pm_part an_part cd_part ct_part), sl_part⟩)
    (c_part : PySem.W.codeIn K cd_part "part" = true)
    (k_part_ : PySem.W.keepIn K (.ref f_part) = true)
    (a_undo : PySem.W.nsIn K mainGlobals "undo" = some (some (.ref f_undo)))
    (l_undo : K.lookup f_undo = some ⟨oc_undo, od_undo, .func (PySem.W.fnOf "undo" "undo" (defArgs s_undo) (defBody s_undo) (defScope s_undo) .none kV_undo dc_undo pm_undo an_undo cd_undo ct_undo), sl_undo⟩)
    (c_undo : PySem.W.codeIn K cd_undo "undo" = true)
    (k_undo_ : PySem.W.keepIn K (.ref f_undo) = true)
    (a_forget : PySem.W.nsIn K mainGlobals "forget" = some (some (.ref f_forget)))
    (l_forget : K.lookup f_forget = some ⟨oc_forget, od_forget, .func (PySem.W.fnOf "forget" "forget" (defArgs s_forget) (defBody s_forget) (defScope s_forget) .none kV_forget dc_forget pm_forget an_forget cd_forget ct_forget), sl_forget⟩)
    (c_forget : PySem.W.codeIn K cd_forget "forget" = true)
    (k_forget_ : PySem.W.keepIn K (.ref f_forget) = true)
    (a_answer_of : PySem.W.nsIn K mainGlobals "answer_of" = some (some (.ref f_answer_of)))
    (l_answer_of : K.lookup f_answer_of = some ⟨oc_answer_of, od_answer_of, .func (PySem.W.fnOf "answer_of" "answer_of" (defArgs s_answer_of) (defBody s_answer_of) (defScope s_answer_of) .none kV_answer_of dc_answer_of pm_answer_of an_answer_of cd_answer_of ct_answer_of), sl_answer_of⟩)
    (c_answer_of : PySem.W.codeIn K cd_answer_of "answer_of" = true)
    (k_answer_of_ : PySem.W.keepIn K (.ref f_answer_of) = true)
    (a_Learner___init__ : PySem.W.findIn K (.ref CL) "__init__" = some (some (.ref f_Learner___init__)))
    (i_Learner___init__ : PySem.W.isFn K (.ref f_Learner___init__) = true)
    (l_Learner___init__ : K.lookup f_Learner___init__ = some ⟨oc_Learner___init__, od_Learner___init__, .func (PySem.W.fnOf "__init__" "Learner.__init__" (defArgs s_Learner___init__) (defBody s_Learner___init__) (defScope s_Learner___init__) .none kV_Learner___init__ dc_Learner___init__ pm_Learner___init__ an_Learner___init__ cd_Learner___init__ ct_Learner___init__), sl_Learner___init__⟩)
    (c_Learner___init__ : PySem.W.codeIn K cd_Learner___init__ "Learner.__init__" = true)
    (k_Learner___init___ : PySem.W.keepIn K (.ref f_Learner___init__) = true)
    (a_answers : PySem.W.nsIn K mainGlobals "answers" = some (some (.ref f_answers)))
    (l_answers : K.lookup f_answers = some ⟨oc_answers, od_answers, .func (PySem.W.fnOf "answers" "answers" (defArgs s_answers) (defBody s_answers) (defScope s_answers) .none kV_answers dc_answers pm_answers an_answers cd_answers ct_answers), sl_answers⟩)
    (c_answers : PySem.W.codeIn K cd_answers "answers" = true)
    (k_answers_ : PySem.W.keepIn K (.ref f_answers) = true)
    (a_Fault___init__ : PySem.W.findIn K (.ref CF) "__init__" = some (some (.ref f_Fault___init__)))
    (t_Fault___init__ : PySem.W.typeIn K (.ref f_Fault___init__) = some (.type "function"))
    (l_Fault___init__ : K.lookup f_Fault___init__ = some ⟨oc_Fault___init__, od_Fault___init__, .func (PySem.W.fnOf "__init__" "Fault.__init__" (defArgs s_Fault___init__) (defBody s_Fault___init__) (defScope s_Fault___init__) .none kV_Fault___init__ dc_Fault___init__ pm_Fault___init__ an_Fault___init__ cd_Fault___init__ ct_Fault___init__), sl_Fault___init__⟩)
    (c_Fault___init__ : PySem.W.codeIn K cd_Fault___init__ "Fault.__init__" = true)
    (k_Fault___init___ : PySem.W.keepIn K (.ref f_Fault___init__) = true)
    (xF : K.lookup CF = some (excClassObj nmF qF CF NF bsF PySem.ESX.exTail true snF subF abF colF ddF m0F m1F m2F m3F m5F "Exception.__new__"))
    (saF : PySem.W.findIn K (.ref CF) "__setattr__" = some (some (.builtin "object.__setattr__")))
    (eF : PySem.W.subIn K (.ref CF) (.type "BaseException") = some true)
    (tF : PySem.W.typeIn K (.ref CF) = some (.type "type"))
    (kF : PySem.W.keepIn K (.ref CF) = true)
    (nCF : PySem.W.findIn K (.ref CF) "code" = some none)
    (nPF : PySem.W.findIn K (.ref CF) "place" = some none)
    (gaF : PySem.W.findIn K (.ref CF) "__getattribute__" = some (some (.builtin "BaseException.__getattribute__")))
    (ggF : PySem.W.findIn K (.ref CF) "__getattr__" = some none)
    (hdF : PySem.W.hasDictIn K CF = true)
    (iF : PySem.W.isClsIn K CF = true)
    (sF : PySem.W.subIn K (.ref CF) (.ref CF) = some true)
    (vF : PySem.W.findCls K (.type "Exception") (.type "type") "__init__" = some (.val (.builtin "Exception.__init__")))
    (pg_CH : PySem.W.plainGet K CH Str.empty = true)
    (hd_CH : PySem.W.hasDictIn K CH = true)
    (po_CH : PySem.W.plainOver K CH = true)
    (sa_CH : PySem.W.findIn K (.ref CH) "__setattr__" = some (some (.builtin "object.__setattr__")))
    (mk_CH : PySem.W.makesIn K CH = true)
    (kc_CH : PySem.W.keepIn K (.ref CH) = true)
    (na_CH_left : PySem.W.findIn K (.ref CH) "left" = some none)
    (na_CH_right : PySem.W.findIn K (.ref CH) "right" = some none)
    (na_CH_words : PySem.W.findIn K (.ref CH) "words" = some none)
    (na_CH_patterns : PySem.W.findIn K (.ref CH) "patterns" = some none)
    (pg_CR : PySem.W.plainGet K CR Str.empty = true)
    (hd_CR : PySem.W.hasDictIn K CR = true)
    (po_CR : PySem.W.plainOver K CR = true)
    (sa_CR : PySem.W.findIn K (.ref CR) "__setattr__" = some (some (.builtin "object.__setattr__")))
    (mk_CR : PySem.W.makesIn K CR = true)
    (kc_CR : PySem.W.keepIn K (.ref CR) = true)
    (na_CR_tokens : PySem.W.findIn K (.ref CR) "tokens" = some none)
    (na_CR_spot : PySem.W.findIn K (.ref CR) "spot" = some none)
    (pg_CL : PySem.W.plainGet K CL Str.empty = true)
    (hd_CL : PySem.W.hasDictIn K CL = true)
    (po_CL : PySem.W.plainOver K CL = true)
    (sa_CL : PySem.W.findIn K (.ref CL) "__setattr__" = some (some (.builtin "object.__setattr__")))
    (mk_CL : PySem.W.makesIn K CL = true)
    (kc_CL : PySem.W.keepIn K (.ref CL) = true)
    (na_CL_held : PySem.W.findIn K (.ref CL) "held" = some none)
    (na_CL_patterns : PySem.W.findIn K (.ref CL) "patterns" = some none)
    (na_CL_earlier : PySem.W.findIn K (.ref CL) "earlier" = some none)
    (z_len : PySem.W.nsIn K mainGlobals "len" = some none)
    (z_max : PySem.W.nsIn K mainGlobals "max" = some none)
    (z_min : PySem.W.nsIn K mainGlobals "min" = some none)
    (z_sum : PySem.W.nsIn K mainGlobals "sum" = some none)
    (z_all : PySem.W.nsIn K mainGlobals "all" = some none)
    (z_ord : PySem.W.nsIn K mainGlobals "ord" = some none)
    (z_tuple : PySem.W.nsIn K mainGlobals "tuple" = some none)
    (z_list : PySem.W.nsIn K mainGlobals "list" = some none)
    (z_range : PySem.W.nsIn K mainGlobals "range" = some none)
    (z_enumerate : PySem.W.nsIn K mainGlobals "enumerate" = some none)
    (z_zip : PySem.W.nsIn K mainGlobals "zip" = some none)
    (z_Exception : PySem.W.nsIn K mainGlobals "Exception" = some none)
    (v_LINE_FEED : PySem.W.nsIn K mainGlobals "LINE_FEED" = some (some (.int 10 tk_LINE_FEED)))
    (v_ZERO : PySem.W.nsIn K mainGlobals "ZERO" = some (some (.int 48 tk_ZERO)))
    (v_POINT : PySem.W.nsIn K mainGlobals "POINT" = some (some (.int 46 tk_POINT)))
    (v_HYPHEN : PySem.W.nsIn K mainGlobals "HYPHEN" = some (some (.int 45 tk_HYPHEN)))
    (v_TAB : PySem.W.nsIn K mainGlobals "TAB" = some (some (.int 9 tk_TAB)))
    (v_BLANK : PySem.W.nsIn K mainGlobals "BLANK" = some (some (.int 32 tk_BLANK)))
    (v_REMARK : PySem.W.nsIn K mainGlobals "REMARK" = some (some (.int 35 tk_REMARK)))
    (v_SIGN : PySem.W.nsIn K mainGlobals "SIGN" = some (some (.int 59 tk_SIGN)))
    (v_MOST_CHUNK : PySem.W.nsIn K mainGlobals "MOST_CHUNK" = some (some (.int 40 tk_MOST_CHUNK)))
    (v_GREATEST_MARGIN : PySem.W.nsIn K mainGlobals "GREATEST_MARGIN" = some (some (.int 5 tk_GREATEST_MARGIN)))
    (v_FEWEST_WORD_LETTERS : PySem.W.nsIn K mainGlobals "FEWEST_WORD_LETTERS" = some (some (.int 2 tk_FEWEST_WORD_LETTERS)))
    (v_MOST_WORD_LETTERS : PySem.W.nsIn K mainGlobals "MOST_WORD_LETTERS" = some (some (.int 16 tk_MOST_WORD_LETTERS)))
    (v_MOST_PIECE_LETTERS : PySem.W.nsIn K mainGlobals "MOST_PIECE_LETTERS" = some (some (.int 6 tk_MOST_PIECE_LETTERS)))
    (v_MOST_BYTES : PySem.W.nsIn K mainGlobals "MOST_BYTES" = some (some (.int 4096 tk_MOST_BYTES)))
    (v_MOST_WORDS : PySem.W.nsIn K mainGlobals "MOST_WORDS" = some (some (.int 24 tk_MOST_WORDS)))
    (v_MOST_PATTERNS_lists : PySem.W.nsIn K mainGlobals "MOST_PATTERNS_lists" = some (some (.int 40 tk_MOST_PATTERNS_lists)))
    (v_GREATEST_LENGTH : PySem.W.nsIn K mainGlobals "GREATEST_LENGTH" = some (some (.int 8 tk_GREATEST_LENGTH)))
    (v_GREATEST_LEVEL : PySem.W.nsIn K mainGlobals "GREATEST_LEVEL" = some (some (.int 9 tk_GREATEST_LEVEL)))
    (v_GREATEST_WEIGHT : PySem.W.nsIn K mainGlobals "GREATEST_WEIGHT" = some (some (.int 1000 tk_GREATEST_WEIGHT)))
    (v_LONGEST_PIECE : PySem.W.nsIn K mainGlobals "LONGEST_PIECE" = some (some (.int 8 tk_LONGEST_PIECE)))
    (v_MOST_EARLIER : PySem.W.nsIn K mainGlobals "MOST_EARLIER" = some (some (.int 20 tk_MOST_EARLIER)))
    (v_WRONG_NUMBERS : PySem.W.nsIn K mainGlobals "WRONG_NUMBERS" = some (some (.int (-4) tk_WRONG_NUMBERS)))
    (v_MOST_PATTERNS_learning : PySem.W.nsIn K mainGlobals "MOST_PATTERNS_learning" = some (some (.int 200 tk_MOST_PATTERNS_learning)))
    (v_TOO_MANY : PySem.W.nsIn K mainGlobals "TOO_MANY" = some (some (.int (-7) tk_TOO_MANY)))
    (v_ROUND_NUMBERS : PySem.W.nsIn K mainGlobals "ROUND_NUMBERS" = some (some (.int 5 tk_ROUND_NUMBERS)))
    (v_MOST_ROUNDS : PySem.W.nsIn K mainGlobals "MOST_ROUNDS" = some (some (.int 10 tk_MOST_ROUNDS)))
    (v_MOST_SHOWN : PySem.W.nsIn K mainGlobals "MOST_SHOWN" = some (some (.int 20 tk_MOST_SHOWN)))
    (v_NONE_EARLIER : PySem.W.nsIn K mainGlobals "NONE_EARLIER" = some (some (.int (-8) tk_NONE_EARLIER)))
    (v_LOAD : PySem.W.nsIn K mainGlobals "LOAD" = some (some (.int 0 tk_LOAD)))
    (v_NO_LIST : PySem.W.nsIn K mainGlobals "NO_LIST" = some (some (.int (-1) tk_NO_LIST)))
    (v_rc : PySem.W.nsIn K mainGlobals "ROW_CALLS" = some (some (.ref rc)))
    (l_rc : K.lookup rc = some ⟨.type "tuple", odr, .seq #[.int 0 r0, .int 2 r2, .int 4 r4, .int 7 r7] nr, slr⟩)
    (v_pl : PySem.W.nsIn K mainGlobals "PLAIN_NUMBERS" = some (some (.ref pl)))
    (l_pl : K.lookup pl = some ⟨.type "dict", none, .dict #[{ hash := 1, key := .int 1 p1, val := .int 5 q1 }, { hash := 3, key := .int 3 p3, val := .int 2 q3 }] n1, #[]⟩)
    (s_pl : (pl == sysModules) = false)
    (v_cs : PySem.W.nsIn K mainGlobals "CALLS" = some (some (.ref cs)))
    (l_cs : K.lookup cs = some ⟨.type "dict", none, .dict #[{ hash := 0, key := .int 0 c0, val := .ref f_load }, { hash := 1, key := .int 1 c1, val := .ref f_round_of }, { hash := 2, key := .int 2 c2, val := .ref f_rounds }, { hash := 3, key := .int 3 c3, val := .ref f_candidates }, { hash := 4, key := .int 4 c4, val := .ref f_count_of }, { hash := 7, key := .int 7 c7, val := .ref f_part }] n2, #[]⟩)
    (s_cs : (cs == sysModules) = false)
    (v_bs : PySem.W.nsIn K mainGlobals "BARE_CALLS" = some (some (.ref bs)))
    (l_bs : K.lookup bs = some ⟨.type "dict", none, .dict #[{ hash := 5, key := .int 5 d5, val := .ref f_patterns_now }, { hash := 6, key := .int 6 d6, val := .ref f_score }, { hash := 8, key := .int 8 d8, val := .ref f_undo }, { hash := 9, key := .int 9 d9, val := .ref f_forget }] n3, #[]⟩)
    (s_bs : (bs == sysModules) = false)
    (nd1 : ([f_word_of, f_pattern_of] : List Addr).Nodup)
    (nd2 : ([f_load, f_round_of, f_rounds, f_candidates, f_count_of, f_patterns_now, f_score, f_part, f_undo, f_forget] : List Addr).Nodup) :
    ∃ fd : FuncData, (∀ (s : Shared) (us : List Value), us.length = (["calls"] : List Str).length → BindsTo s fd ⟨us, []⟩ ((["calls"] : List Str).zip us)) ∧ ∀ base : Heap, K.In base → base.Ns mainGlobals mg → FnOk P w K mg base CX0 8 fa fd ["calls"] (spAnswers K) := by
  have e := hfa.symm.trans (PySem.W.mg_of X G a_answers)
  cases e
  have F_span_of := fun_mk (st := s_span_of) l_span_of c_span_of k_span_of_
  have D_span_of : Dfn K mg "span_of" s_span_of ["calls", "at"] f_span_of _ := ⟨F_span_of, PySem.W.mg_of X G a_span_of, (F_span_of.binds (ps := ["calls", "at"]) fun _ _ _ _ _ _ us hl => match us, hl with | [_, _], _ => rfl)⟩
  have F_remark_end := fun_mk (st := s_remark_end) l_remark_end c_remark_end k_remark_end_
  have D_remark_end : Dfn K mg "remark_end" s_remark_end ["text", "place"] f_remark_end _ := ⟨F_remark_end, PySem.W.mg_of X G a_remark_end, (F_remark_end.binds (ps := ["text", "place"]) fun _ _ _ _ _ _ us hl => match us, hl with | [_, _], _ => rfl)⟩
  have F_is_digit := fun_mk (st := s_is_digit) l_is_digit c_is_digit k_is_digit_
  have D_is_digit : Dfn K mg "is_digit" s_is_digit ["byte"] f_is_digit _ := ⟨F_is_digit, PySem.W.mg_of X G a_is_digit, (F_is_digit.binds (ps := ["byte"]) fun _ _ _ _ _ _ us hl => match us, hl with | [_], _ => rfl)⟩
  have F_is_letter := fun_mk (st := s_is_letter) l_is_letter c_is_letter k_is_letter_
  have D_is_letter : Dfn K mg "is_letter" s_is_letter ["byte"] f_is_letter _ := ⟨F_is_letter, PySem.W.mg_of X G a_is_letter, (F_is_letter.binds (ps := ["byte"]) fun _ _ _ _ _ _ us hl => match us, hl with | [_], _ => rfl)⟩
  have F_is_chunk_byte := fun_mk (st := s_is_chunk_byte) l_is_chunk_byte c_is_chunk_byte k_is_chunk_byte_
  have D_is_chunk_byte : Dfn K mg "is_chunk_byte" s_is_chunk_byte ["byte"] f_is_chunk_byte _ := ⟨F_is_chunk_byte, PySem.W.mg_of X G a_is_chunk_byte, (F_is_chunk_byte.binds (ps := ["byte"]) fun _ _ _ _ _ _ us hl => match us, hl with | [_], _ => rfl)⟩
  have F_chunk_end := fun_mk (st := s_chunk_end) l_chunk_end c_chunk_end k_chunk_end_
  have D_chunk_end : Dfn K mg "chunk_end" s_chunk_end ["text", "place"] f_chunk_end _ := ⟨F_chunk_end, PySem.W.mg_of X G a_chunk_end, (F_chunk_end.binds (ps := ["text", "place"]) fun _ _ _ _ _ _ us hl => match us, hl with | [_, _], _ => rfl)⟩
  have F_tokens_of := fun_mk (st := s_tokens_of) l_tokens_of c_tokens_of k_tokens_of_
  have D_tokens_of : Dfn K mg "tokens_of" s_tokens_of ["text"] f_tokens_of _ := ⟨F_tokens_of, PySem.W.mg_of X G a_tokens_of, (F_tokens_of.binds (ps := ["text"]) fun _ _ _ _ _ _ us hl => match us, hl with | [_], _ => rfl)⟩
  have F_spelled := fun_mk (st := s_spelled) l_spelled c_spelled k_spelled_
  have D_spelled : Dfn K mg "spelled" s_spelled ["word"] f_spelled _ := ⟨F_spelled, PySem.W.mg_of X G a_spelled, (F_spelled.binds (ps := ["word"]) fun _ _ _ _ _ _ us hl => match us, hl with | [_], _ => rfl)⟩
  have F_Reader_is_at := fun_mk (st := s_Reader_is_at) l_Reader_is_at c_Reader_is_at k_Reader_is_at_
  have b_Reader_is_at := (F_Reader_is_at.binds (ps := ["self", "word"]) fun _ _ _ _ _ _ us hl => match us, hl with | [_, _], _ => rfl)
  have D_Reader_is_at : Mth K CR "is_at" "Reader.is_at" s_Reader_is_at ["self", "word"] f_Reader_is_at _ := ⟨F_Reader_is_at, ⟨a_Reader_is_at, i_Reader_is_at, k_Reader_is_at_⟩, b_Reader_is_at⟩
  have F_Reader_where := fun_mk (st := s_Reader_where) l_Reader_where c_Reader_where k_Reader_where_
  have b_Reader_where := (F_Reader_where.binds (ps := ["self"]) fun _ _ _ _ _ _ us hl => match us, hl with | [_], _ => rfl)
  have D_Reader_where : Mth K CR "where" "Reader.where" s_Reader_where ["self"] f_Reader_where _ := ⟨F_Reader_where, ⟨a_Reader_where, i_Reader_where, k_Reader_where_⟩, b_Reader_where⟩
  have F_Reader_pass_over := fun_mk (st := s_Reader_pass_over) l_Reader_pass_over c_Reader_pass_over k_Reader_pass_over_
  have b_Reader_pass_over := (F_Reader_pass_over.binds (ps := ["self", "word"]) fun _ _ _ _ _ _ us hl => match us, hl with | [_, _], _ => rfl)
  have D_Reader_pass_over : Mth K CR "pass_over" "Reader.pass_over" s_Reader_pass_over ["self", "word"] f_Reader_pass_over _ := ⟨F_Reader_pass_over, ⟨a_Reader_pass_over, i_Reader_pass_over, k_Reader_pass_over_⟩, b_Reader_pass_over⟩
  have F_margin_of := fun_mk (st := s_margin_of) l_margin_of c_margin_of k_margin_of_
  have D_margin_of : Dfn K mg "margin_of" s_margin_of ["chunk"] f_margin_of _ := ⟨F_margin_of, PySem.W.mg_of X G a_margin_of, (F_margin_of.binds (ps := ["chunk"]) fun _ _ _ _ _ _ us hl => match us, hl with | [_], _ => rfl)⟩
  have F_Reader_take_chunk := fun_mk (st := s_Reader_take_chunk) l_Reader_take_chunk c_Reader_take_chunk k_Reader_take_chunk_
  have b_Reader_take_chunk := (F_Reader_take_chunk.binds (ps := ["self"]) fun _ _ _ _ _ _ us hl => match us, hl with | [_], _ => rfl)
  have D_Reader_take_chunk : Mth K CR "take_chunk" "Reader.take_chunk" s_Reader_take_chunk ["self"] f_Reader_take_chunk _ := ⟨F_Reader_take_chunk, ⟨a_Reader_take_chunk, i_Reader_take_chunk, k_Reader_take_chunk_⟩, b_Reader_take_chunk⟩
  have F_read_margin := fun_mk (st := s_read_margin) l_read_margin c_read_margin k_read_margin_
  have D_read_margin : Dfn K mg "read_margin" s_read_margin ["reader"] f_read_margin _ := ⟨F_read_margin, PySem.W.mg_of X G a_read_margin, (F_read_margin.binds (ps := ["reader"]) fun _ _ _ _ _ _ us hl => match us, hl with | [_], _ => rfl)⟩
  have F_row_of := fun_mk (st := s_row_of) l_row_of c_row_of k_row_of_
  have D_row_of : Dfn K mg "row_of" s_row_of ["letters"] f_row_of _ := ⟨F_row_of, PySem.W.mg_of X G a_row_of, (F_row_of.binds (ps := ["letters"]) fun _ _ _ _ _ _ us hl => match us, hl with | [_], _ => rfl)⟩
  have F_word_of := fun_mk (st := s_word_of) l_word_of c_word_of k_word_of_
  have D_word_of : Dfn K mg "word_of" s_word_of ["chunk"] f_word_of _ := ⟨F_word_of, PySem.W.mg_of X G a_word_of, (F_word_of.binds (ps := ["chunk"]) fun _ _ _ _ _ _ us hl => match us, hl with | [_], _ => rfl)⟩
  have F_without_points := fun_mk (st := s_without_points) l_without_points c_without_points k_without_points_
  have D_without_points : Dfn K mg "without_points" s_without_points ["chunk"] f_without_points _ := ⟨F_without_points, PySem.W.mg_of X G a_without_points, (F_without_points.binds (ps := ["chunk"]) fun _ _ _ _ _ _ us hl => match us, hl with | [_], _ => rfl)⟩
  have F_pattern_of := fun_mk (st := s_pattern_of) l_pattern_of c_pattern_of k_pattern_of_
  have D_pattern_of : Dfn K mg "pattern_of" s_pattern_of ["chunk"] f_pattern_of _ := ⟨F_pattern_of, PySem.W.mg_of X G a_pattern_of, (F_pattern_of.binds (ps := ["chunk"]) fun _ _ _ _ _ _ us hl => match us, hl with | [_], _ => rfl)⟩
  have F_read_named := fun_mk (st := s_read_named) l_read_named c_read_named k_read_named_
  have D_read_named : Dfn K mg "read_named" s_read_named ["reader", "name", "most", "read_as"] f_read_named _ := ⟨F_read_named, PySem.W.mg_of X G a_read_named, (F_read_named.binds (ps := ["reader", "name", "most", "read_as"]) fun _ _ _ _ _ _ us hl => match us, hl with | [_, _, _, _], _ => rfl)⟩
  have F_Reader___init__ := fun_mk (st := s_Reader___init__) l_Reader___init__ c_Reader___init__ k_Reader___init___
  have b_Reader___init__ := (F_Reader___init__.binds (ps := ["self", "tokens"]) fun _ _ _ _ _ _ us hl => match us, hl with | [_, _], _ => rfl)
  have F_HeldList___init__ := fun_mk (st := s_HeldList___init__) l_HeldList___init__ c_HeldList___init__ k_HeldList___init___
  have b_HeldList___init__ := (F_HeldList___init__.binds (ps := ["self", "left", "right", "words", "patterns"]) fun _ _ _ _ _ _ us hl => match us, hl with | [_, _, _, _, _], _ => rfl)
  have F_list_of := fun_mk (st := s_list_of) l_list_of c_list_of k_list_of_
  have D_list_of : Dfn K mg "list_of" s_list_of ["text"] f_list_of _ := ⟨F_list_of, PySem.W.mg_of X G a_list_of, (F_list_of.binds (ps := ["text"]) fun _ _ _ _ _ _ us hl => match us, hl with | [_], _ => rfl)⟩
  have F_Learner_hold := fun_mk (st := s_Learner_hold) l_Learner_hold c_Learner_hold k_Learner_hold_
  have b_Learner_hold := (F_Learner_hold.binds (ps := ["self", "held"]) fun _ _ _ _ _ _ us hl => match us, hl with | [_, _], _ => rfl)
  have D_Learner_hold : Mth K CL "hold" "Learner.hold" s_Learner_hold ["self", "held"] f_Learner_hold _ := ⟨F_Learner_hold, ⟨a_Learner_hold, i_Learner_hold, k_Learner_hold_⟩, b_Learner_hold⟩
  have F_load := fun_mk (st := s_load) l_load c_load k_load_
  have D_load : Dfn K mg "load" s_load ["learner", "text"] f_load _ := ⟨F_load, PySem.W.mg_of X G a_load, (F_load.binds (ps := ["learner", "text"]) fun _ _ _ _ _ _ us hl => match us, hl with | [_, _], _ => rfl)⟩
  have F_are_level_and_length := fun_mk (st := s_are_level_and_length) l_are_level_and_length c_are_level_and_length k_are_level_and_length_
  have D_are_level_and_length : Dfn K mg "are_level_and_length" s_are_level_and_length ["level", "length"] f_are_level_and_length _ := ⟨F_are_level_and_length, PySem.W.mg_of X G a_are_level_and_length, (F_are_level_and_length.binds (ps := ["level", "length"]) fun _ _ _ _ _ _ us hl => match us, hl with | [_, _], _ => rfl)⟩
  have F_is_round := fun_mk (st := s_is_round) l_is_round c_is_round k_is_round_
  have D_is_round : Dfn K mg "is_round" s_is_round ["numbers"] f_is_round _ := ⟨F_is_round, PySem.W.mg_of X G a_is_round, (F_is_round.binds (ps := ["numbers"]) fun _ _ _ _ _ _ us hl => match us, hl with | [_], _ => rfl)⟩
  have F_first_gap := fun_mk (st := s_first_gap) l_first_gap c_first_gap k_first_gap_
  have D_first_gap : Dfn K mg "first_gap" s_first_gap ["begin"] f_first_gap _ := ⟨F_first_gap, PySem.W.mg_of X G a_first_gap, (F_first_gap.binds (ps := ["begin"]) fun _ _ _ _ _ _ us hl => match us, hl with | [_], _ => rfl)⟩
  have F_pieces_with := fun_mk (st := s_pieces_with) l_pieces_with c_pieces_with k_pieces_with_
  have D_pieces_with : Dfn K mg "pieces_with" s_pieces_with ["row", "gap", "length"] f_pieces_with _ := ⟨F_pieces_with, PySem.W.mg_of X G a_pieces_with, (F_pieces_with.binds (ps := ["row", "gap", "length"]) fun _ _ _ _ _ _ us hl => match us, hl with | [_, _, _], _ => rfl)⟩
  have F_tally := fun_mk (st := s_tally) l_tally c_tally k_tally_
  have D_tally : Dfn K mg "tally" s_tally ["words", "level", "length"] f_tally _ := ⟨F_tally, PySem.W.mg_of X G a_tally, (F_tally.binds (ps := ["words", "level", "length"]) fun _ _ _ _ _ _ us hl => match us, hl with | [_, _, _], _ => rfl)⟩
  have F_single_digits := fun_mk (st := s_single_digits) l_single_digits c_single_digits k_single_digits_
  have D_single_digits : Dfn K mg "single_digits" s_single_digits ["piece", "gap", "level"] f_single_digits _ := ⟨F_single_digits, PySem.W.mg_of X G a_single_digits, (F_single_digits.binds (ps := ["piece", "gap", "level"]) fun _ _ _ _ _ _ us hl => match us, hl with | [_, _, _], _ => rfl)⟩
  have F_candidates_of := fun_mk (st := s_candidates_of) l_candidates_of c_candidates_of k_candidates_of_
  have D_candidates_of : Dfn K mg "candidates_of" s_candidates_of ["words", "level", "length"] f_candidates_of _ := ⟨F_candidates_of, PySem.W.mg_of X G a_candidates_of, (F_candidates_of.binds (ps := ["words", "level", "length"]) fun _ _ _ _ _ _ us hl => match us, hl with | [_, _, _], _ => rfl)⟩
  have F_raise_levels := fun_mk (st := s_raise_levels) l_raise_levels c_raise_levels k_raise_levels_
  have D_raise_levels : Dfn K mg "raise_levels" s_raise_levels ["levels", "gap", "digits"] f_raise_levels _ := ⟨F_raise_levels, PySem.W.mg_of X G a_raise_levels, (F_raise_levels.binds (ps := ["levels", "gap", "digits"]) fun _ _ _ _ _ _ us hl => match us, hl with | [_, _, _], _ => rfl)⟩
  have F_levels_of := fun_mk (st := s_levels_of) l_levels_of c_levels_of k_levels_of_
  have D_levels_of : Dfn K mg "levels_of" s_levels_of ["row", "patterns"] f_levels_of _ := ⟨F_levels_of, PySem.W.mg_of X G a_levels_of, (F_levels_of.binds (ps := ["row", "patterns"]) fun _ _ _ _ _ _ us hl => match us, hl with | [_, _], _ => rfl)⟩
  have F_gaps_within := fun_mk (st := s_gaps_within) l_gaps_within c_gaps_within k_gaps_within_
  have D_gaps_within : Dfn K mg "gaps_within" s_gaps_within ["row", "left", "right"] f_gaps_within _ := ⟨F_gaps_within, PySem.W.mg_of X G a_gaps_within, (F_gaps_within.binds (ps := ["row", "left", "right"]) fun _ _ _ _ _ _ us hl => match us, hl with | [_, _, _], _ => rfl)⟩
  have F_inner_gaps := fun_mk (st := s_inner_gaps) l_inner_gaps c_inner_gaps k_inner_gaps_
  have D_inner_gaps : Dfn K mg "inner_gaps" s_inner_gaps ["held", "row", "patterns"] f_inner_gaps _ := ⟨F_inner_gaps, PySem.W.mg_of X G a_inner_gaps, (F_inner_gaps.binds (ps := ["held", "row", "patterns"]) fun _ _ _ _ _ _ us hl => match us, hl with | [_, _, _], _ => rfl)⟩
  have F_parted_words := fun_mk (st := s_parted_words) l_parted_words c_parted_words k_parted_words_
  have D_parted_words : Dfn K mg "parted_words" s_parted_words ["held", "patterns"] f_parted_words _ := ⟨F_parted_words, PySem.W.mg_of X G a_parted_words, (F_parted_words.binds (ps := ["held", "patterns"]) fun _ _ _ _ _ _ us hl => match us, hl with | [_, _], _ => rfl)⟩
  have F_put_pattern := fun_mk (st := s_put_pattern) l_put_pattern c_put_pattern k_put_pattern_
  have D_put_pattern : Dfn K mg "put_pattern" s_put_pattern ["patterns", "piece", "digits"] f_put_pattern _ := ⟨F_put_pattern, PySem.W.mg_of X G a_put_pattern, (F_put_pattern.binds (ps := ["patterns", "piece", "digits"]) fun _ _ _ _ _ _ us hl => match us, hl with | [_, _, _], _ => rfl)⟩
  have F_after_round := fun_mk (st := s_after_round) l_after_round c_after_round k_after_round_
  have D_after_round : Dfn K mg "after_round" s_after_round ["held", "patterns", "numbers"] f_after_round _ := ⟨F_after_round, PySem.W.mg_of X G a_after_round, (F_after_round.binds (ps := ["held", "patterns", "numbers"]) fun _ _ _ _ _ _ us hl => match us, hl with | [_, _, _], _ => rfl)⟩
  have F_Learner_keep := fun_mk (st := s_Learner_keep) l_Learner_keep c_Learner_keep k_Learner_keep_
  have b_Learner_keep := (F_Learner_keep.binds (ps := ["self", "patterns"]) fun _ _ _ _ _ _ us hl => match us, hl with | [_, _], _ => rfl)
  have D_Learner_keep : Mth K CL "keep" "Learner.keep" s_Learner_keep ["self", "patterns"] f_Learner_keep _ := ⟨F_Learner_keep, ⟨a_Learner_keep, i_Learner_keep, k_Learner_keep_⟩, b_Learner_keep⟩
  have F_round_of := fun_mk (st := s_round_of) l_round_of c_round_of k_round_of_
  have D_round_of : Dfn K mg "round_of" s_round_of ["learner", "numbers"] f_round_of _ := ⟨F_round_of, PySem.W.mg_of X G a_round_of, (F_round_of.binds (ps := ["learner", "numbers"]) fun _ _ _ _ _ _ us hl => match us, hl with | [_, _], _ => rfl)⟩
  have F_rounds_in := fun_mk (st := s_rounds_in) l_rounds_in c_rounds_in k_rounds_in_
  have D_rounds_in : Dfn K mg "rounds_in" s_rounds_in ["numbers"] f_rounds_in _ := ⟨F_rounds_in, PySem.W.mg_of X G a_rounds_in, (F_rounds_in.binds (ps := ["numbers"]) fun _ _ _ _ _ _ us hl => match us, hl with | [_], _ => rfl)⟩
  have F_score_of := fun_mk (st := s_score_of) l_score_of c_score_of k_score_of_
  have D_score_of : Dfn K mg "score_of" s_score_of ["words"] f_score_of _ := ⟨F_score_of, PySem.W.mg_of X G a_score_of, (F_score_of.binds (ps := ["words"]) fun _ _ _ _ _ _ us hl => match us, hl with | [_], _ => rfl)⟩
  have F_score := fun_mk (st := s_score) l_score c_score k_score_
  have D_score : Dfn K mg "score" s_score ["learner"] f_score _ := ⟨F_score, PySem.W.mg_of X G a_score, (F_score.binds (ps := ["learner"]) fun _ _ _ _ _ _ us hl => match us, hl with | [_], _ => rfl)⟩
  have F_rounds := fun_mk (st := s_rounds) l_rounds c_rounds k_rounds_
  have D_rounds : Dfn K mg "rounds" s_rounds ["learner", "numbers"] f_rounds _ := ⟨F_rounds, PySem.W.mg_of X G a_rounds, (F_rounds.binds (ps := ["learner", "numbers"]) fun _ _ _ _ _ _ us hl => match us, hl with | [_, _], _ => rfl)⟩
  have F_digit_bytes := fun_mk (st := s_digit_bytes) l_digit_bytes c_digit_bytes k_digit_bytes_
  have D_digit_bytes : Dfn K mg "digit_bytes" s_digit_bytes ["digit"] f_digit_bytes _ := ⟨F_digit_bytes, PySem.W.mg_of X G a_digit_bytes, (F_digit_bytes.binds (ps := ["digit"]) fun _ _ _ _ _ _ us hl => match us, hl with | [_], _ => rfl)⟩
  have F_pattern_bytes := fun_mk (st := s_pattern_bytes) l_pattern_bytes c_pattern_bytes k_pattern_bytes_
  have D_pattern_bytes : Dfn K mg "pattern_bytes" s_pattern_bytes ["piece", "digits"] f_pattern_bytes _ := ⟨F_pattern_bytes, PySem.W.mg_of X G a_pattern_bytes, (F_pattern_bytes.binds (ps := ["piece", "digits"]) fun _ _ _ _ _ _ us hl => match us, hl with | [_, _], _ => rfl)⟩
  have F_told_pattern := fun_mk (st := s_told_pattern) l_told_pattern c_told_pattern k_told_pattern_
  have D_told_pattern : Dfn K mg "told_pattern" s_told_pattern ["piece", "digits"] f_told_pattern _ := ⟨F_told_pattern, PySem.W.mg_of X G a_told_pattern, (F_told_pattern.binds (ps := ["piece", "digits"]) fun _ _ _ _ _ _ us hl => match us, hl with | [_, _], _ => rfl)⟩
  have F_candidates := fun_mk (st := s_candidates) l_candidates c_candidates k_candidates_
  have D_candidates : Dfn K mg "candidates" s_candidates ["learner", "numbers"] f_candidates _ := ⟨F_candidates, PySem.W.mg_of X G a_candidates, (F_candidates.binds (ps := ["learner", "numbers"]) fun _ _ _ _ _ _ us hl => match us, hl with | [_, _], _ => rfl)⟩
  have F_count_of := fun_mk (st := s_count_of) l_count_of c_count_of k_count_of_
  have D_count_of : Dfn K mg "count_of" s_count_of ["learner", "chunk"] f_count_of _ := ⟨F_count_of, PySem.W.mg_of X G a_count_of, (F_count_of.binds (ps := ["learner", "chunk"]) fun _ _ _ _ _ _ us hl => match us, hl with | [_, _], _ => rfl)⟩
  have F_patterns_now := fun_mk (st := s_patterns_now) l_patterns_now c_patterns_now k_patterns_now_
  have D_patterns_now : Dfn K mg "patterns_now" s_patterns_now ["learner"] f_patterns_now _ := ⟨F_patterns_now, PySem.W.mg_of X G a_patterns_now, (F_patterns_now.binds (ps := ["learner"]) fun _ _ _ _ _ _ us hl => match us, hl with | [_], _ => rfl)⟩
  have F_part := fun_mk (st := s_part) l_part c_part k_part_
  have D_part : Dfn K mg "part" s_part ["learner", "letters"] f_part _ := ⟨F_part, PySem.W.mg_of X G a_part, (F_part.binds (ps := ["learner", "letters"]) fun _ _ _ _ _ _ us hl => match us, hl with | [_, _], _ => rfl)⟩
  have F_undo := fun_mk (st := s_undo) l_undo c_undo k_undo_
  have D_undo : Dfn K mg "undo" s_undo ["learner"] f_undo _ := ⟨F_undo, PySem.W.mg_of X G a_undo, (F_undo.binds (ps := ["learner"]) fun _ _ _ _ _ _ us hl => match us, hl with | [_], _ => rfl)⟩
  have F_forget := fun_mk (st := s_forget) l_forget c_forget k_forget_
  have D_forget : Dfn K mg "forget" s_forget ["learner"] f_forget _ := ⟨F_forget, PySem.W.mg_of X G a_forget, (F_forget.binds (ps := ["learner"]) fun _ _ _ _ _ _ us hl => match us, hl with | [_], _ => rfl)⟩
  have F_answer_of := fun_mk (st := s_answer_of) l_answer_of c_answer_of k_answer_of_
  have D_answer_of : Dfn K mg "answer_of" s_answer_of ["learner", "call", "numbers"] f_answer_of _ := ⟨F_answer_of, PySem.W.mg_of X G a_answer_of, (F_answer_of.binds (ps := ["learner", "call", "numbers"]) fun _ _ _ _ _ _ us hl => match us, hl with | [_, _, _], _ => rfl)⟩
  have F_Learner___init__ := fun_mk (st := s_Learner___init__) l_Learner___init__ c_Learner___init__ k_Learner___init___
  have b_Learner___init__ := (F_Learner___init__.binds (ps := ["self"]) fun _ _ _ _ _ _ us hl => match us, hl with | [_], _ => rfl)
  have F_answers := fun_mk (st := s_answers) l_answers c_answers k_answers_
  have D_answers : Dfn K mg "answers" s_answers ["calls"] fa _ := ⟨F_answers, PySem.W.mg_of X G a_answers, (F_answers.binds (ps := ["calls"]) fun _ _ _ _ _ _ us hl => match us, hl with | [_], _ => rfl)⟩
  have F_Fault___init__ := fun_mk (st := s_Fault___init__) l_Fault___init__ c_Fault___init__ k_Fault___init___
  have b_Fault___init__ := (F_Fault___init__.binds (ps := ["self", "code", "place"]) fun _ _ _ _ _ _ us hl => match us, hl with | [_, _, _], _ => rfl)
  have TF : FaultT K mg CF f_Fault___init__ _ := { T := ⟨⟨nmF, qF, NF, bsF, snF, subF, abF, colF, ddF, m0F, m1F, m2F, m3F, m5F, xF⟩, saF, eF, tF, kF⟩, g := PySem.W.mg_of X G n_Fault, iC := a_Fault___init__, tI := t_Fault___init__, F := F_Fault___init__, b := b_Fault___init__, nC := nCF, nP := nPF, xf := ⟨gaF, ggF, eF, hdF⟩, te := exm_own eF iF tF sF, vV := vF }
  have TH : HlT K mg CH := ⟨⟨pg_CH, hd_CH, po_CH, sa_CH⟩, na_CH_left, na_CH_right, na_CH_words, na_CH_patterns, PySem.W.mg_of X G n_HeldList⟩
  have MH : Mk K CH f_HeldList___init__ := ⟨mk_CH, a_HeldList___init__, i_HeldList___init__, kc_CH⟩
  have TR : RdT K mg CR := ⟨⟨pg_CR, hd_CR, po_CR, sa_CR⟩, na_CR_tokens, na_CR_spot, PySem.W.mg_of X G n_Reader⟩
  have MR : Mk K CR f_Reader___init__ := ⟨mk_CR, a_Reader___init__, i_Reader___init__, kc_CR⟩
  have TL : LnT K mg CL := ⟨⟨pg_CL, hd_CL, po_CL, sa_CL⟩, na_CL_held, na_CL_patterns, na_CL_earlier, PySem.W.mg_of X G n_Learner⟩
  have ML : Mk K CL f_Learner___init__ := ⟨mk_CL, a_Learner___init__, i_Learner___init__, kc_CL⟩
  have B : Blt mg := ⟨PySem.W.mg_none_of X G z_len, PySem.W.mg_none_of X G z_max, PySem.W.mg_none_of X G z_min, PySem.W.mg_none_of X G z_sum, PySem.W.mg_none_of X G z_all, PySem.W.mg_none_of X G z_ord, PySem.W.mg_none_of X G z_tuple, PySem.W.mg_none_of X G z_list, PySem.W.mg_none_of X G z_range, PySem.W.mg_none_of X G z_enumerate, PySem.W.mg_none_of X G z_zip, PySem.W.mg_none_of X G z_Exception⟩
  have k_LINE_FEED : Kst mg "LINE_FEED" (.int 10) := ⟨_, PySem.W.mg_of X G v_LINE_FEED, ⟨_, rfl⟩⟩
  have k_ZERO : Kst mg "ZERO" (.int 48) := ⟨_, PySem.W.mg_of X G v_ZERO, ⟨_, rfl⟩⟩
  have k_POINT : Kst mg "POINT" (.int 46) := ⟨_, PySem.W.mg_of X G v_POINT, ⟨_, rfl⟩⟩
  have k_HYPHEN : Kst mg "HYPHEN" (.int 45) := ⟨_, PySem.W.mg_of X G v_HYPHEN, ⟨_, rfl⟩⟩
  have k_TAB : Kst mg "TAB" (.int 9) := ⟨_, PySem.W.mg_of X G v_TAB, ⟨_, rfl⟩⟩
  have k_BLANK : Kst mg "BLANK" (.int 32) := ⟨_, PySem.W.mg_of X G v_BLANK, ⟨_, rfl⟩⟩
  have k_REMARK : Kst mg "REMARK" (.int 35) := ⟨_, PySem.W.mg_of X G v_REMARK, ⟨_, rfl⟩⟩
  have k_SIGN : Kst mg "SIGN" (.int 59) := ⟨_, PySem.W.mg_of X G v_SIGN, ⟨_, rfl⟩⟩
  have k_MOST_CHUNK : Kst mg "MOST_CHUNK" (.int 40) := ⟨_, PySem.W.mg_of X G v_MOST_CHUNK, ⟨_, rfl⟩⟩
  have k_GREATEST_MARGIN : Kst mg "GREATEST_MARGIN" (.int 5) := ⟨_, PySem.W.mg_of X G v_GREATEST_MARGIN, ⟨_, rfl⟩⟩
  have k_FEWEST_WORD_LETTERS : Kst mg "FEWEST_WORD_LETTERS" (.int 2) := ⟨_, PySem.W.mg_of X G v_FEWEST_WORD_LETTERS, ⟨_, rfl⟩⟩
  have k_MOST_WORD_LETTERS : Kst mg "MOST_WORD_LETTERS" (.int 16) := ⟨_, PySem.W.mg_of X G v_MOST_WORD_LETTERS, ⟨_, rfl⟩⟩
  have k_MOST_PIECE_LETTERS : Kst mg "MOST_PIECE_LETTERS" (.int 6) := ⟨_, PySem.W.mg_of X G v_MOST_PIECE_LETTERS, ⟨_, rfl⟩⟩
  have k_MOST_BYTES : Kst mg "MOST_BYTES" (.int 4096) := ⟨_, PySem.W.mg_of X G v_MOST_BYTES, ⟨_, rfl⟩⟩
  have k_MOST_WORDS : Kst mg "MOST_WORDS" (.int 24) := ⟨_, PySem.W.mg_of X G v_MOST_WORDS, ⟨_, rfl⟩⟩
  have k_MOST_PATTERNS_lists : Kst mg "MOST_PATTERNS_lists" (.int 40) := ⟨_, PySem.W.mg_of X G v_MOST_PATTERNS_lists, ⟨_, rfl⟩⟩
  have k_GREATEST_LENGTH : Kst mg "GREATEST_LENGTH" (.int 8) := ⟨_, PySem.W.mg_of X G v_GREATEST_LENGTH, ⟨_, rfl⟩⟩
  have k_GREATEST_LEVEL : Kst mg "GREATEST_LEVEL" (.int 9) := ⟨_, PySem.W.mg_of X G v_GREATEST_LEVEL, ⟨_, rfl⟩⟩
  have k_GREATEST_WEIGHT : Kst mg "GREATEST_WEIGHT" (.int 1000) := ⟨_, PySem.W.mg_of X G v_GREATEST_WEIGHT, ⟨_, rfl⟩⟩
  have k_LONGEST_PIECE : Kst mg "LONGEST_PIECE" (.int 8) := ⟨_, PySem.W.mg_of X G v_LONGEST_PIECE, ⟨_, rfl⟩⟩
  have k_MOST_EARLIER : Kst mg "MOST_EARLIER" (.int 20) := ⟨_, PySem.W.mg_of X G v_MOST_EARLIER, ⟨_, rfl⟩⟩
  have k_WRONG_NUMBERS : Kst mg "WRONG_NUMBERS" (.int (-4)) := ⟨_, PySem.W.mg_of X G v_WRONG_NUMBERS, ⟨_, rfl⟩⟩
  have k_MOST_PATTERNS_learning : Kst mg "MOST_PATTERNS_learning" (.int 200) := ⟨_, PySem.W.mg_of X G v_MOST_PATTERNS_learning, ⟨_, rfl⟩⟩
  have k_TOO_MANY : Kst mg "TOO_MANY" (.int (-7)) := ⟨_, PySem.W.mg_of X G v_TOO_MANY, ⟨_, rfl⟩⟩
  have k_ROUND_NUMBERS : Kst mg "ROUND_NUMBERS" (.int 5) := ⟨_, PySem.W.mg_of X G v_ROUND_NUMBERS, ⟨_, rfl⟩⟩
  have k_MOST_ROUNDS : Kst mg "MOST_ROUNDS" (.int 10) := ⟨_, PySem.W.mg_of X G v_MOST_ROUNDS, ⟨_, rfl⟩⟩
  have k_MOST_SHOWN : Kst mg "MOST_SHOWN" (.int 20) := ⟨_, PySem.W.mg_of X G v_MOST_SHOWN, ⟨_, rfl⟩⟩
  have k_NONE_EARLIER : Kst mg "NONE_EARLIER" (.int (-8)) := ⟨_, PySem.W.mg_of X G v_NONE_EARLIER, ⟨_, rfl⟩⟩
  have k_LOAD : Kst mg "LOAD" (.int 0) := ⟨_, PySem.W.mg_of X G v_LOAD, ⟨_, rfl⟩⟩
  have k_NO_LIST : Kst mg "NO_LIST" (.int (-1)) := ⟨_, PySem.W.mg_of X G v_NO_LIST, ⟨_, rfl⟩⟩
  have KRC : Kst mg "ROW_CALLS" (.ref rc) := ⟨_, PySem.W.mg_of X G v_rc, rfl⟩
  have tR : ∀ H, SqT K H rc (iv [0, 2, 4, 7]) := fun H => .inr ⟨_, _, _, l_rc, rfl, rfl, by show 4 ≤ sizeLine; decide, .cons ⟨_, rfl⟩ (.cons ⟨_, rfl⟩ (.cons ⟨_, rfl⟩ (.cons ⟨_, rfl⟩ .nil)))⟩
  have kdP : KD K pl [((1 : Int), V.int 5), (3, .int 2)] := ⟨⟨_, _, l_pl, .cons ⟨⟨_, rfl⟩, (show (1 : Int) = hashInt 1 from by decide), ⟨_, rfl⟩⟩ (.cons ⟨⟨_, rfl⟩, (show (3 : Int) = hashInt 3 from by decide), ⟨_, rfl⟩⟩ (.nil))⟩, (show ([1, 3] : List Int).Nodup from by decide), s_pl⟩
  have KPL : Kst mg "PLAIN_NUMBERS" (.ref pl) := ⟨_, PySem.W.mg_of X G v_pl, rfl⟩
  refine ⟨PySem.W.fnOf "answers" "answers" (defArgs s_answers) (defBody s_answers) (defScope s_answers) .none kV_answers dc_answers pm_answers an_answers cd_answers ct_answers, fun s us hu => match us, hu with | [_], _ => .of_eq rfl, fun base _ _ => ?_⟩
  have GF : FnOk P w K mg base CX0 1 f_Fault___init__ _ ["self", "code", "place"] (spFault CF) := ok_Fault_init (k := 0) TF B
  have G_span_of : FnOk P w K mg base CX0 1 f_span_of _ ["calls", "at"] (spSpan K) := ok_span_of (k := 0) (D := D_span_of) (B := B) (KRC := KRC) (tR := tR) (KPL := KPL) (kdP := kdP)
  have G_remark_end : FnOk P w K mg base CX0 1 f_remark_end _ ["text", "place"] (spRun fun x => decide (x ≠ 10)) := ok_remark_end (k := 0) (D := D_remark_end) (B := B) (k_LINE_FEED := k_LINE_FEED)
  have G_is_digit : FnOk P w K mg base CX0 1 f_is_digit _ ["byte"] (spTest PM.isDigit) := ok_digit (k := 0) D_is_digit k_ZERO
  have G_is_letter : FnOk P w K mg base CX0 1 f_is_letter _ ["byte"] (spTest PM.isLetter) := ok_letter (k := 0) D_is_letter
  have G_is_chunk_byte : FnOk P w K mg base CX0 2 f_is_chunk_byte _ ["byte"] (spTest PM.isChunk) := ok_is_chunk_byte (k := 1) (D := D_is_chunk_byte) (B := B) (D_is_digit := D_is_digit) (G_is_digit := G_is_digit.up (by decide)) (D_is_letter := D_is_letter) (G_is_letter := G_is_letter.up (by decide)) (k_POINT := k_POINT) (k_HYPHEN := k_HYPHEN)
  have G_chunk_end : FnOk P w K mg base CX0 3 f_chunk_end _ ["text", "place"] (spRun PM.isChunk) := ok_chunk_end (k := 2) (D := D_chunk_end) (B := B) (D_is_chunk_byte := D_is_chunk_byte) (G_is_chunk_byte := G_is_chunk_byte.up (by decide))
  have G_tokens_of : FnOk P w K mg base (L2.CX P w) 4 f_tokens_of _ ["text"] (spTokens CF) := ok_tokens_of (k := 3) (D := D_tokens_of) (B := B) (D_remark_end := D_remark_end) (G_remark_end := G_remark_end.up (by decide)) (D_chunk_end := D_chunk_end) (G_chunk_end := G_chunk_end.up (by decide)) (k_LINE_FEED := k_LINE_FEED) (k_TAB := k_TAB) (k_BLANK := k_BLANK) (k_REMARK := k_REMARK) (k_SIGN := k_SIGN) (k_MOST_CHUNK := k_MOST_CHUNK) (TF := TF) (GF := GF) (hk := by decide)
  have G_spelled : FnOk P w K mg base CX0 1 f_spelled _ ["word"] spSpelled := ok_spelled (k := 0) D_spelled B
  have G_Reader_is_at : FnOk P w K mg base CX0 2 f_Reader_is_at _ ["self", "word"] (spIsAt CR) := ok_Reader_is_at (k := 1) (D := F_Reader_is_at) (B := B) (D_spelled := D_spelled) (G_spelled := G_spelled.up (by decide)) (TR := TR)
  have G_Reader_where : FnOk P w K mg base CX0 1 f_Reader_where _ ["self"] (spWhere CR) := ok_Reader_where (k := 0) (D := F_Reader_where) (B := B) (TR := TR)
  have G_Reader_pass_over : FnOk P w K mg base (L2.CX P w) 3 f_Reader_pass_over _ ["self", "word"] (spPassOver CR CF) := ok_Reader_pass_over (k := 2) (D := F_Reader_pass_over) (B := B) (D_Reader_is_at := D_Reader_is_at) (G_Reader_is_at := G_Reader_is_at.up (by decide)) (D_Reader_where := D_Reader_where) (G_Reader_where := G_Reader_where.up (by decide)) (TF := TF) (GF := GF) (hk := by decide) (TR := TR)
  have G_margin_of : FnOk P w K mg base CX0 1 f_margin_of _ ["chunk"] spMargin := ok_margin (k := 0) D_margin_of B k_ZERO k_GREATEST_MARGIN
  have G_Reader_take_chunk : FnOk P w K mg base (L2.CX P w) 3 f_Reader_take_chunk _ ["self"] (spTake CR CF) := ok_Reader_take_chunk (k := 2) (D := F_Reader_take_chunk) (B := B) (D_Reader_where := D_Reader_where) (G_Reader_where := G_Reader_where.up (by decide)) (k_SIGN := k_SIGN) (TF := TF) (GF := GF) (hk := by decide) (TR := TR)
  have G_read_margin : FnOk P w K mg base (L2.CX P w) 4 f_read_margin _ ["reader"] (spReadMargin CR CF) := ok_read_margin (k := 3) (D := D_read_margin) (B := B) (D_Reader_where := D_Reader_where) (G_Reader_where := G_Reader_where.up (by decide)) (D_margin_of := D_margin_of) (G_margin_of := G_margin_of.up (by decide)) (D_Reader_take_chunk := D_Reader_take_chunk) (G_Reader_take_chunk := G_Reader_take_chunk.up (by decide)) (TF := TF) (GF := GF) (hk := by decide) (TR := TR)
  have G_row_of : FnOk P w K mg base CX0 2 f_row_of _ ["letters"] (spRow K) := ok_row (k := 1) D_row_of B D_is_letter (G_is_letter.up (by decide)) k_FEWEST_WORD_LETTERS k_MOST_WORD_LETTERS k_POINT
  have G_word_of : FnOk P w K mg base CX0 3 f_word_of _ ["chunk"] (spAs true PM.wordOf) := ok_word (k := 2) D_word_of B D_row_of (G_row_of.up (by decide)) k_HYPHEN
  have G_without_points : FnOk P w K mg base CX0 1 f_without_points _ ["chunk"] spWithout := ok_without (k := 0) D_without_points k_POINT
  have G_pattern_of : FnOk P w K mg base CX0 2 f_pattern_of _ ["chunk"] (spAs false PM.patternOf) := ok_pattern_of (k := 1) (D := D_pattern_of) (B := B) (D_without_points := D_without_points) (G_without_points := G_without_points.up (by decide)) (D_is_letter := D_is_letter) (G_is_letter := G_is_letter.up (by decide)) (D_is_digit := D_is_digit) (G_is_digit := G_is_digit.up (by decide)) (k_ZERO := k_ZERO) (k_MOST_PIECE_LETTERS := k_MOST_PIECE_LETTERS)
  let fs1 : List (Addr × Sp) := [(f_word_of, spAs true PM.wordOf), (f_pattern_of, spAs false PM.patternOf)]
  have SW : tblS fs1 f_word_of = some (spAs true PM.wordOf) := tblS_at (fs := fs1) nd1 (p := (f_word_of, spAs true PM.wordOf)) List.mem_cons_self
  have SP : tblS fs1 f_pattern_of = some (spAs false PM.patternOf) := tblS_at (fs := fs1) nd1 (p := (f_pattern_of, spAs false PM.patternOf)) (List.mem_cons_of_mem _ List.mem_cons_self)
  have AS1 : ∀ g sp, tblS fs1 g = some sp → L2.Held P w K mg base 3 g sp := fun g sp h => by
      obtain ⟨p, hp, e1, e2⟩ := tblS_mem h
      subst e1 e2
      rcases List.mem_cons.mp hp with rfl | hp
      · exact ⟨_, _, G_word_of.up (by decide), D_word_of.F.kp, D_word_of.b⟩
      rcases List.mem_cons.mp hp with rfl | hp
      · exact ⟨_, _, G_pattern_of.up (by decide), D_pattern_of.F.kp, D_pattern_of.b⟩
      cases hp
  have G_read_named : FnOk P w K mg base (L2.CX P w) 4 f_read_named _ ["reader", "name", "most", "read_as"] (spReadNamed w (tblS fs1) CR CF) := ok_read_named (k := 3) (D := D_read_named) (B := B) (D_Reader_is_at := D_Reader_is_at) (G_Reader_is_at := G_Reader_is_at.up (by decide)) (D_Reader_where := D_Reader_where) (G_Reader_where := G_Reader_where.up (by decide)) (D_Reader_pass_over := D_Reader_pass_over) (G_Reader_pass_over := G_Reader_pass_over.up (by decide)) (D_Reader_take_chunk := D_Reader_take_chunk) (G_Reader_take_chunk := G_Reader_take_chunk.up (by decide)) (TF := TF) (GF := GF) (hk := by decide) (TR := TR) (AS := AS1)
  have G_Reader___init__ : FnOk P w K mg base CX0 1 f_Reader___init__ _ ["self", "tokens"] (spRdInit CR) := ok_Reader___init__ (k := 0) (D := F_Reader___init__) (B := B) (TR := TR)
  have G_HeldList___init__ : FnOk P w K mg base CX0 1 f_HeldList___init__ _ ["self", "left", "right", "words", "patterns"] (spHlInit CH) := ok_HeldList___init__ (k := 0) (D := F_HeldList___init__) (B := B) (TH := TH)
  have G_list_of : FnOk P w K mg base (L2.CX P w) 5 f_list_of _ ["text"] (spListOf w CH CF) := ok_list_of (k := 4) (D := D_list_of) (B := B) (D_tokens_of := D_tokens_of) (G_tokens_of := G_tokens_of.up (by decide)) (D_Reader_pass_over := D_Reader_pass_over) (G_Reader_pass_over := G_Reader_pass_over.up (by decide)) (D_read_margin := D_read_margin) (G_read_margin := G_read_margin.up (by decide)) (D_read_named := D_read_named) (G_read_named := G_read_named.up (by decide)) (D_Reader_is_at := D_Reader_is_at) (G_Reader_is_at := G_Reader_is_at.up (by decide)) (D_Reader_where := D_Reader_where) (G_Reader_where := G_Reader_where.up (by decide)) (k_MOST_BYTES := k_MOST_BYTES) (k_MOST_WORDS := k_MOST_WORDS) (k_MOST_PATTERNS_lists := k_MOST_PATTERNS_lists) (TF := TF) (GF := GF) (hk := by decide) (S := tblS fs1) (TR := TR) (TH := TH) (MR := MR) (GI := G_Reader___init__) (bI := b_Reader___init__) (MH := MH) (GH := G_HeldList___init__) (bH := b_HeldList___init__) (KW := ⟨_, D_word_of.g, rfl⟩) (SW := SW) (KP := ⟨_, D_pattern_of.g, rfl⟩) (SP := SP)
  have G_Learner_hold : FnOk P w K mg base CX0 1 f_Learner_hold _ ["self", "held"] (spHold w CL CH) := ok_Learner_hold (k := 0) (D := F_Learner_hold) (B := B) (TL := TL) (TH := TH)
  have G_load : FnOk P w K mg base CX0 6 f_load _ ["learner", "text"] (spLoad w CL CH) := ok_load (k := 5) (D := D_load) (B := B) (D_list_of := D_list_of) (G_list_of := G_list_of.up (by decide)) (D_Learner_hold := D_Learner_hold) (G_Learner_hold := G_Learner_hold.up (by decide)) (TL := TL) (TH := TH) (TF := TF)
  have G_are_level_and_length : FnOk P w K mg base CX0 1 f_are_level_and_length _ ["level", "length"] spGood := ok_are_level_and_length (k := 0) (D := D_are_level_and_length) (B := B) (k_GREATEST_LENGTH := k_GREATEST_LENGTH) (k_GREATEST_LEVEL := k_GREATEST_LEVEL)
  have G_is_round : FnOk P w K mg base CX0 2 f_is_round _ ["numbers"] spIsRound := ok_is_round (k := 1) (D := D_is_round) (B := B) (D_are_level_and_length := D_are_level_and_length) (G_are_level_and_length := G_are_level_and_length.up (by decide)) (k_GREATEST_WEIGHT := k_GREATEST_WEIGHT)
  have G_first_gap : FnOk P w K mg base CX0 1 f_first_gap _ ["begin"] spFirstGap := ok_first_gap (k := 0) (D := D_first_gap) (B := B)
  have G_pieces_with : FnOk P w K mg base CX0 2 f_pieces_with _ ["row", "gap", "length"] spPieces := ok_pieces_with (k := 1) (D := D_pieces_with) (B := B) (D_first_gap := D_first_gap) (G_first_gap := G_first_gap.up (by decide)) (k_POINT := k_POINT) (k_MOST_PIECE_LETTERS := k_MOST_PIECE_LETTERS)
  have G_tally : FnOk P w K mg base CX0 3 f_tally _ ["words", "level", "length"] (spTally w) := ok_tally (k := 2) (D := D_tally) (B := B) (D_pieces_with := D_pieces_with) (G_pieces_with := G_pieces_with.up (by decide))
  have G_single_digits : FnOk P w K mg base CX0 1 f_single_digits _ ["piece", "gap", "level"] spSingle := ok_single_digits (k := 0) (D := D_single_digits) (B := B) (k_POINT := k_POINT)
  have G_candidates_of : FnOk P w K mg base CX0 4 f_candidates_of _ ["words", "level", "length"] (spCands w) := ok_candidates_of (k := 3) (D := D_candidates_of) (B := B) (D_tally := D_tally) (G_tally := G_tally.up (by decide)) (D_single_digits := D_single_digits) (G_single_digits := G_single_digits.up (by decide))
  have G_raise_levels : FnOk P w K mg base CX0 1 f_raise_levels _ ["levels", "gap", "digits"] spRaise := ok_raise_levels (k := 0) (D := D_raise_levels) (B := B)
  have G_levels_of : FnOk P w K mg base CX0 2 f_levels_of _ ["row", "patterns"] (spLevels w) := ok_levels_of (k := 1) (D := D_levels_of) (B := B) (D_raise_levels := D_raise_levels) (G_raise_levels := G_raise_levels.up (by decide)) (D_first_gap := D_first_gap) (G_first_gap := G_first_gap.up (by decide)) (k_LONGEST_PIECE := k_LONGEST_PIECE)
  have G_gaps_within : FnOk P w K mg base CX0 1 f_gaps_within _ ["row", "left", "right"] spGapsW := ok_gaps_within (k := 0) (D := D_gaps_within) (B := B)
  have G_inner_gaps : FnOk P w K mg base CX0 3 f_inner_gaps _ ["held", "row", "patterns"] (spInner w CH) := ok_inner_gaps (k := 2) (D := D_inner_gaps) (B := B) (D_levels_of := D_levels_of) (G_levels_of := G_levels_of.up (by decide)) (D_gaps_within := D_gaps_within) (G_gaps_within := G_gaps_within.up (by decide)) (TH := TH)
  have G_parted_words : FnOk P w K mg base CX0 4 f_parted_words _ ["held", "patterns"] (spParted w CH) := ok_parted_words (k := 3) (D := D_parted_words) (B := B) (D_inner_gaps := D_inner_gaps) (G_inner_gaps := G_inner_gaps.up (by decide)) (TH := TH)
  have G_put_pattern : FnOk P w K mg base CX0 1 f_put_pattern _ ["patterns", "piece", "digits"] (spPut w) := ok_put_pattern (k := 0) (D := D_put_pattern) (B := B)
  have G_after_round : FnOk P w K mg base CX0 5 f_after_round _ ["held", "patterns", "numbers"] (spAfter w CH) := ok_after_round (k := 4) (D := D_after_round) (B := B) (D_candidates_of := D_candidates_of) (G_candidates_of := G_candidates_of.up (by decide)) (D_parted_words := D_parted_words) (G_parted_words := G_parted_words.up (by decide)) (D_put_pattern := D_put_pattern) (G_put_pattern := G_put_pattern.up (by decide))
  have G_Learner_keep : FnOk P w K mg base CX0 1 f_Learner_keep _ ["self", "patterns"] (spKeep w CL CH) := ok_Learner_keep (k := 0) (D := F_Learner_keep) (B := B) (k_MOST_EARLIER := k_MOST_EARLIER) (TL := TL)
  have G_round_of : FnOk P w K mg base CX0 6 f_round_of _ ["learner", "numbers"] (spDo w CL CH (fun ns => ns.length = 5) PM.roundCall) := ok_round_of (k := 5) (D := D_round_of) (B := B) (D_is_round := D_is_round) (G_is_round := G_is_round.up (by decide)) (D_after_round := D_after_round) (G_after_round := G_after_round.up (by decide)) (D_Learner_keep := D_Learner_keep) (G_Learner_keep := G_Learner_keep.up (by decide)) (k_WRONG_NUMBERS := k_WRONG_NUMBERS) (k_MOST_PATTERNS_learning := k_MOST_PATTERNS_learning) (k_TOO_MANY := k_TOO_MANY) (TL := TL)
  have G_rounds_in : FnOk P w K mg base CX0 3 f_rounds_in _ ["numbers"] spRoundsIn := ok_rounds_in (k := 2) (D := D_rounds_in) (B := B) (D_is_round := D_is_round) (G_is_round := G_is_round.up (by decide)) (k_ROUND_NUMBERS := k_ROUND_NUMBERS) (k_MOST_ROUNDS := k_MOST_ROUNDS)
  have G_score_of : FnOk P w K mg base CX0 1 f_score_of _ ["words"] spScoreOf := ok_score_of (k := 0) (D := D_score_of) (B := B)
  have G_score : FnOk P w K mg base CX0 5 f_score _ ["learner"] (spTell w CL CH PM.score) := ok_score (k := 4) (D := D_score) (B := B) (D_score_of := D_score_of) (G_score_of := G_score_of.up (by decide)) (D_parted_words := D_parted_words) (G_parted_words := G_parted_words.up (by decide)) (TL := TL) (TH := TH)
  have G_rounds : FnOk P w K mg base CX0 6 f_rounds _ ["learner", "numbers"] (spDo w CL CH (fun _ => True) PM.roundsCall) := ok_rounds (k := 5) (D := D_rounds) (B := B) (D_rounds_in := D_rounds_in) (G_rounds_in := G_rounds_in.up (by decide)) (D_after_round := D_after_round) (G_after_round := G_after_round.up (by decide)) (D_Learner_keep := D_Learner_keep) (G_Learner_keep := G_Learner_keep.up (by decide)) (D_score := D_score) (G_score := G_score.up (by decide)) (k_WRONG_NUMBERS := k_WRONG_NUMBERS) (k_MOST_PATTERNS_learning := k_MOST_PATTERNS_learning) (k_TOO_MANY := k_TOO_MANY) (TL := TL)
  have G_digit_bytes : FnOk P w K mg base CX0 1 f_digit_bytes _ ["digit"] spDigitBytes := ok_digitBytes (k := 0) D_digit_bytes k_ZERO
  have G_pattern_bytes : FnOk P w K mg base CX0 2 f_pattern_bytes _ ["piece", "digits"] spPatBytes := ok_pattern_bytes (k := 1) (D := D_pattern_bytes) (B := B) (D_digit_bytes := D_digit_bytes) (G_digit_bytes := G_digit_bytes.up (by decide)) (k_POINT := k_POINT)
  have G_told_pattern : FnOk P w K mg base CX0 3 f_told_pattern _ ["piece", "digits"] spTold := ok_told_pattern (k := 2) (D := D_told_pattern) (B := B) (D_pattern_bytes := D_pattern_bytes) (G_pattern_bytes := G_pattern_bytes.up (by decide))
  have G_candidates : FnOk P w K mg base CX0 5 f_candidates _ ["learner", "numbers"] (spAsk w CL CH (fun ns => ns.length = 2) PM.candidatesCall) := ok_candidates (k := 4) (D := D_candidates) (B := B) (D_are_level_and_length := D_are_level_and_length) (G_are_level_and_length := G_are_level_and_length.up (by decide)) (D_candidates_of := D_candidates_of) (G_candidates_of := G_candidates_of.up (by decide)) (D_parted_words := D_parted_words) (G_parted_words := G_parted_words.up (by decide)) (D_told_pattern := D_told_pattern) (G_told_pattern := G_told_pattern.up (by decide)) (k_WRONG_NUMBERS := k_WRONG_NUMBERS) (k_MOST_SHOWN := k_MOST_SHOWN) (TL := TL)
  have G_count_of : FnOk P w K mg base CX0 5 f_count_of _ ["learner", "chunk"] (spAsk w CL CH (fun _ => True) PM.countCall) := ok_count_of (k := 4) (D := D_count_of) (B := B) (D_pattern_of := D_pattern_of) (G_pattern_of := G_pattern_of.up (by decide)) (D_tally := D_tally) (G_tally := G_tally.up (by decide)) (D_parted_words := D_parted_words) (G_parted_words := G_parted_words.up (by decide)) (k_WRONG_NUMBERS := k_WRONG_NUMBERS) (TL := TL)
  have G_patterns_now : FnOk P w K mg base CX0 4 f_patterns_now _ ["learner"] (spTell w CL CH fun s _ => PM.patternsCall s) := ok_patterns_now (k := 3) (D := D_patterns_now) (B := B) (D_told_pattern := D_told_pattern) (G_told_pattern := G_told_pattern.up (by decide)) (TL := TL)
  have G_part : FnOk P w K mg base CX0 4 f_part _ ["learner", "letters"] (spAsk w CL CH (fun _ => True) PM.partCall) := ok_part (k := 3) (D := D_part) (B := B) (D_row_of := D_row_of) (G_row_of := G_row_of.up (by decide)) (D_inner_gaps := D_inner_gaps) (G_inner_gaps := G_inner_gaps.up (by decide)) (k_WRONG_NUMBERS := k_WRONG_NUMBERS) (TL := TL)
  have G_undo : FnOk P w K mg base CX0 1 f_undo _ ["learner"] (spChange w CL CH (fun _ => True) PM.undoCall) := ok_undo (k := 0) (D := D_undo) (B := B) (k_NONE_EARLIER := k_NONE_EARLIER) (TL := TL)
  have G_forget : FnOk P w K mg base CX0 2 f_forget _ ["learner"] (spChange w CL CH (fun s => s.held ≠ none) fun s => match s.held with | none => (s, []) | some h => PM.forgetCall s h) := ok_forget (k := 1) (D := D_forget) (B := B) (D_Learner_hold := D_Learner_hold) (G_Learner_hold := G_Learner_hold.up (by decide)) (TL := TL)
  let fs2 : List (Addr × Sp) := [(f_load, (spLoad w CL CH)), (f_round_of, (spDo w CL CH (fun ns => ns.length = 5) PM.roundCall)), (f_rounds, (spDo w CL CH (fun _ => True) PM.roundsCall)), (f_candidates, (spAsk w CL CH (fun ns => ns.length = 2) PM.candidatesCall)), (f_count_of, (spAsk w CL CH (fun _ => True) PM.countCall)), (f_patterns_now, (spTell w CL CH fun s _ => PM.patternsCall s)), (f_score, (spTell w CL CH PM.score)), (f_part, (spAsk w CL CH (fun _ => True) PM.partCall)), (f_undo, (spChange w CL CH (fun _ => True) PM.undoCall)), (f_forget, (spChange w CL CH (fun s => s.held ≠ none) fun s => match s.held with | none => (s, []) | some h => PM.forgetCall s h))]
  have S2_0 : tblS fs2 f_load = some (spLoad w CL CH) := tblS_at (fs := fs2) nd2 (p := (f_load, (spLoad w CL CH))) List.mem_cons_self
  have S2_1 : tblS fs2 f_round_of = some (spDo w CL CH (fun ns => ns.length = 5) PM.roundCall) := tblS_at (fs := fs2) nd2 (p := (f_round_of, (spDo w CL CH (fun ns => ns.length = 5) PM.roundCall))) (List.mem_cons_of_mem _ List.mem_cons_self)
  have S2_2 : tblS fs2 f_rounds = some (spDo w CL CH (fun _ => True) PM.roundsCall) := tblS_at (fs := fs2) nd2 (p := (f_rounds, (spDo w CL CH (fun _ => True) PM.roundsCall))) (List.mem_cons_of_mem _ (List.mem_cons_of_mem _ List.mem_cons_self))
  have S2_3 : tblS fs2 f_candidates = some (spAsk w CL CH (fun ns => ns.length = 2) PM.candidatesCall) := tblS_at (fs := fs2) nd2 (p := (f_candidates, (spAsk w CL CH (fun ns => ns.length = 2) PM.candidatesCall))) (List.mem_cons_of_mem _ (List.mem_cons_of_mem _ (List.mem_cons_of_mem _ List.mem_cons_self)))
  have S2_4 : tblS fs2 f_count_of = some (spAsk w CL CH (fun _ => True) PM.countCall) := tblS_at (fs := fs2) nd2 (p := (f_count_of, (spAsk w CL CH (fun _ => True) PM.countCall))) (List.mem_cons_of_mem _ (List.mem_cons_of_mem _ (List.mem_cons_of_mem _ (List.mem_cons_of_mem _ List.mem_cons_self))))
  have S2_5 : tblS fs2 f_patterns_now = some (spTell w CL CH fun s _ => PM.patternsCall s) := tblS_at (fs := fs2) nd2 (p := (f_patterns_now, (spTell w CL CH fun s _ => PM.patternsCall s))) (List.mem_cons_of_mem _ (List.mem_cons_of_mem _ (List.mem_cons_of_mem _ (List.mem_cons_of_mem _ (List.mem_cons_of_mem _ List.mem_cons_self)))))
  have S2_6 : tblS fs2 f_score = some (spTell w CL CH PM.score) := tblS_at (fs := fs2) nd2 (p := (f_score, (spTell w CL CH PM.score))) (List.mem_cons_of_mem _ (List.mem_cons_of_mem _ (List.mem_cons_of_mem _ (List.mem_cons_of_mem _ (List.mem_cons_of_mem _ (List.mem_cons_of_mem _ List.mem_cons_self))))))
  have S2_7 : tblS fs2 f_part = some (spAsk w CL CH (fun _ => True) PM.partCall) := tblS_at (fs := fs2) nd2 (p := (f_part, (spAsk w CL CH (fun _ => True) PM.partCall))) (List.mem_cons_of_mem _ (List.mem_cons_of_mem _ (List.mem_cons_of_mem _ (List.mem_cons_of_mem _ (List.mem_cons_of_mem _ (List.mem_cons_of_mem _ (List.mem_cons_of_mem _ List.mem_cons_self)))))))
  have S2_8 : tblS fs2 f_undo = some (spChange w CL CH (fun _ => True) PM.undoCall) := tblS_at (fs := fs2) nd2 (p := (f_undo, (spChange w CL CH (fun _ => True) PM.undoCall))) (List.mem_cons_of_mem _ (List.mem_cons_of_mem _ (List.mem_cons_of_mem _ (List.mem_cons_of_mem _ (List.mem_cons_of_mem _ (List.mem_cons_of_mem _ (List.mem_cons_of_mem _ (List.mem_cons_of_mem _ List.mem_cons_self))))))))
  have S2_9 : tblS fs2 f_forget = some (spChange w CL CH (fun s => s.held ≠ none) fun s => match s.held with | none => (s, []) | some h => PM.forgetCall s h) := tblS_at (fs := fs2) nd2 (p := (f_forget, (spChange w CL CH (fun s => s.held ≠ none) fun s => match s.held with | none => (s, []) | some h => PM.forgetCall s h))) (List.mem_cons_of_mem _ (List.mem_cons_of_mem _ (List.mem_cons_of_mem _ (List.mem_cons_of_mem _ (List.mem_cons_of_mem _ (List.mem_cons_of_mem _ (List.mem_cons_of_mem _ (List.mem_cons_of_mem _ (List.mem_cons_of_mem _ List.mem_cons_self)))))))))
  have AS2 : ∀ g sp, tblS fs2 g = some sp → L2.Held P w K mg base 6 g sp := fun g sp h => by
      obtain ⟨p, hp, e1, e2⟩ := tblS_mem h
      subst e1 e2
      rcases List.mem_cons.mp hp with rfl | hp
      · exact ⟨_, _, G_load.up (by decide), D_load.F.kp, D_load.b⟩
      rcases List.mem_cons.mp hp with rfl | hp
      · exact ⟨_, _, G_round_of.up (by decide), D_round_of.F.kp, D_round_of.b⟩
      rcases List.mem_cons.mp hp with rfl | hp
      · exact ⟨_, _, G_rounds.up (by decide), D_rounds.F.kp, D_rounds.b⟩
      rcases List.mem_cons.mp hp with rfl | hp
      · exact ⟨_, _, G_candidates.up (by decide), D_candidates.F.kp, D_candidates.b⟩
      rcases List.mem_cons.mp hp with rfl | hp
      · exact ⟨_, _, G_count_of.up (by decide), D_count_of.F.kp, D_count_of.b⟩
      rcases List.mem_cons.mp hp with rfl | hp
      · exact ⟨_, _, G_patterns_now.up (by decide), D_patterns_now.F.kp, D_patterns_now.b⟩
      rcases List.mem_cons.mp hp with rfl | hp
      · exact ⟨_, _, G_score.up (by decide), D_score.F.kp, D_score.b⟩
      rcases List.mem_cons.mp hp with rfl | hp
      · exact ⟨_, _, G_part.up (by decide), D_part.F.kp, D_part.b⟩
      rcases List.mem_cons.mp hp with rfl | hp
      · exact ⟨_, _, G_undo.up (by decide), D_undo.F.kp, D_undo.b⟩
      rcases List.mem_cons.mp hp with rfl | hp
      · exact ⟨_, _, G_forget.up (by decide), D_forget.F.kp, D_forget.b⟩
      cases hp
  have TC : CallsT w CL CH (tblS fs2) cs bs f_load f_round_of f_rounds f_candidates f_count_of f_patterns_now f_score f_part f_undo f_forget K mg := ⟨⟨_, PySem.W.mg_of X G v_cs, rfl⟩, ⟨_, PySem.W.mg_of X G v_bs, rfl⟩, ⟨⟨_, _, l_cs, .cons ⟨⟨_, rfl⟩, (show (0 : Int) = hashInt 0 from by decide), rfl⟩ (.cons ⟨⟨_, rfl⟩, (show (1 : Int) = hashInt 1 from by decide), rfl⟩ (.cons ⟨⟨_, rfl⟩, (show (2 : Int) = hashInt 2 from by decide), rfl⟩ (.cons ⟨⟨_, rfl⟩, (show (3 : Int) = hashInt 3 from by decide), rfl⟩ (.cons ⟨⟨_, rfl⟩, (show (4 : Int) = hashInt 4 from by decide), rfl⟩ (.cons ⟨⟨_, rfl⟩, (show (7 : Int) = hashInt 7 from by decide), rfl⟩ (.nil))))))⟩, (show ([0, 1, 2, 3, 4, 7] : List Int).Nodup from by decide), s_cs⟩, ⟨⟨_, _, l_bs, .cons ⟨⟨_, rfl⟩, (show (5 : Int) = hashInt 5 from by decide), rfl⟩ (.cons ⟨⟨_, rfl⟩, (show (6 : Int) = hashInt 6 from by decide), rfl⟩ (.cons ⟨⟨_, rfl⟩, (show (8 : Int) = hashInt 8 from by decide), rfl⟩ (.cons ⟨⟨_, rfl⟩, (show (9 : Int) = hashInt 9 from by decide), rfl⟩ (.nil))))⟩, (show ([5, 6, 8, 9] : List Int).Nodup from by decide), s_bs⟩, S2_0, S2_1, S2_2, S2_3, S2_4, S2_5, S2_6, S2_7, S2_8, S2_9⟩
  have G_answer_of : FnOk P w K mg base CX0 7 f_answer_of _ ["learner", "call", "numbers"] (spAnswerOf w CL CH) := ok_answer_of (k := 6) (D := D_answer_of) (B := B) (k_LOAD := k_LOAD) (k_NO_LIST := k_NO_LIST) (TL := TL) (TC := TC) (AS := AS2)
  have G_Learner___init__ : FnOk P w K mg base CX0 1 f_Learner___init__ _ ["self"] (spLnInit w CL CH) := ok_Learner___init__ (k := 0) (D := F_Learner___init__) (B := B) (TL := TL)
  have G_answers : FnOk P w K mg base CX0 8 fa _ ["calls"] (spAnswers K) := ok_answers (k := 7) (D := D_answers) (B := B) (D_span_of := D_span_of) (G_span_of := G_span_of.up (by decide)) (D_answer_of := D_answer_of) (G_answer_of := G_answer_of.up (by decide)) (TL := TL) (ML := ML) (GI := G_Learner___init__) (bI := b_Learner___init__) (hk := by decide)
  exact G_answers
end PR
set_option Elab.async false
set_option linter.all false
open PySem PySem.W PyProof.Rows
theorem PR.math {l : List Int} (h : PyVahypb.answers_asked l = true) : PM.wfc l.length l ∧ PM.answers l = PyVahypb.answers l ∧ (PM.answers l).length ≤ 10000000 := PM.math h
set_option maxRecDepth 100000 in
set_option maxHeartbeats 8000000 in
theorem PySem.Challenge.cw_partrounds_s01_answers_holds : PySem.Challenge.rw_partrounds_s01_answers.Holds := by
  w_on; k_headS; (case hw => exact ⟨[.list [.int 6]], by decide +kernel, by decide +kernel⟩)
  k_fillS
  refine L2.walk_specK (r := PySem.Challenge.rw_partrounds_s01_answers) (k := 8) (CX := L2.CX0) (ps := ["calls"]) (sp := PR.spAnswers) (by decide +kernel) rfl rfl ⟨rfl, by decide, by decide⟩ (fun w h Y => PySem.W.kIn_of Y) ?F ?S (fun _ _ _ _ z => z)
  case F =>
    intro w mg fa h Y KX G hmg
    refine' PR.all_mk KX G hmg ?n_Fault ?n_HeldList ?n_Reader ?n_Learner ?a_span_of ?l_span_of ?c_span_of ?k_span_of_ ?a_remark_end ?l_remark_end ?c_remark_end ?k_remark_end_ ?a_is_digit ?l_is_digit ?c_is_digit ?k_is_digit_ ?a_is_letter ?l_is_letter ?c_is_letter ?k_is_letter_ ?a_is_chunk_byte ?l_is_chunk_byte ?c_is_chunk_byte ?k_is_chunk_byte_ ?a_chunk_end ?l_chunk_end ?c_chunk_end ?k_chunk_end_ ?a_tokens_of ?l_tokens_of ?c_tokens_of ?k_tokens_of_ ?a_spelled ?l_spelled ?c_spelled ?k_spelled_ ?a_Reader_is_at ?i_Reader_is_at ?l_Reader_is_at ?c_Reader_is_at ?k_Reader_is_at_ ?a_Reader_where ?i_Reader_where ?l_Reader_where ?c_Reader_where ?k_Reader_where_ ?a_Reader_pass_over ?i_Reader_pass_over ?l_Reader_pass_over ?c_Reader_pass_over ?k_Reader_pass_over_ ?a_margin_of ?l_margin_of ?c_margin_of ?k_margin_of_ ?a_Reader_take_chunk ?i_Reader_take_chunk ?l_Reader_take_chunk ?c_Reader_take_chunk ?k_Reader_take_chunk_ ?a_read_margin ?l_read_margin ?c_read_margin ?k_read_margin_ ?a_row_of ?l_row_of ?c_row_of ?k_row_of_ ?a_word_of ?l_word_of ?c_word_of ?k_word_of_ ?a_without_points ?l_without_points ?c_without_points ?k_without_points_ ?a_pattern_of ?l_pattern_of ?c_pattern_of ?k_pattern_of_ ?a_read_named ?l_read_named ?c_read_named ?k_read_named_ ?a_Reader___init__ ?i_Reader___init__ ?l_Reader___init__ ?c_Reader___init__ ?k_Reader___init___ ?a_HeldList___init__ ?i_HeldList___init__ ?l_HeldList___init__ ?c_HeldList___init__ ?k_HeldList___init___ ?a_list_of ?l_list_of ?c_list_of ?k_list_of_ ?a_Learner_hold ?i_Learner_hold ?l_Learner_hold ?c_Learner_hold ?k_Learner_hold_ ?a_load ?l_load ?c_load ?k_load_ ?a_are_level_and_length ?l_are_level_and_length ?c_are_level_and_length ?k_are_level_and_length_ ?a_is_round ?l_is_round ?c_is_round ?k_is_round_ ?a_first_gap ?l_first_gap ?c_first_gap ?k_first_gap_ ?a_pieces_with ?l_pieces_with ?c_pieces_with ?k_pieces_with_ ?a_tally ?l_tally ?c_tally ?k_tally_ ?a_single_digits ?l_single_digits ?c_single_digits ?k_single_digits_ ?a_candidates_of ?l_candidates_of ?c_candidates_of ?k_candidates_of_ ?a_raise_levels ?l_raise_levels ?c_raise_levels ?k_raise_levels_ ?a_levels_of ?l_levels_of ?c_levels_of ?k_levels_of_ ?a_gaps_within ?l_gaps_within ?c_gaps_within ?k_gaps_within_ ?a_inner_gaps ?l_inner_gaps ?c_inner_gaps ?k_inner_gaps_ ?a_parted_words ?l_parted_words ?c_parted_words ?k_parted_words_ ?a_put_pattern ?l_put_pattern ?c_put_pattern ?k_put_pattern_ ?a_after_round ?l_after_round ?c_after_round ?k_after_round_ ?a_Learner_keep ?i_Learner_keep ?l_Learner_keep ?c_Learner_keep ?k_Learner_keep_ ?a_round_of ?l_round_of ?c_round_of ?k_round_of_ ?a_rounds_in ?l_rounds_in ?c_rounds_in ?k_rounds_in_ ?a_score_of ?l_score_of ?c_score_of ?k_score_of_ ?a_score ?l_score ?c_score ?k_score_ ?a_rounds ?l_rounds ?c_rounds ?k_rounds_ ?a_digit_bytes ?l_digit_bytes ?c_digit_bytes ?k_digit_bytes_ ?a_pattern_bytes ?l_pattern_bytes ?c_pattern_bytes ?k_pattern_bytes_ ?a_told_pattern ?l_told_pattern ?c_told_pattern ?k_told_pattern_ ?a_candidates ?l_candidates ?c_candidates ?k_candidates_ ?a_count_of ?l_count_of ?c_count_of ?k_count_of_ ?a_patterns_now ?l_patterns_now ?c_patterns_now ?k_patterns_now_ ?a_part ?l_part ?c_part ?k_part_ ?a_undo ?l_undo ?c_undo ?k_undo_ ?a_forget ?l_forget ?c_forget ?k_forget_ ?a_answer_of ?l_answer_of ?c_answer_of ?k_answer_of_ ?a_Learner___init__ ?i_Learner___init__ ?l_Learner___init__ ?c_Learner___init__ ?k_Learner___init___ ?a_answers ?l_answers ?c_answers ?k_answers_ ?a_Fault___init__ ?t_Fault___init__ ?l_Fault___init__ ?c_Fault___init__ ?k_Fault___init___ ?xF ?saF ?eF ?tF ?kF ?nCF ?nPF ?gaF ?ggF ?hdF ?iF ?sF ?vF ?pg_CH ?hd_CH ?po_CH ?sa_CH ?mk_CH ?kc_CH ?na_CH_left ?na_CH_right ?na_CH_words ?na_CH_patterns ?pg_CR ?hd_CR ?po_CR ?sa_CR ?mk_CR ?kc_CR ?na_CR_tokens ?na_CR_spot ?pg_CL ?hd_CL ?po_CL ?sa_CL ?mk_CL ?kc_CL ?na_CL_held ?na_CL_patterns ?na_CL_earlier ?z_len ?z_max ?z_min ?z_sum ?z_all ?z_ord ?z_tuple ?z_list ?z_range ?z_enumerate ?z_zip ?z_Exception ?v_LINE_FEED ?v_ZERO ?v_POINT ?v_HYPHEN ?v_TAB ?v_BLANK ?v_REMARK ?v_SIGN ?v_MOST_CHUNK ?v_GREATEST_MARGIN ?v_FEWEST_WORD_LETTERS ?v_MOST_WORD_LETTERS ?v_MOST_PIECE_LETTERS ?v_MOST_BYTES ?v_MOST_WORDS ?v_MOST_PATTERNS_lists ?v_GREATEST_LENGTH ?v_GREATEST_LEVEL ?v_GREATEST_WEIGHT ?v_LONGEST_PIECE ?v_MOST_EARLIER ?v_WRONG_NUMBERS ?v_MOST_PATTERNS_learning ?v_TOO_MANY ?v_ROUND_NUMBERS ?v_MOST_ROUNDS ?v_MOST_SHOWN ?v_NONE_EARLIER ?v_LOAD ?v_NO_LIST ?v_rc ?l_rc ?v_pl ?l_pl ?s_pl ?v_cs ?l_cs ?s_cs ?v_bs ?l_bs ?s_bs ?nd1 ?nd2
    (case n_Fault => k_is)
    (case n_HeldList => k_is)
    (case n_Reader => k_is)
    (case n_Learner => k_is)
    (case a_span_of => k_is)
    (case l_span_of => k_is)
    (case c_span_of => k_is)
    (case k_span_of_ => k_is)
    (case a_remark_end => k_is)
    (case l_remark_end => k_is)
    (case c_remark_end => k_is)
    (case k_remark_end_ => k_is)
    (case a_is_digit => k_is)
    (case l_is_digit => k_is)
    (case c_is_digit => k_is)
    (case k_is_digit_ => k_is)
    (case a_is_letter => k_is)
    (case l_is_letter => k_is)
    (case c_is_letter => k_is)
    (case k_is_letter_ => k_is)
    (case a_is_chunk_byte => k_is)
    (case l_is_chunk_byte => k_is)
    (case c_is_chunk_byte => k_is)
    (case k_is_chunk_byte_ => k_is)
    (case a_chunk_end => k_is)
    (case l_chunk_end => k_is)
    (case c_chunk_end => k_is)
    (case k_chunk_end_ => k_is)
    (case a_tokens_of => k_is)
    (case l_tokens_of => k_is)
    (case c_tokens_of => k_is)
    (case k_tokens_of_ => k_is)
    (case a_spelled => k_is)
    (case l_spelled => k_is)
    (case c_spelled => k_is)
    (case k_spelled_ => k_is)
    (case a_Reader_is_at => k_is)
    (case i_Reader_is_at => k_is)
    (case l_Reader_is_at => k_is)
    (case c_Reader_is_at => k_is)
    (case k_Reader_is_at_ => k_is)
    (case a_Reader_where => k_is)
    (case i_Reader_where => k_is)
    (case l_Reader_where => k_is)
    (case c_Reader_where => k_is)
    (case k_Reader_where_ => k_is)
    (case a_Reader_pass_over => k_is)
    (case i_Reader_pass_over => k_is)
    (case l_Reader_pass_over => k_is)
    (case c_Reader_pass_over => k_is)
    (case k_Reader_pass_over_ => k_is)
    (case a_margin_of => k_is)
    (case l_margin_of => k_is)
    (case c_margin_of => k_is)
    (case k_margin_of_ => k_is)
    (case a_Reader_take_chunk => k_is)
    (case i_Reader_take_chunk => k_is)
    (case l_Reader_take_chunk => k_is)
    (case c_Reader_take_chunk => k_is)
    (case k_Reader_take_chunk_ => k_is)
    (case a_read_margin => k_is)
    (case l_read_margin => k_is)
    (case c_read_margin => k_is)
    (case k_read_margin_ => k_is)
    (case a_row_of => k_is)
    (case l_row_of => k_is)
    (case c_row_of => k_is)
    (case k_row_of_ => k_is)
    (case a_word_of => k_is)
    (case l_word_of => k_is)
    (case c_word_of => k_is)
    (case k_word_of_ => k_is)
    (case a_without_points => k_is)
    (case l_without_points => k_is)
    (case c_without_points => k_is)
    (case k_without_points_ => k_is)
    (case a_pattern_of => k_is)
    (case l_pattern_of => k_is)
    (case c_pattern_of => k_is)
    (case k_pattern_of_ => k_is)
    (case a_read_named => k_is)
    (case l_read_named => k_is)
    (case c_read_named => k_is)
    (case k_read_named_ => k_is)
    (case a_Reader___init__ => k_is)
    (case i_Reader___init__ => k_is)
    (case l_Reader___init__ => k_is)
    (case c_Reader___init__ => k_is)
    (case k_Reader___init___ => k_is)
    (case a_HeldList___init__ => k_is)
    (case i_HeldList___init__ => k_is)
    (case l_HeldList___init__ => k_is)
    (case c_HeldList___init__ => k_is)
    (case k_HeldList___init___ => k_is)
    (case a_list_of => k_is)
    (case l_list_of => k_is)
    (case c_list_of => k_is)
    (case k_list_of_ => k_is)
    (case a_Learner_hold => k_is)
    (case i_Learner_hold => k_is)
    (case l_Learner_hold => k_is)
    (case c_Learner_hold => k_is)
    (case k_Learner_hold_ => k_is)
    (case a_load => k_is)
    (case l_load => k_is)
    (case c_load => k_is)
    (case k_load_ => k_is)
    (case a_are_level_and_length => k_is)
    (case l_are_level_and_length => k_is)
    (case c_are_level_and_length => k_is)
    (case k_are_level_and_length_ => k_is)
    (case a_is_round => k_is)
    (case l_is_round => k_is)
    (case c_is_round => k_is)
    (case k_is_round_ => k_is)
    (case a_first_gap => k_is)
    (case l_first_gap => k_is)
    (case c_first_gap => k_is)
    (case k_first_gap_ => k_is)
    (case a_pieces_with => k_is)
    (case l_pieces_with => k_is)
    (case c_pieces_with => k_is)
    (case k_pieces_with_ => k_is)
    (case a_tally => k_is)
    (case l_tally => k_is)
    (case c_tally => k_is)
    (case k_tally_ => k_is)
    (case a_single_digits => k_is)
    (case l_single_digits => k_is)
    (case c_single_digits => k_is)
    (case k_single_digits_ => k_is)
    (case a_candidates_of => k_is)
    (case l_candidates_of => k_is)
    (case c_candidates_of => k_is)
    (case k_candidates_of_ => k_is)
    (case a_raise_levels => k_is)
    (case l_raise_levels => k_is)
    (case c_raise_levels => k_is)
    (case k_raise_levels_ => k_is)
    (case a_levels_of => k_is)
    (case l_levels_of => k_is)
    (case c_levels_of => k_is)
    (case k_levels_of_ => k_is)
    (case a_gaps_within => k_is)
    (case l_gaps_within => k_is)
    (case c_gaps_within => k_is)
    (case k_gaps_within_ => k_is)
    (case a_inner_gaps => k_is)
    (case l_inner_gaps => k_is)
    (case c_inner_gaps => k_is)
    (case k_inner_gaps_ => k_is)
    (case a_parted_words => k_is)
    (case l_parted_words => k_is)
    (case c_parted_words => k_is)
    (case k_parted_words_ => k_is)
    (case a_put_pattern => k_is)
    (case l_put_pattern => k_is)
    (case c_put_pattern => k_is)
    (case k_put_pattern_ => k_is)
    (case a_after_round => k_is)
    (case l_after_round => k_is)
    (case c_after_round => k_is)
    (case k_after_round_ => k_is)
    (case a_Learner_keep => k_is)
    (case i_Learner_keep => k_is)
    (case l_Learner_keep => k_is)
    (case c_Learner_keep => k_is)
    (case k_Learner_keep_ => k_is)
    (case a_round_of => k_is)
    (case l_round_of => k_is)
    (case c_round_of => k_is)
    (case k_round_of_ => k_is)
    (case a_rounds_in => k_is)
    (case l_rounds_in => k_is)
    (case c_rounds_in => k_is)
    (case k_rounds_in_ => k_is)
    (case a_score_of => k_is)
    (case l_score_of => k_is)
    (case c_score_of => k_is)
    (case k_score_of_ => k_is)
    (case a_score => k_is)
    (case l_score => k_is)
    (case c_score => k_is)
    (case k_score_ => k_is)
    (case a_rounds => k_is)
    (case l_rounds => k_is)
    (case c_rounds => k_is)
    (case k_rounds_ => k_is)
    (case a_digit_bytes => k_is)
    (case l_digit_bytes => k_is)
    (case c_digit_bytes => k_is)
    (case k_digit_bytes_ => k_is)
    (case a_pattern_bytes => k_is)
    (case l_pattern_bytes => k_is)
    (case c_pattern_bytes => k_is)
    (case k_pattern_bytes_ => k_is)
    (case a_told_pattern => k_is)
    (case l_told_pattern => k_is)
    (case c_told_pattern => k_is)
    (case k_told_pattern_ => k_is)
    (case a_candidates => k_is)
    (case l_candidates => k_is)
    (case c_candidates => k_is)
    (case k_candidates_ => k_is)
    (case a_count_of => k_is)
    (case l_count_of => k_is)
    (case c_count_of => k_is)
    (case k_count_of_ => k_is)
    (case a_patterns_now => k_is)
    (case l_patterns_now => k_is)
    (case c_patterns_now => k_is)
    (case k_patterns_now_ => k_is)
    (case a_part => k_is)
    (case l_part => k_is)
    (case c_part => k_is)
    (case k_part_ => k_is)
    (case a_undo => k_is)
    (case l_undo => k_is)
    (case c_undo => k_is)
    (case k_undo_ => k_is)
    (case a_forget => k_is)
    (case l_forget => k_is)
    (case c_forget => k_is)
    (case k_forget_ => k_is)
    (case a_answer_of => k_is)
    (case l_answer_of => k_is)
    (case c_answer_of => k_is)
    (case k_answer_of_ => k_is)
    (case a_Learner___init__ => k_is)
    (case i_Learner___init__ => k_is)
    (case l_Learner___init__ => k_is)
    (case c_Learner___init__ => k_is)
    (case k_Learner___init___ => k_is)
    (case a_answers => k_is)
    (case l_answers => k_is)
    (case c_answers => k_is)
    (case k_answers_ => k_is)
    (case a_Fault___init__ => k_is)
    (case t_Fault___init__ => k_is)
    (case l_Fault___init__ => k_is)
    (case c_Fault___init__ => k_is)
    (case k_Fault___init___ => k_is)
    (case xF => k_is)
    (case saF => k_is)
    (case eF => k_is)
    (case tF => k_is)
    (case kF => k_is)
    (case nCF => k_is)
    (case nPF => k_is)
    (case gaF => k_is)
    (case ggF => k_is)
    (case hdF => k_is)
    (case iF => k_is)
    (case sF => first | rfl | k_is)
    (case vF => k_is)
    (case pg_CH => k_is)
    (case hd_CH => k_is)
    (case po_CH => k_is)
    (case sa_CH => k_is)
    (case mk_CH => k_is)
    (case kc_CH => k_is)
    (case na_CH_left => k_is)
    (case na_CH_right => k_is)
    (case na_CH_words => k_is)
    (case na_CH_patterns => k_is)
    (case pg_CR => k_is)
    (case hd_CR => k_is)
    (case po_CR => k_is)
    (case sa_CR => k_is)
    (case mk_CR => k_is)
    (case kc_CR => k_is)
    (case na_CR_tokens => k_is)
    (case na_CR_spot => k_is)
    (case pg_CL => k_is)
    (case hd_CL => k_is)
    (case po_CL => k_is)
    (case sa_CL => k_is)
    (case mk_CL => k_is)
    (case kc_CL => k_is)
    (case na_CL_held => k_is)
    (case na_CL_patterns => k_is)
    (case na_CL_earlier => k_is)
    (case z_len => k_is)
    (case z_max => k_is)
    (case z_min => k_is)
    (case z_sum => k_is)
    (case z_all => k_is)
    (case z_ord => k_is)
    (case z_tuple => k_is)
    (case z_list => k_is)
    (case z_range => k_is)
    (case z_enumerate => k_is)
    (case z_zip => k_is)
    (case z_Exception => k_is)
    (case v_LINE_FEED => k_is)
    (case v_ZERO => k_is)
    (case v_POINT => k_is)
    (case v_HYPHEN => k_is)
    (case v_TAB => k_is)
    (case v_BLANK => k_is)
    (case v_REMARK => k_is)
    (case v_SIGN => k_is)
    (case v_MOST_CHUNK => k_is)
    (case v_GREATEST_MARGIN => k_is)
    (case v_FEWEST_WORD_LETTERS => k_is)
    (case v_MOST_WORD_LETTERS => k_is)
    (case v_MOST_PIECE_LETTERS => k_is)
    (case v_MOST_BYTES => k_is)
    (case v_MOST_WORDS => k_is)
    (case v_MOST_PATTERNS_lists => k_is)
    (case v_GREATEST_LENGTH => k_is)
    (case v_GREATEST_LEVEL => k_is)
    (case v_GREATEST_WEIGHT => k_is)
    (case v_LONGEST_PIECE => k_is)
    (case v_MOST_EARLIER => k_is)
    (case v_WRONG_NUMBERS => k_is)
    (case v_MOST_PATTERNS_learning => k_is)
    (case v_TOO_MANY => k_is)
    (case v_ROUND_NUMBERS => k_is)
    (case v_MOST_ROUNDS => k_is)
    (case v_MOST_SHOWN => k_is)
    (case v_NONE_EARLIER => k_is)
    (case v_LOAD => k_is)
    (case v_NO_LIST => k_is)
    (case v_rc => k_is)
    (case l_rc => k_is)
    (case v_pl => k_is)
    (case l_pl => k_is)
    (case s_pl => decide)
    (case v_cs => k_is)
    (case l_cs => k_is)
    (case s_cs => decide)
    (case v_bs => k_is)
    (case l_bs => k_is)
    (case s_bs => decide)
    (case nd1 => decide)
    (case nd2 => decide)
  case S =>
    intro K H xs a hO hwi hask hx
    cases hx with
    | cons h1 h2 =>
      cases h2
      cases h1 with
      | lst hs ha =>
        have e := L2.ints_dw a.1 _ ha
        subst e
        have q : (Codec.inLen 0 17000 a.1 && a.1.all (Codec.inInt (-1000000000000000000) 1000000000000000000) && true) = true := hwi
        rw [Bool.and_eq_true, Bool.and_eq_true] at q
        obtain ⟨m1, m2, m3⟩ := PR.math (l := a.1) hask
        refine ⟨_, a.1, rfl, hs, (Codec.inNat_iff.mp q.1.1).2, m1, m3, fun H' p hp => .lst (L2.SqL.of ?_) (L2.dw_ints _)⟩
        rw [hp]
        show some (L2.HO.lst (List.map L2.V.int (PM.answers a.1))) = _
        rw [m2]
        rfl
