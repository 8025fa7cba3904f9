import PyProof.Rows.All
import VapaqfNeutral
import Wide.All
import OpenK.AllK
import Wide.FinOn
import KE.KStateDown
import KE.OsGo
import HandS.ForSpec
import HandS.Comp
import HandS.Iter
import HandS.Walk
import HandS.TryMany
import HandS.Defaults
import HandS.Flow
import HandS.IsInst
import HandS.HeadHook2
import HandS.Head4
import KE.LtData
import PySem.Challenge.RW_treestream_s01_answers
import KE.GoesMore
section
set_option Elab.async false
set_option linter.all false
/-! The mirror of the stream: what stands round the place that the stream has come to, and the search; and that the specification's machine does the same. -/
namespace TS
open Vapaqa (Text Name Tree Row Step Place Fault Ask isSmall isDigit isSign isName textBefore)
open Vapaqf (Head Test Way Plan Token Machine Frame Out Mode faultOf matches_ modeIn valueBegins headComes push pushAll)

/-! ### 1. The mirror -/
structure Fr where
  isList : Bool
  begun : Nat
  name : Name
  waits : Bool
structure Shp where
  frames : List Fr
  most : Nat
  entries : Nat
def Fr.fresh (l : Bool) : Fr := ⟨l, 0, [], false⟩
def Fr.takesTree (f : Fr) : Bool := if f.isList = true then decide (f.begun < 10) else f.waits
def Fr.takesName (f : Fr) (n : Name) : Bool := if (f.isList || (f.waits || f.begun == 8)) = true then false else f.name.isEmpty || textBefore f.name n
def Fr.takesEnd (f : Fr) (l : Bool) : Bool := if f.isList = true then l else !l && !f.waits
def Fr.beginWithin (f : Fr) : Fr := { f with begun := f.begun + 1, waits := false }
def Fr.beginField (f : Fr) (n : Name) : Fr := { f with name := n, waits := true }
def Fr.way (f : Fr) : Step := if f.isList = true then .item (f.begun - 1) else .name f.name
def Shp.fresh : Shp := ⟨[], 0, 0⟩
def Shp.isWhole (s : Shp) : Bool := decide (0 < s.entries) && s.frames.isEmpty
def Shp.hasRoom (s : Shp) : Bool := decide (s.entries < 40) && decide (s.frames.length < 6)
def Shp.awaitsName (s : Shp) : Bool := match s.frames with
  | [] => false
  | f :: _ => !f.isList && !f.waits
def Shp.awaitsComma (s : Shp) : Bool := match s.frames with
  | [] => false
  | f :: _ => decide (0 < f.begun) && !f.waits
def begins : Token → Bool
  | .leaf _ => true
  | .openList => true
  | .openRecord => true
  | _ => false
def Shp.canCome (s : Shp) (t : Token) : Bool := match s.frames with
  | [] => s.entries == 0 && begins t
  | f :: _ => match t with
    | .name n => s.hasRoom && f.takesName n
    | .close l => f.takesEnd l
    | _ => s.hasRoom && f.takesTree
/-- the frames behind the beginning of a tree: the innermost one has one more -/
def within : List Fr → List Fr
  | [] => []
  | f :: r => f.beginWithin :: r
def placeOf (fs : List Fr) : Place := (fs.map Fr.way).reverse
def opened (t : Token) (fs : List Fr) : List Fr := match t with
  | .openList => .fresh true :: fs
  | .openRecord => .fresh false :: fs
  | _ => fs
def mostOf (t : Token) (most n : Nat) : Nat := match t with
  | .openList => max most (n + 1)
  | .openRecord => max most (n + 1)
  | _ => most
def Shp.beginTree (s : Shp) (t : Token) : Shp := ⟨opened t (within s.frames), mostOf t s.most (within s.frames).length, s.entries + 1⟩
def Shp.come (s : Shp) (t : Token) : Option (Shp × Option Place) := if s.canCome t = true then (match t with
    | .name n => some ({ s with frames := match s.frames with
      | [] => []
      | f :: r => f.beginField n :: r }, none)
    | .close _ => some ({ s with frames := s.frames.tail }, none)
    | t => some (s.beginTree t, some (placeOf (within s.frames))))
  else none

structure Srch where
  halted : Bool
  results : Nat
  total : Int
  chain : Option (Nat × Place)
  odd : Option Place
def Srch.fresh (p : Plan) : Srch := ⟨p.limit == some 0, 0, 0, none, none⟩
def reached : List Way → Place → Bool
  | w :: ws, s :: q => matches_ w s && reached ws q
  | _, _ => true
def headOf : Token → Head
  | .leaf v => .leaf v
  | .openList => .list
  | _ => .record
def faultN (w : Way) (h : Head) : Nat := (faultOf w h).getD 0
def toldPlace (q : Place) : List Int := Vapaqf.toldText (Vapaqa.placeText q)
def Srch.fault (p : Plan) (s : Srch) (n : Nat) (q : Place) : Srch × List Int :=
  if n = 0 then (s, [])
  else if p.tried = true then ({ s with halted := true }, [])
  else ({ s with halted := true, chain := some (n, q) }, if p.gather = 0 then 2 :: (n : Int) :: toldPlace q else [])
def Srch.add (s : Srch) (q : Place) (h : Head) : Srch := match h with
  | .leaf (.num _ z _) => { s with total := s.total + z }
  | _ => if s.odd.isNone = true then { s with odd := some q } else s
def Srch.result (p : Plan) (s : Srch) (q : Place) (h : Head) : Srch × List Int :=
  (Srch.add { s with results := s.results + 1, halted := p.limit == some (s.results + 1) } q h, if p.gather = 0 then 1 :: (toldPlace q ++ Vapaqf.toldText (Vapaqf.headText h)) else [])
def Srch.meet (p : Plan) (s : Srch) (q : Place) (h : Head) : Srch × List Int :=
  if (s.halted || !reached p.steps q) = true then (s, [])
  else match p.steps[q.length]? with
    | some w => s.fault p (faultN w h) q
    | none => if (decide (p.steps.length < q.length) && !p.deep) = true then (s, [])
      else if (p.test.any fun t => !Vapaqf.holds t h) = true then (s, [])
      else s.result p q h
def Srch.endFault (p : Plan) (s : Srch) : Option (Nat × Place) := match s.chain with
  | some f => some f
  | none => if p.gather = 2 then (match s.odd with
    | some q => some (4, q)
    | none => if s.total < -1000000000 ∨ 1000000000 < s.total then some (6, []) else none) else none
def Srch.finish (p : Plan) (s : Srch) : List Int := match s.endFault p with
  | some (n, q) => 2 :: (n : Int) :: toldPlace q
  | none => if p.gather = 1 then [1, (s.results : Int)] else if p.gather = 2 then [1, s.total] else [0, (s.results : Int)]

/-! ### 2. What holds of the mirror's states -/
def FrOk (f : Fr) : Prop := if f.isList = true then f.begun ≤ 10 ∧ f.waits = false ∧ f.name = [] else f.begun ≤ 8 ∧ (f.name = [] ↔ f.begun = 0 ∧ f.waits = false) ∧ (f.waits = true → f.begun < 8)
def kindHead (f : Fr) : Head := if f.isList = true then .list else .record
/-- on the way, no open list or record is one that the next step can't take -/
def Fits (p : Plan) : List Fr → Prop
  | [] => True
  | f :: r => (reached p.steps (placeOf r) = true → ∀ w, p.steps[r.length]? = some w → faultOf w (kindHead f) = none) ∧ Fits p r
structure Shp.Ok (s : Shp) : Prop where
  frs : ∀ f ∈ s.frames, FrOk f
  outer : ∀ f ∈ s.frames.tail, 1 ≤ f.begun
  some_ : s.frames ≠ [] → 1 ≤ s.entries
  most : s.frames.length ≤ s.most ∧ s.most ≤ 6
  few : s.entries ≤ 40
theorem Shp.Ok.fresh : Shp.fresh.Ok := ⟨fun f h => (nomatch h), fun f h => (nomatch h), fun h => (h rfl).elim, ⟨Nat.le_refl _, by decide⟩, by decide⟩
theorem placeOf_length (fs : List Fr) : (placeOf fs).length = fs.length := by simp [placeOf]
theorem placeOf_cons (f : Fr) (r : List Fr) : placeOf (f :: r) = placeOf r ++ [f.way] := by simp [placeOf]
theorem reached_snoc : ∀ (ws : List Way) (q : Place) (s : Step), reached ws (q ++ [s]) = (reached ws q && (match ws[q.length]? with
    | some w => matches_ w s
    | none => true))
  | [], [], s => by rfl
  | [], a :: q, s => by rfl
  | w :: ws, [], s => by
    show (matches_ w s && reached ws []) = (reached (w :: ws) [] && _)
    cases ws <;> simp [reached]
  | w :: ws, a :: q, s => by
    show (matches_ w a && reached ws (q ++ [s])) = (matches_ w a && reached ws q && _)
    rw [reached_snoc ws q s, Bool.and_assoc]
    rfl

/-! ### 3. The specification's machine does the same -/
def modeAt (p : Plan) (q : Place) : Mode := q.foldl (modeIn p) (.at_ 0)
theorem modeAt_snoc (p : Plan) (q : Place) (s : Step) : modeAt p (q ++ [s]) = modeIn p (modeAt p q) s := by simp [modeAt, List.foldl_append]
theorem fold_off (p : Plan) : ∀ q : Place, q.foldl (modeIn p) .off = .off
  | [] => rfl
  | _ :: q => fold_off p q
theorem fold_below (p : Plan) : ∀ q : Place, q.foldl (modeIn p) .below = .below
  | [] => rfl
  | _ :: q => fold_below p q
theorem fold_at (p : Plan) : ∀ (q : Place) (k : Nat), k ≤ p.steps.length → q.foldl (modeIn p) (.at_ k) = if reached (p.steps.drop k) q = true then (if k + q.length ≤ p.steps.length then .at_ (k + q.length) else if p.deep = true then .below else .off) else .off
  | [], k, hk => by
    have e : reached (p.steps.drop k) [] = true := by cases p.steps.drop k <;> rfl
    show Mode.at_ k = _
    rw [if_pos e, if_pos (by simpa using hk)]
    rfl
  | s :: q, k, hk => by
    show q.foldl (modeIn p) (modeIn p (.at_ k) s) = _
    by_cases h : k < p.steps.length
    · have e1 : p.steps[k]? = some p.steps[k] := List.getElem?_eq_getElem h
      have e2 : p.steps.drop k = p.steps[k] :: p.steps.drop (k + 1) := List.drop_eq_getElem_cons h
      rw [e2]
      have e3 : modeIn p (.at_ k) s = if matches_ p.steps[k] s = true then .at_ (k + 1) else .off := by
        show (match p.steps[k]? with
          | none => if p.deep = true then Mode.below else .off
          | some w => if matches_ w s = true then .at_ (k + 1) else .off) = _
        rw [e1]
      rw [e3]
      by_cases m : matches_ p.steps[k] s = true
      · rw [if_pos m, fold_at p q (k + 1) h]
        have e4 : reached (p.steps[k] :: p.steps.drop (k + 1)) (s :: q) = reached (p.steps.drop (k + 1)) q := by
          show (matches_ p.steps[k] s && reached _ q) = _
          rw [m, Bool.true_and]
        rw [e4]
        have e5 : k + 1 + q.length = k + (s :: q).length := by simp only [List.length_cons]; omega
        rw [e5]
      · rw [if_neg m, fold_off]
        have e4 : ¬ reached (p.steps[k] :: p.steps.drop (k + 1)) (s :: q) = true := by
          show ¬ (matches_ p.steps[k] s && reached _ q) = true
          rw [Bool.and_eq_true]
          exact fun z => m z.1
        rw [if_neg e4]
    · have e1 : p.steps[k]? = none := List.getElem?_eq_none (by omega)
      have e2 : p.steps.drop k = [] := List.drop_eq_nil_of_le (by omega)
      have e3 : modeIn p (.at_ k) s = if p.deep = true then .below else .off := by
        show (match p.steps[k]? with
          | none => if p.deep = true then Mode.below else .off
          | some w => if matches_ w s = true then .at_ (k + 1) else .off) = _
        rw [e1]
      rw [e2, e3, if_pos (show reached [] (s :: q) = true from rfl), if_neg (show ¬ k + (s :: q).length ≤ p.steps.length by simp only [List.length_cons]; omega)]
      by_cases d : p.deep = true
      · simp only [d, if_true]
        exact fold_below p q
      · simp only [d]
        exact fold_off p q
theorem modeAt_eq (p : Plan) (q : Place) : modeAt p q = if reached p.steps q = true then (if q.length ≤ p.steps.length then .at_ q.length else if p.deep = true then .below else .off) else .off := by
  have h := fold_at p q 0 (Nat.zero_le _)
  simpa [modeAt] using h

def strip (f : Frame) : Fr := ⟨f.isList, f.count, f.name, f.waits⟩
def Laid (p : Plan) : List Frame → Prop
  | [] => True
  | f :: r => f.place = placeOf (r.map strip) ∧ f.mode = modeAt p f.place ∧ Laid p r
structure Rel (p : Plan) (m : Machine) (sh : Shp) (se : Srch) : Prop where
  frames : m.frames.map strip = sh.frames
  laid : Laid p m.frames
  whole : m.whole = sh.isWhole
  entries : m.entries = sh.entries
  most : m.most = sh.most
  halted : m.halted = se.halted
  results : m.results = se.results
  fault : m.fault = se.chain.map fun x => ⟨x.1, some x.2⟩
  sum : m.sum = se.total
  odd : m.odd = se.odd
theorem Rel.begun (p : Plan) : Rel p (Vapaqf.begun p) .fresh (.fresh p) := ⟨rfl, trivial, rfl, rfl, rfl, rfl, rfl, rfl, rfl, rfl⟩
def tell (p : Plan) (o : Out) : List Int := if Vapaqf.toldOut p o = [0] then [] else Vapaqf.toldOut p o

theorem faultOf_ne_zero (w : Way) (h : Head) : faultOf w h ≠ some 0 := by
  cases w <;> cases h <;> simp [faultOf]
def vbAdd (p : Plan) (q : Place) (h : Head) (m : Machine) : Machine := match h with
  | .leaf (.num _ z _) => { m with results := m.results + 1, halted := p.limit == some (m.results + 1), sum := m.sum + z }
  | _ => if m.odd.isNone = true then { m with results := m.results + 1, halted := p.limit == some (m.results + 1), odd := some q } else { m with results := m.results + 1, halted := p.limit == some (m.results + 1) }
theorem vb_result (p : Plan) (mode : Mode) (q : Place) (h : Head) (m : Machine) (hm : ¬ m.halted = true) (hmode : mode = .below ∨ mode = .at_ p.steps.length) :
    valueBegins p mode q h m = if (p.test.all fun t => Vapaqf.holds t h) = true then (vbAdd p q h m, .found ⟨q, h⟩) else (m, .nothing) := by
  unfold valueBegins
  rw [if_neg hm]
  rcases hmode with rfl | rfl
  · simp only [Bool.true_and]
    rfl
  · have e1 : p.steps[p.steps.length]? = none := List.getElem?_eq_none (Nat.le_refl _)
    simp only [e1, Option.bind_none, beq_self_eq_true, Bool.true_and]
    rfl
/-- the search at one token -/
theorem meet_is (p : Plan) (se : Srch) (q : Place) (h : Head) (m : Machine) (hh : m.halted = se.halted) (hr : m.results = se.results) (hf : m.fault = se.chain.map fun x => ⟨x.1, some x.2⟩) (hs : m.sum = se.total) (ho : m.odd = se.odd) :
    ∃ (m' : Machine) (o : Out), valueBegins p (modeAt p q) q h m = (m', o) ∧ m'.frames = m.frames ∧ m'.whole = m.whole ∧ m'.entries = m.entries ∧ m'.most = m.most ∧
      m'.halted = (se.meet p q h).1.halted ∧ m'.results = (se.meet p q h).1.results ∧ m'.fault = (se.meet p q h).1.chain.map (fun x => ⟨x.1, some x.2⟩) ∧ m'.sum = (se.meet p q h).1.total ∧ m'.odd = (se.meet p q h).1.odd ∧ tell p o = (se.meet p q h).2 := by
  have idle : ∃ (m' : Machine) (o : Out), (m, Out.nothing) = (m', o) ∧ m'.frames = m.frames ∧ m'.whole = m.whole ∧ m'.entries = m.entries ∧ m'.most = m.most ∧
      m'.halted = se.halted ∧ m'.results = se.results ∧ m'.fault = se.chain.map (fun x => ⟨x.1, some x.2⟩) ∧ m'.sum = se.total ∧ m'.odd = se.odd ∧ tell p o = [] :=
    ⟨m, .nothing, rfl, rfl, rfl, rfl, rfl, hh, hr, hf, hs, ho, rfl⟩
  cases hal : se.halted with
  | true =>
    have e1 : se.meet p q h = (se, []) := by unfold Srch.meet; rw [hal]; rfl
    have e2 : valueBegins p (modeAt p q) q h m = (m, .nothing) := by unfold valueBegins; rw [if_pos (by rw [hh, hal])]
    rw [e1, e2]
    rw [hal] at idle
    simpa [hal] using idle
  | false =>
    have hm : ¬ m.halted = true := by rw [hh, hal]; exact Bool.false_ne_true
    cases hre : reached p.steps q with
    | false =>
      have e1 : se.meet p q h = (se, []) := by unfold Srch.meet; rw [hal, hre]; rfl
      have e2 : valueBegins p (modeAt p q) q h m = (m, .nothing) := by
        rw [modeAt_eq, hre]
        unfold valueBegins
        rw [if_neg hm]
        rfl
      rw [e1, e2]
      exact idle
    | true =>
      have e0 : se.meet p q h = (match p.steps[q.length]? with
        | some w => se.fault p (faultN w h) q
        | none => if (decide (p.steps.length < q.length) && !p.deep) = true then (se, [])
          else if (p.test.any fun t => !Vapaqf.holds t h) = true then (se, [])
          else se.result p q h) := by
        unfold Srch.meet
        rw [hal, hre]
        rfl
      rw [modeAt_eq, if_pos hre]
      -- a result, where nothing is amiss
      have res : ∀ mode : Mode, (mode = .below ∨ mode = .at_ p.steps.length) →
          ∃ (m' : Machine) (o : Out), valueBegins p mode q h m = (m', o) ∧ m'.frames = m.frames ∧ m'.whole = m.whole ∧ m'.entries = m.entries ∧ m'.most = m.most ∧
            m'.halted = (if (p.test.any fun t => !Vapaqf.holds t h) = true then (se, []) else se.result p q h).1.halted ∧ m'.results = (if (p.test.any fun t => !Vapaqf.holds t h) = true then (se, []) else se.result p q h).1.results ∧
            m'.fault = (if (p.test.any fun t => !Vapaqf.holds t h) = true then (se, []) else se.result p q h).1.chain.map (fun x => ⟨x.1, some x.2⟩) ∧ m'.sum = (if (p.test.any fun t => !Vapaqf.holds t h) = true then (se, []) else se.result p q h).1.total ∧
            m'.odd = (if (p.test.any fun t => !Vapaqf.holds t h) = true then (se, []) else se.result p q h).1.odd ∧ tell p o = (if (p.test.any fun t => !Vapaqf.holds t h) = true then (se, []) else se.result p q h).2 := by
        intro mode hmode
        rw [vb_result p mode q h m hm hmode]
        have hall : (p.test.all fun t => Vapaqf.holds t h) = !(p.test.any fun t => !Vapaqf.holds t h) := by cases p.test <;> simp
        cases hc : (p.test.any fun t => !Vapaqf.holds t h) with
        | true =>
          rw [if_neg (by rw [hall, hc]; exact Bool.false_ne_true)]
          exact idle
        | false =>
          rw [if_pos (by rw [hall, hc]; rfl)]
          have tl : tell p (.found ⟨q, h⟩) = (se.result p q h).2 := by
            unfold tell Vapaqf.toldOut Srch.result
            by_cases g : p.gather = 0
            · simp [g, toldPlace]
            · simp [g]
          refine ⟨_, _, rfl, ?_⟩
          rw [if_neg Bool.false_ne_true]
          have ten : ∀ h' : Head, (vbAdd p q h' m).frames = m.frames ∧ (vbAdd p q h' m).whole = m.whole ∧ (vbAdd p q h' m).entries = m.entries ∧ (vbAdd p q h' m).most = m.most ∧ (vbAdd p q h' m).halted = (se.result p q h').1.halted ∧ (vbAdd p q h' m).results = (se.result p q h').1.results ∧
              (vbAdd p q h' m).fault = (se.result p q h').1.chain.map (fun x => ⟨x.1, some x.2⟩) ∧ (vbAdd p q h' m).sum = (se.result p q h').1.total ∧ (vbAdd p q h' m).odd = (se.result p q h').1.odd := by
            intro h'
            cases hod : se.odd <;> rcases h' with (_ | _ | _ | _ | _ | _) | _ | _ <;> simp [vbAdd, Srch.result, Srch.add, hr, hf, hs, ho, hod]
          obtain ⟨a1, a2, a3, a4, a5, a6, a7, a8, a9⟩ := ten h
          exact ⟨a1, a2, a3, a4, a5, a6, a7, a8, a9, tl⟩
      by_cases hlen : q.length < p.steps.length
      · have e1 : p.steps[q.length]? = some p.steps[q.length] := List.getElem?_eq_getElem hlen
        rw [if_pos (Nat.le_of_lt hlen), e0]
        simp only [e1]
        unfold valueBegins
        rw [if_neg hm]
        simp only [e1, Option.bind_some]
        cases hfo : faultOf p.steps[q.length] h with
        | none =>
          have en : faultN p.steps[q.length] h = 0 := by rw [faultN, hfo]; rfl
          have eb : (q.length == p.steps.length) = false := by simp; omega
          simp only [en, eb, Bool.false_and, Srch.fault, if_pos]
          exact idle
        | some c =>
          have en : faultN p.steps[q.length] h = c := by rw [faultN, hfo]; rfl
          have hc : c ≠ 0 := fun z => faultOf_ne_zero _ _ (z ▸ hfo)
          rw [en]
          by_cases ht : p.tried = true
          · refine ⟨_, _, if_pos ht, rfl, rfl, rfl, rfl, ?_⟩
            simp [Srch.fault, hc, ht, hr, hf, hs, ho, tell, Vapaqf.toldOut]
          · refine ⟨_, _, if_neg ht, rfl, rfl, rfl, rfl, ?_⟩
            by_cases g : p.gather = 0
            · simp [Srch.fault, hc, ht, hr, hf, hs, ho, tell, Vapaqf.toldOut, g, Vapaqf.toldFault, toldPlace]
            · simp [Srch.fault, hc, ht, hr, hf, hs, ho, tell, Vapaqf.toldOut, g]
      · have e1 : p.steps[q.length]? = none := List.getElem?_eq_none (by omega)
        rw [e0]
        simp only [e1]
        by_cases heq : q.length ≤ p.steps.length
        · have e2 : q.length = p.steps.length := by omega
          rw [if_pos heq, if_neg (show ¬ (decide (p.steps.length < q.length) && !p.deep) = true by simp; omega)]
          exact res _ (.inr (by rw [e2]))
        · rw [if_neg heq]
          by_cases hd : p.deep = true
          · rw [if_pos hd, if_neg (show ¬ (decide (p.steps.length < q.length) && !p.deep) = true by simp [hd])]
            exact res _ (.inl rfl)
          · rw [if_neg hd, if_pos (show (decide (p.steps.length < q.length) && !p.deep) = true by simp [hd]; omega)]
            have e2 : valueBegins p .off q h m = (m, .nothing) := by
              unfold valueBegins
              rw [if_neg hm]
              rfl
            rw [e2]
            exact idle

theorem head_fields (p : Plan) (h : Head) (m : Machine) (sh : Shp) (se : Srch) (R : Rel p m sh se) (l : List Frame) (q : Place) :
    ∃ (m' : Machine) (o : Out), valueBegins p (modeAt p q) q h { m with frames := l, entries := m.entries + 1 } = (m', o) ∧ m'.frames = l ∧ m'.whole = m.whole ∧ m'.entries = sh.entries + 1 ∧ m'.most = sh.most ∧
      m'.halted = (se.meet p q h).1.halted ∧ m'.results = (se.meet p q h).1.results ∧ m'.fault = (se.meet p q h).1.chain.map (fun x => ⟨x.1, some x.2⟩) ∧ m'.sum = (se.meet p q h).1.total ∧ m'.odd = (se.meet p q h).1.odd ∧ tell p o = (se.meet p q h).2 := by
  obtain ⟨m', o, e, a1, a2, a3, a4, rest⟩ := meet_is p se q h { m with frames := l, entries := m.entries + 1 } R.halted R.results R.fault R.sum R.odd
  exact ⟨m', o, e, a1, a2, by rw [a3, ← R.entries], by rw [a4, ← R.most], rest⟩
theorem isEmpty_map_strip (l : List Frame) : (l.map strip).isEmpty = l.isEmpty := by cases l <;> rfl
/-- a tree begins behind l at the place q -/
theorem begins_rel (p : Plan) (t : Token) (ht : begins t = true) (m : Machine) (sh : Shp) (se : Srch) (R : Rel p m sh se) (hw : m.whole = false) (l : List Frame) (hl : l.map strip = within sh.frames) (hL : Laid p l) :
    ∃ (m' : Machine) (o : Out), (let x := valueBegins p (modeAt p (placeOf (within sh.frames))) (placeOf (within sh.frames)) (headOf t) { m with frames := l, entries := m.entries + 1 }
      match headOf t with
      | .leaf _ => (({ x.1 with whole := l.isEmpty } : Machine), x.2)
      | h => (let fs : List Frame := ⟨h == .list, placeOf (within sh.frames), modeAt p (placeOf (within sh.frames)), 0, [], false⟩ :: l; ({ x.1 with frames := fs, most := max x.1.most fs.length }, x.2))) = (m', o) ∧
      Rel p m' (sh.beginTree t) (se.meet p (placeOf (within sh.frames)) (headOf t)).1 ∧ tell p o = (se.meet p (placeOf (within sh.frames)) (headOf t)).2 := by
  obtain ⟨m', o, e, a1, a2, a3, a4, a5, a6, a7, a8, a9, a10⟩ := head_fields p (headOf t) m sh se R l (placeOf (within sh.frames))
  rw [e]
  have ll : l.length = (within sh.frames).length := by rw [← hl, List.length_map]
  cases t with
  | leaf v =>
    refine ⟨_, _, rfl, ⟨?_, ?_, ?_, ?_, ?_, a5, a6, a7, a8, a9⟩, a10⟩
    · show m'.frames.map strip = within sh.frames
      rw [a1, hl]
    · show Laid p m'.frames
      rw [a1]
      exact hL
    · show l.isEmpty = (decide (0 < sh.entries + 1) && (within sh.frames).isEmpty)
      rw [← hl, isEmpty_map_strip]
      simp
    · exact a3
    · exact a4
  | openList =>
    refine ⟨_, _, rfl, ⟨?_, ?_, ?_, ?_, ?_, a5, a6, a7, a8, a9⟩, a10⟩
    · show Fr.fresh true :: l.map strip = Fr.fresh true :: within sh.frames
      rw [hl]
    · exact ⟨by show placeOf (within sh.frames) = placeOf (l.map strip); rw [hl], rfl, hL⟩
    · show m'.whole = (decide (0 < sh.entries + 1) && (Fr.fresh true :: within sh.frames).isEmpty)
      rw [a2, hw]
      simp
    · exact a3
    · show max m'.most (l.length + 1) = max sh.most ((within sh.frames).length + 1)
      rw [a4, ll]
  | openRecord =>
    refine ⟨_, _, rfl, ⟨?_, ?_, ?_, ?_, ?_, a5, a6, a7, a8, a9⟩, a10⟩
    · show Fr.fresh false :: l.map strip = Fr.fresh false :: within sh.frames
      rw [hl]
    · exact ⟨by show placeOf (within sh.frames) = placeOf (l.map strip); rw [hl], rfl, hL⟩
    · show m'.whole = (decide (0 < sh.entries + 1) && (Fr.fresh false :: within sh.frames).isEmpty)
      rw [a2, hw]
      simp
    · exact a3
    · show max m'.most (l.length + 1) = max sh.most ((within sh.frames).length + 1)
      rw [a4, ll]
  | name n => cases ht
  | close l => cases ht

theorem btf (b : Bool) : b = true ∨ b = false := by cases b <;> simp
theorem not_f {b : Bool} (h : (!b) = false) : b = true := by cases b <;> simp_all
theorem not_t {b : Bool} (h : (!b) = true) : ¬ b = true := by cases b <;> simp_all
theorem textBefore_nil (n : Name) : textBefore [] n = !n.isEmpty := by cases n <;> rfl
/-- one token: the specification's machine does as the mirror -/
theorem push_rel (p : Plan) (t : Token) (m : Machine) (sh : Shp) (se : Srch) (R : Rel p m sh se) (O : sh.Ok) (hn : ∀ n, t = .name n → n ≠ []) :
    (sh.come t = none → push p t m = none) ∧
    (∀ sh', sh.come t = some (sh', none) → ∃ m', push p t m = some (m', .nothing) ∧ Rel p m' sh' se) ∧
    (∀ sh' q, sh.come t = some (sh', some q) → ∃ m' o, push p t m = some (m', o) ∧ Rel p m' sh' (se.meet p q (headOf t)).1 ∧ tell p o = (se.meet p q (headOf t)).2) := by
  have hlen : m.frames.length = sh.frames.length := by rw [← R.frames, List.length_map]
  by_cases hb : begins t = true
  · -- the first token of a tree
    have hp : push p t m = headComes p (headOf t) m := by cases t <;> first | rfl | cases hb
    have key : (sh.canCome t = false → headComes p (headOf t) m = none) ∧ (sh.canCome t = true → ∃ m' o, headComes p (headOf t) m = some (m', o) ∧ Rel p m' (sh.beginTree t) (se.meet p (placeOf (within sh.frames)) (headOf t)).1 ∧
        tell p o = (se.meet p (placeOf (within sh.frames)) (headOf t)).2) := by
      unfold headComes
      cases hf : m.frames with
      | nil =>
        have hsf : sh.frames = [] := by rw [← R.frames, hf]; rfl
        have hc : sh.canCome t = (sh.entries == 0) := by
          unfold Shp.canCome
          rw [hsf]
          simp [hb]
        have hwh : m.whole = decide (0 < sh.entries) := by rw [R.whole]; unfold Shp.isWhole; rw [hsf]; simp
        constructor
        · intro h
          rw [hc] at h
          have h0 : sh.entries ≠ 0 := by simpa using h
          rw [if_pos (.inl (by rw [hwh]; simp; omega))]
        · intro h
          rw [hc] at h
          have h0 : sh.entries = 0 := by simpa using h
          have hw : m.whole = false := by rw [hwh, h0]; rfl
          rw [if_neg (by rw [hw, R.entries, h0]; simp [Vapaqa.ENTRIES, Vapaqa.DEEP])]
          have L0 : Laid p [] := trivial
          obtain ⟨m', o, e, r⟩ := begins_rel p t hb m sh se R hw [] (by rw [hsf]; rfl) L0
          refine ⟨m', o, ?_, r⟩
          rw [← e, hsf]
          rfl
      | cons fr r =>
        have hsf : sh.frames = strip fr :: r.map strip := by rw [← R.frames, hf]; rfl
        have hwh : m.whole = false := by rw [R.whole]; unfold Shp.isWhole; rw [hsf]; simp
        have Fo : FrOk (strip fr) := O.frs _ (by rw [hsf]; exact List.mem_cons_self)
        have hc : sh.canCome t = (sh.hasRoom && (strip fr).takesTree) := by
          unfold Shp.canCome
          rw [hsf]
          cases t <;> first | rfl | cases hb
        have hroom : (¬ (m.whole = true ∨ Vapaqa.ENTRIES ≤ m.entries ∨ Vapaqa.DEEP ≤ (fr :: r).length)) ↔ sh.hasRoom = true := by
          rw [hwh, R.entries, ← hf, hlen]
          simp [Shp.hasRoom, Vapaqa.ENTRIES, Vapaqa.DEEP]
        have hnext : (Vapaqf.nextStep fr = none ↔ (strip fr).takesTree = false) ∧ ∀ s, Vapaqf.nextStep fr = some s → s = (strip fr).beginWithin.way := by
          unfold Vapaqf.nextStep Fr.takesTree
          show _ ∧ _
          cases hl : fr.isList with
          | true =>
            by_cases h10 : fr.count < 10
            · simp [strip, hl, h10, Vapaqa.ITEMS, Fr.beginWithin, Fr.way]
            · simp [strip, hl, h10, Vapaqa.ITEMS]
          | false =>
            cases hwt : fr.waits <;> simp [strip, hl, hwt, Fr.beginWithin, Fr.way]
        constructor
        · intro h
          rw [hc] at h
          by_cases hr : sh.hasRoom = true
          · rw [if_neg (hroom.mpr hr)]
            rw [hr, Bool.true_and] at h
            show (Vapaqf.nextStep fr).map _ = none
            rw [hnext.1.mpr h]
            rfl
          · rw [if_pos (Classical.not_not.mp (fun z => hr (hroom.mp z)))]
        · intro h
          rw [hc, Bool.and_eq_true] at h
          rw [if_neg (hroom.mpr h.1)]
          cases hs : Vapaqf.nextStep fr with
          | none =>
            have z := hnext.1.mp hs
            rw [h.2] at z
            cases z
          | some s =>
            have es := hnext.2 s hs
            have hL : Laid p m.frames := R.laid
            rw [hf] at hL
            obtain ⟨l1, l2, l3⟩ := hL
            have ew : within sh.frames = (strip fr).beginWithin :: r.map strip := by rw [hsf]; rfl
            have eq_ : placeOf (within sh.frames) = fr.place ++ [s] := by rw [ew, placeOf_cons, ← l1, es]
            have hl2 : (({ fr with count := fr.count + 1, waits := false } : Frame) :: r).map strip = within sh.frames := by rw [ew]; rfl
            have L2 : Laid p (({ fr with count := fr.count + 1, waits := false } : Frame) :: r) := ⟨l1, l2, l3⟩
            obtain ⟨m', o, e, rr⟩ := begins_rel p t hb m sh se R hwh _ hl2 L2
            refine ⟨m', o, ?_, rr⟩
            rw [← e, eq_, modeAt_snoc, ← l2]
            simp only [hs]
            rfl
    refine ⟨?_, ?_, ?_⟩
    · intro h
      rw [hp]
      refine key.1 ?_
      cases hc : sh.canCome t with
      | false => rfl
      | true =>
        unfold Shp.come at h
        rw [if_pos hc] at h
        cases t <;> first | cases h | cases hb
    · intro sh' h
      unfold Shp.come at h
      split at h
      · cases t <;> first | (cases hb; done) | (simp at h; done)
      · cases h
    · intro sh' q h
      unfold Shp.come at h
      split at h
      · rename_i hc
        obtain ⟨m', o, e, rr⟩ := key.2 hc
        have z : sh' = sh.beginTree t ∧ q = placeOf (within sh.frames) := by
          cases t <;> first | (cases hb; done) | (simp only [Option.some.injEq, Prod.mk.injEq] at h; exact ⟨h.1.symm, h.2.symm⟩)
        rw [z.1, z.2, hp]
        exact ⟨m', o, e, rr⟩
      · cases h
  · cases t with
    | leaf v => exact absurd rfl hb
    | openList => exact absurd rfl hb
    | openRecord => exact absurd rfl hb
    | name n =>
      cases hf : m.frames with
      | nil =>
        have hsf : sh.frames = [] := by rw [← R.frames, hf]; rfl
        have hc : sh.come (.name n) = none := by
          unfold Shp.come Shp.canCome
          rw [hsf]
          simp [begins]
        have hp : push p (.name n) m = none := by unfold push; rw [hf]
        rw [hc, hp]
        exact ⟨fun _ => rfl, fun _ h => (nomatch h), fun _ _ h => (nomatch h)⟩
      | cons fr r =>
        have hsf : sh.frames = strip fr :: r.map strip := by rw [← R.frames, hf]; rfl
        have Fo : FrOk (strip fr) := O.frs _ (by rw [hsf]; exact List.mem_cons_self)
        have hL : Laid p m.frames := R.laid
        rw [hf] at hL
        obtain ⟨l1, l2, l3⟩ := hL
        have hn' : n ≠ [] := hn n rfl
        have hc : sh.canCome (.name n) = !(fr.isList || (fr.waits || (decide (Vapaqa.FIELDS ≤ fr.count) || (decide (Vapaqa.ENTRIES ≤ m.entries) || (decide (Vapaqa.DEEP ≤ m.frames.length) || (decide (0 < fr.count) && !textBefore fr.name n)))))) := by
          have e1 : sh.canCome (.name n) = (sh.hasRoom && (strip fr).takesName n) := by unfold Shp.canCome; rw [hsf]
          rw [e1, R.entries, hlen]
          unfold Shp.hasRoom Fr.takesName
          unfold FrOk at Fo
          simp only [strip] at Fo ⊢
          rcases btf fr.isList with hl | hl
          · simp [hl]
          · simp only [hl, Bool.false_eq_true, if_false] at Fo
            obtain ⟨f1, f2, f3⟩ := Fo
            rcases btf fr.waits with hwt | hwt
            · simp [hl, hwt]
            · rw [hwt] at f2
              simp only [hl, hwt]
              by_cases h8 : fr.count = 8
              · simp [h8, Vapaqa.FIELDS]
              · have h8' : ¬ 8 ≤ fr.count := by omega
                have e8 : (fr.count == 8) = false := by simpa using h8
                simp only [e8, Vapaqa.FIELDS, h8', Vapaqa.ENTRIES, Vapaqa.DEEP, Bool.false_or, decide_false, Bool.or_self]
                have g1 : decide (sh.entries < 40) = !decide (40 ≤ sh.entries) := by
                  by_cases z : sh.entries < 40
                  · simp [z]
                  · simp [z]; omega
                have g2 : decide (sh.frames.length < 6) = !decide (6 ≤ sh.frames.length) := by
                  by_cases z : sh.frames.length < 6
                  · simp [z]
                  · simp [z]; omega
                rw [g1, g2]
                by_cases h0 : fr.count = 0
                · have hnil : fr.name = [] := f2.mpr ⟨h0, rfl⟩
                  rw [hnil, h0]
                  by_cases z1 : 40 ≤ sh.entries <;> by_cases z2 : 6 ≤ sh.frames.length <;> simp [z1, z2]
                · have hne : fr.name ≠ [] := fun z => h0 (f2.mp z).1
                  have e0 : fr.name.isEmpty = false := by cases hq : fr.name with | nil => exact absurd hq hne | cons _ _ => rfl
                  have e1 : decide (0 < fr.count) = true := by simp; omega
                  rw [e0, e1]
                  by_cases z1 : 40 ≤ sh.entries <;> by_cases z2 : 6 ≤ sh.frames.length <;> simp [z1, z2]
        have hp : push p (.name n) m = if (fr.isList || (fr.waits || (decide (Vapaqa.FIELDS ≤ fr.count) || (decide (Vapaqa.ENTRIES ≤ m.entries) || (decide (Vapaqa.DEEP ≤ m.frames.length) || (decide (0 < fr.count) && !textBefore fr.name n)))))) = true then none
            else some ({ m with frames := { fr with name := n, waits := true } :: r }, .nothing) := by unfold push; rw [hf]
        cases hcc : sh.canCome (.name n) with
        | false =>
          have e1 : sh.come (.name n) = none := by unfold Shp.come; rw [if_neg (by rw [hcc]; exact Bool.false_ne_true)]
          rw [hc] at hcc
          rw [e1, hp, if_pos (not_f hcc)]
          exact ⟨fun _ => rfl, fun _ h => (nomatch h), fun _ _ h => (nomatch h)⟩
        | true =>
          have e1 : sh.come (.name n) = some ({ sh with frames := (strip fr).beginField n :: r.map strip }, none) := by unfold Shp.come; rw [if_pos hcc, hsf]
          rw [hc] at hcc
          rw [e1, hp, if_neg (not_t hcc)]
          refine ⟨fun h => (nomatch h), fun sh' h => ?_, fun _ _ h => by simp at h⟩
          simp only [Option.some.injEq, Prod.mk.injEq, and_true] at h
          subst h
          refine ⟨_, rfl, ⟨rfl, ⟨l1, l2, l3⟩, ?_, R.entries, R.most, R.halted, R.results, R.fault, R.sum, R.odd⟩⟩
          show m.whole = (decide (0 < sh.entries) && false)
          rw [R.whole]
          unfold Shp.isWhole
          rw [hsf]
          rfl
    | close l =>
      cases hf : m.frames with
      | nil =>
        have hsf : sh.frames = [] := by rw [← R.frames, hf]; rfl
        have hc : sh.come (.close l) = none := by
          unfold Shp.come Shp.canCome
          rw [hsf]
          simp [begins]
        have hp : push p (.close l) m = none := by unfold push; rw [hf]
        rw [hc, hp]
        exact ⟨fun _ => rfl, fun _ h => (nomatch h), fun _ _ h => (nomatch h)⟩
      | cons fr r =>
        have hsf : sh.frames = strip fr :: r.map strip := by rw [← R.frames, hf]; rfl
        have Fo : FrOk (strip fr) := O.frs _ (by rw [hsf]; exact List.mem_cons_self)
        have hL : Laid p m.frames := R.laid
        rw [hf] at hL
        obtain ⟨l1, l2, l3⟩ := hL
        have hc : sh.canCome (.close l) = true ↔ fr.isList = l ∧ fr.waits = false := by
          have e1 : sh.canCome (.close l) = (strip fr).takesEnd l := by unfold Shp.canCome; rw [hsf]
          rw [e1]
          unfold FrOk at Fo
          unfold Fr.takesEnd
          simp only [strip] at Fo ⊢
          rcases btf fr.isList with hl | hl
          · simp only [hl, if_true] at Fo
            rw [Fo.2.1]
            cases l <;> simp [hl]
          · cases l <;> rcases btf fr.waits with hw2 | hw2 <;> simp [hl, hw2]
        have hp : push p (.close l) m = if fr.isList = l ∧ fr.waits = false then some ({ m with frames := r, whole := r.isEmpty }, .nothing) else none := by unfold push; rw [hf]
        by_cases hcc : fr.isList = l ∧ fr.waits = false
        · have e1 : sh.come (.close l) = some ({ sh with frames := sh.frames.tail }, none) := by unfold Shp.come; rw [if_pos (hc.mpr hcc)]
          rw [e1, hp, if_pos hcc]
          refine ⟨fun h => (nomatch h), fun sh' h => ?_, fun _ _ h => by simp at h⟩
          simp only [Option.some.injEq, Prod.mk.injEq, and_true] at h
          subst h
          have et : sh.frames.tail = r.map strip := by rw [hsf]; rfl
          refine ⟨_, rfl, ⟨et.symm, l3, ?_, R.entries, R.most, R.halted, R.results, R.fault, R.sum, R.odd⟩⟩
          show r.isEmpty = (decide (0 < sh.entries) && sh.frames.tail.isEmpty)
          have h1 : 1 ≤ sh.entries := O.some_ (by rw [hsf]; exact List.cons_ne_nil _ _)
          rw [et, isEmpty_map_strip, decide_eq_true (by omega : 0 < sh.entries), Bool.true_and]
        · have e1 : sh.come (.close l) = none := by unfold Shp.come; rw [if_neg (fun z => hcc (hc.mp z))]
          rw [e1, hp, if_neg hcc]
          exact ⟨fun _ => rfl, fun _ h => (nomatch h), fun _ _ h => (nomatch h)⟩

/-! ### 4. The mirror's states stay as they should -/
theorem FrOk.fresh (l : Bool) : FrOk (.fresh l) := by
  unfold FrOk Fr.fresh
  cases l <;> simp
theorem FrOk.beginWithin {f : Fr} (h : FrOk f) (t : f.takesTree = true) : FrOk f.beginWithin := by
  unfold FrOk at h ⊢
  unfold Fr.takesTree at t
  rcases btf f.isList with hl | hl
  · simp only [hl, if_true] at h t
    simp only [Fr.beginWithin, hl, if_true]
    exact ⟨by have := of_decide_eq_true t; omega, trivial, h.2.2⟩
  · simp only [hl, Bool.false_eq_true, if_false] at h t
    simp only [Fr.beginWithin, hl, Bool.false_eq_true, if_false]
    have h3 := h.2.2 t
    refine ⟨by omega, ⟨fun z => ?_, fun z => by omega⟩, fun z => z.elim⟩
    have := (h.2.1.mp z).2
    rw [t] at this
    cases this
theorem FrOk.beginField {f : Fr} {n : Name} (h : FrOk f) (t : f.takesName n = true) (hn : n ≠ []) : FrOk (f.beginField n) := by
  unfold FrOk at h ⊢
  unfold Fr.takesName at t
  rcases btf f.isList with hl | hl
  · simp [hl] at t
  · simp only [hl, Bool.false_eq_true, if_false] at h
    simp only [Fr.beginField, hl, Bool.false_eq_true, if_false]
    have h8 : f.begun ≠ 8 := by
      intro z
      simp [hl, z] at t
    refine ⟨h.1, ⟨fun z => absurd z hn, fun z => by cases z.2⟩, fun _ => by have := h.1; omega⟩
theorem beginWithin_way1 {f : Fr} : 1 ≤ f.beginWithin.begun := Nat.le_add_left ..
theorem within_length (l : List Fr) : (within l).length = l.length := by cases l <;> rfl
theorem Shp.come_ok {s : Shp} (O : s.Ok) {t : Token} {s' : Shp} {q : Option Place} (h : s.come t = some (s', q)) (hn : ∀ n, t = .name n → n ≠ []) : s'.Ok := by
  unfold Shp.come at h
  split at h
  case isFalse => cases h
  rename_i hc
  have tree : begins t = true → (s.beginTree t).Ok := by
    intro hb
    have hfr : ∀ f ∈ within s.frames, FrOk f := by
      cases hf : s.frames with
      | nil => intro f h; cases h
      | cons f r =>
        have hc2 : f.takesTree = true := by
          unfold Shp.canCome at hc
          rw [hf] at hc
          cases t <;> first | (cases hb; done) | exact (Bool.and_eq_true_iff.mp hc).2
        intro g hg
        rcases List.mem_cons.mp hg with rfl | hg
        · exact (O.frs f (by rw [hf]; exact List.mem_cons_self)).beginWithin hc2
        · exact O.frs g (by rw [hf]; exact List.mem_cons_of_mem _ hg)
    have hone : ∀ f ∈ within s.frames, 1 ≤ f.begun := by
      cases hf : s.frames with
      | nil => intro f h; cases h
      | cons f r =>
        intro g hg
        rcases List.mem_cons.mp hg with rfl | hg
        · exact beginWithin_way1
        · exact O.outer g (by rw [hf]; exact hg)
    have hroom : s.entries < 40 ∧ s.frames.length < 6 := by
      unfold Shp.canCome at hc
      cases hf : s.frames with
      | nil =>
        rw [hf] at hc
        have := (Bool.and_eq_true_iff.mp hc).1
        have e : s.entries = 0 := by simpa using this
        exact ⟨by omega, by simp⟩
      | cons f r =>
        rw [hf] at hc
        have hr : s.hasRoom = true := by cases t <;> first | (cases hb; done) | exact (Bool.and_eq_true_iff.mp hc).1
        unfold Shp.hasRoom at hr
        simp only [Bool.and_eq_true, decide_eq_true_eq] at hr
        rw [hf] at hr
        exact hr
    have hwl := within_length s.frames
    have hm := O.most
    refine ⟨?_, ?_, fun _ => Nat.le_add_left .., ?_, hroom.1⟩
    · intro f hf
      cases t with
      | leaf v => exact hfr f hf
      | openList =>
        rcases List.mem_cons.mp hf with rfl | hf
        · exact FrOk.fresh true
        · exact hfr f hf
      | openRecord =>
        rcases List.mem_cons.mp hf with rfl | hf
        · exact FrOk.fresh false
        · exact hfr f hf
      | name n => cases hb
      | close l => cases hb
    · intro f hf
      cases t with
      | leaf v => exact hone f (List.mem_of_mem_tail hf)
      | openList => exact hone f hf
      | openRecord => exact hone f hf
      | name n => cases hb
      | close l => cases hb
    · cases t with
      | leaf v => exact ⟨by show (within s.frames).length ≤ s.most; omega, hm.2⟩
      | openList => exact ⟨by show (within s.frames).length + 1 ≤ max s.most ((within s.frames).length + 1); omega, by show max s.most ((within s.frames).length + 1) ≤ 6; omega⟩
      | openRecord => exact ⟨by show (within s.frames).length + 1 ≤ max s.most ((within s.frames).length + 1); omega, by show max s.most ((within s.frames).length + 1) ≤ 6; omega⟩
      | name n => cases hb
      | close l => cases hb
  cases t with
  | leaf v =>
    simp only [Option.some.injEq, Prod.mk.injEq] at h
    rw [← h.1]
    exact tree rfl
  | openList =>
    simp only [Option.some.injEq, Prod.mk.injEq] at h
    rw [← h.1]
    exact tree rfl
  | openRecord =>
    simp only [Option.some.injEq, Prod.mk.injEq] at h
    rw [← h.1]
    exact tree rfl
  | name n =>
    simp only [Option.some.injEq, Prod.mk.injEq] at h
    rw [← h.1]
    cases hf : s.frames with
    | nil =>
      refine ⟨fun f h => (nomatch h), fun f h => (nomatch h), fun h => (h rfl).elim, ⟨Nat.zero_le _, O.most.2⟩, O.few⟩
    | cons f r =>
      have hc2 : f.takesName n = true := by
        unfold Shp.canCome at hc
        rw [hf] at hc
        exact (Bool.and_eq_true_iff.mp hc).2
      refine ⟨fun g hg => ?_, fun g hg => O.outer g (by rw [hf]; exact hg), fun _ => O.some_ (by rw [hf]; exact List.cons_ne_nil _ _), ?_, O.few⟩
      · rcases List.mem_cons.mp hg with rfl | hg
        · exact (O.frs f (by rw [hf]; exact List.mem_cons_self)).beginField hc2 (hn n rfl)
        · exact O.frs g (by rw [hf]; exact List.mem_cons_of_mem _ hg)
      · have := O.most
        rw [hf] at this
        exact this
  | close l =>
    simp only [Option.some.injEq, Prod.mk.injEq] at h
    rw [← h.1]
    refine ⟨fun g hg => O.frs g (List.mem_of_mem_tail hg), fun g hg => O.outer g (List.mem_of_mem_tail hg), fun hne => O.some_ (fun z => hne (by show s.frames.tail = []; rw [z]; rfl)), ?_, O.few⟩
    have := O.most
    have h2 : s.frames.tail.length ≤ s.frames.length := by rw [List.length_tail]; omega
    exact ⟨by show s.frames.tail.length ≤ s.most; omega, this.2⟩

/-! ### 5. No step is asked of a way that it can't be asked of -/
def typed : List Way → Place → Prop
  | w :: ws, s :: q => (match w, s with
    | .items _ _, .name _ => False
    | _, _ => True) ∧ (matches_ w s = true → typed ws q)
  | _, _ => True
theorem typed_snoc : ∀ (ws : List Way) (q : Place) (s : Step), typed ws q → (reached ws q = true → ∀ w, ws[q.length]? = some w → (match w, s with
    | .items _ _, .name _ => False
    | _, _ => True)) → typed ws (q ++ [s])
  | [], _, _, _, _ => by unfold typed; trivial
  | w :: ws, [], s, _, h => ⟨h rfl w rfl, fun _ => by cases ws <;> trivial⟩
  | w :: ws, a :: q, s, ht, h => ⟨ht.1, fun hm => typed_snoc ws q s (ht.2 hm) fun hr w' hw => h (by show (matches_ w a && reached ws q) = true; rw [hm, hr]; rfl) w' hw⟩
theorem typed_of_fits (p : Plan) : ∀ fs : List Fr, Fits p fs → typed p.steps (placeOf fs)
  | [], _ => by cases p.steps <;> trivial
  | f :: r, h => by
    rw [placeOf_cons]
    refine typed_snoc _ _ _ (typed_of_fits p r h.2) fun hr w hw => ?_
    rw [placeOf_length] at hw
    have e := h.1 hr w hw
    cases w with
    | items a b =>
      unfold kindHead at e
      unfold Fr.way
      rcases btf f.isList with hl | hl
      · simp [hl]
      · simp [hl, faultOf] at e
    | field n => trivial
    | each => trivial
theorem Fits.within {p : Plan} {fs : List Fr} (h : Fits p fs) : Fits p (within fs) := by
  cases fs with
  | nil => exact h
  | cons f r => exact h
def Live (p : Plan) (sh : Shp) (se : Srch) : Prop := se.halted = false → Fits p sh.frames
theorem Live.fresh (p : Plan) : Live p .fresh (.fresh p) := fun _ => trivial
theorem Live.typed {p : Plan} {sh : Shp} {se : Srch} (h : Live p sh se) (hh : se.halted = false) : typed p.steps (placeOf (TS.within sh.frames)) := typed_of_fits p _ (h hh).within
/-- while nothing has halted, no fault was there -/
theorem meet_live {p : Plan} {se : Srch} {q : Place} {h : Head} (hh : (se.meet p q h).1.halted = false) : se.halted = false ∧ (reached p.steps q = true → ∀ w, p.steps[q.length]? = some w → faultOf w h = none) := by
  have h0 : se.halted = false := by
    cases hc : se.halted with
    | false => rfl
    | true =>
      have e1 : se.meet p q h = (se, []) := by unfold Srch.meet; rw [hc]; rfl
      rw [e1, hc] at hh
      exact hh
  refine ⟨h0, fun hr w hw => ?_⟩
  unfold Srch.meet at hh
  rw [h0, hr] at hh
  simp only [Bool.not_true, Bool.or_self, Bool.false_eq_true, if_false, hw] at hh
  cases hf : faultOf w h with
  | none => rfl
  | some c =>
    have hc : c ≠ 0 := fun z => faultOf_ne_zero w h (z ▸ hf)
    have en : faultN w h = c := by rw [faultN, hf]; rfl
    rw [en] at hh
    unfold Srch.fault at hh
    rw [if_neg hc] at hh
    split at hh <;> simp at hh
theorem Live.come {p : Plan} {sh sh' : Shp} {se : Srch} {t : Token} (L : Live p sh se) : (sh.come t = some (sh', none) → Live p sh' se) ∧ (∀ q, sh.come t = some (sh', some q) → Live p sh' (se.meet p q (headOf t)).1) := by
  constructor
  · intro h hh
    have F := L hh
    unfold Shp.come at h
    split at h
    · cases t with
      | leaf v => simp at h
      | openList => simp at h
      | openRecord => simp at h
      | name n =>
        simp only [Option.some.injEq, Prod.mk.injEq, and_true] at h
        rw [← h]
        show Fits p (match sh.frames with
          | [] => []
          | f :: r => f.beginField n :: r)
        cases hf : sh.frames with
        | nil => trivial
        | cons f r =>
          rw [hf] at F
          exact F
      | close l =>
        simp only [Option.some.injEq, Prod.mk.injEq, and_true] at h
        rw [← h]
        show Fits p sh.frames.tail
        cases hf : sh.frames with
        | nil => trivial
        | cons f r =>
          rw [hf] at F
          exact F.2
    · cases h
  · intro q h hh
    obtain ⟨h0, hfa⟩ := meet_live hh
    have F := (L h0).within
    unfold Shp.come at h
    split at h
    · cases t with
      | leaf v =>
        simp only [Option.some.injEq, Prod.mk.injEq] at h
        rw [← h.1]
        exact F
      | openList =>
        simp only [Option.some.injEq, Prod.mk.injEq] at h
        rw [← h.1]
        rw [← h.2] at hfa
        exact ⟨fun hr w hw => hfa hr w (by rw [placeOf_length]; exact hw), F⟩
      | openRecord =>
        simp only [Option.some.injEq, Prod.mk.injEq] at h
        rw [← h.1]
        rw [← h.2] at hfa
        exact ⟨fun hr w hw => hfa hr w (by rw [placeOf_length]; exact hw), F⟩
      | name n => simp at h
      | close l => simp at h
    · cases h
end TS
end
section
set_option Elab.async false
set_option linter.all false
/-! The mirror of the readers: names, numbers, leaves, tokens, trees, questions. -/
namespace TS
open Vapaqa (Text Name Tree Row Step Place Fault Ask isSmall isDigit isSign isName textBefore ascii off tText tNum tNull tBool)
open Vapaqf (Head Test Way Plan Token)

/-! ### 1. Names, numbers, leaves: what is read, and what stands behind it -/
def isWordB (c : UInt8) : Bool := isSmall c || isDigit c
def rdName (t : Text) : Option (Name × Text) := if t.head?.any isSmall = true then (if (t.takeWhile isWordB).length ≤ 10 then some (t.takeWhile isWordB, t.dropWhile isWordB) else none) else none
def val (w : Text) : Nat := w.foldl (fun n b => 10 * n + (b.toNat - 48)) 0
def unsigned (t : Text) : Text := if t.head? = some 45 then t.tail else t
def rdNumber (lo hi : Int) (t : Text) : Option (Int × Text) :=
  if (((unsigned t).takeWhile isDigit).isEmpty || ((unsigned t).head? == some 48 && (t.head? == some 45 || decide (1 < ((unsigned t).takeWhile isDigit).length)))) = true then none
  else (let z : Int := if t.head? = some 45 then -(val ((unsigned t).takeWhile isDigit) : Int) else (val ((unsigned t).takeWhile isDigit) : Int)
    if z < lo ∨ hi < z then none else some (z, (unsigned t).dropWhile isDigit))
/-- what stands in marks, behind the opening one; n more signs may come -/
def rdInner : Nat → Text → Option (Text × Text)
  | n, 34 :: r => some ([], r)
  | n, 92 :: c :: r => if c = 34 ∨ c = 92 then (match n with
      | 0 => none
      | k + 1 => (rdInner k r).map fun x => (c :: x.1, x.2)) else none
  | n, b :: r => if (isSign b && b != 92) = true then (match n with
      | 0 => none
      | k + 1 => (rdInner k r).map fun x => (b :: x.1, x.2)) else none
  | _, [] => none
def wNull : Text := [110, 117, 108, 108]
def wFalse : Text := [102, 97, 108, 115, 101]
def wTrue : Text := [116, 114, 117, 101]
def rdLeaf (t : Text) : Option (Tree × Text) :=
  if t.head? = some 34 then (rdInner 20 t.tail).map fun x => (tText x.1, x.2)
  else if (t.head? == some 45 || t.head?.any isDigit) = true then (rdNumber (-1000000000) 1000000000 t).map fun x => (tNum x.1, x.2)
  else match off wNull t with
    | some r => some (tNull, r)
    | none => match off wFalse t with
      | some r => some (tBool false, r)
      | none => (off wTrue t).map fun r => (tBool true, r)

/-! ### 2. Tokens -/
def rdNameTok (t : Text) : Option (Token × Text) := (rdName t).bind fun x => (off [58] x.2).map fun r => (.name x.1, r)
def rdHead (t : Text) : Option (Token × Text) := match off [91] t with
  | some r => some (.openList, r)
  | none => match off [123] t with
    | some r => some (.openRecord, r)
    | none => (rdLeaf t).map fun x => (.leaf x.1, x.2)
def seesEnd (t : Text) : Bool := (off [93] t).isSome || (off [125] t).isSome
def rdEnd (t : Text) : Token × Text := (.close (off [93] t).isSome, t.tail)
def tokOf (t : Text) : Option Token := (if (t.head?.any isSmall && t.getLast? == some 58) = true then rdNameTok t else if seesEnd t = true then some (rdEnd t) else rdHead t).bind fun x => if x.2 = [] then some x.1 else none

/-! ### 3. Trees, token by token -/
def nextTok (t : Text) (sh : Shp) : Option (Token × Text) := if seesEnd t = true then some (rdEnd t)
  else (if sh.awaitsComma = true then off [44, 32] t else some t).bind fun u => if sh.awaitsName = true then (rdNameTok u).bind fun x => (off [32] x.2).map fun r => (x.1, r) else rdHead u
def toks : Nat → Shp → Text → Option (List Token)
  | 0, _, _ => none
  | f + 1, sh, t => if sh.isWhole = true then (if t = [] then some [] else none)
    else (nextTok t sh).bind fun x => (sh.come x.1).bind fun y => (toks f y.1 x.2).map fun l => x.1 :: l
def treeToks (t : Text) : Option (List Token) := toks (t.length + 1) .fresh t

/-! ### 4. Questions -/
structure RS where
  rest : Text
  nodes : Nat
  plan : Plan
def stageOf (p : Plan) : Nat := if p.test.isSome = true then 2 else if p.deep = true then 1 else 0
def RS.node (s : RS) : Option RS := if 30 ≤ s.nodes then none else some { s with nodes := s.nodes + 1 }
def RS.need (w : Text) (s : RS) : Option RS := (off w s.rest).map fun r => { s with rest := r }
def wNot : Text := [110, 111, 116, 40]
def wAnd : Text := [32, 97, 110, 100, 32]
def wOr : Text := [32, 111, 114, 32]
def wSame : Text := [46, 32, 61, 32]
def wLess : Text := [46, 32, 60, 32]
def wMore : Text := [32, 60, 32, 46]
def wWhere : Text := [119, 104, 101, 114, 101, 40]
def wPipe : Text := [32, 124, 32]
def wTry : Text := [116, 114, 121, 40]
def wFirst : Text := [102, 105, 114, 115, 116, 40]
def wCount : Text := [99, 111, 117, 110, 116, 40]
def wSum : Text := [115, 117, 109, 40]
/-- a comparison: the two nodes, then the text -/
def rdCmp (t : Text) (n : Nat) : Option (Test × Text × Nat) := if 29 ≤ n then none else match off wSame t with
  | some u => (rdLeaf u).map fun x => (.same x.1, x.2, n + 2)
  | none => match off wLess t with
    | some u => (rdLeaf u).map fun x => (.less x.1, x.2, n + 2)
    | none => (rdLeaf t).bind fun x => (off wMore x.2).map fun r => (.more x.1, r, n + 2)
def rdCond : Nat → Text → Nat → Option (Test × Text × Nat)
  | 0, _, _ => none
  | f + 1, t, n => if 30 ≤ n then none else match off wNot t with
    | some u => (rdCond f u (n + 1)).bind fun x => (off [41] x.2.1).map fun r => (.not_ x.1, r, x.2.2)
    | none => (off [40] t).bind fun u =>
      (if ((off [40] u).isSome || (off wNot u).isSome) = true then
        (rdCond f u (n + 1)).bind fun x => match off wAnd x.2.1 with
          | some v => (rdCond f v x.2.2).map fun y => (.and_ x.1 y.1, y.2.1, y.2.2)
          | none => (off wOr x.2.1).bind fun v => (rdCond f v x.2.2).map fun y => (.or_ x.1 y.1, y.2.1, y.2.2)
      else rdCmp u (n + 1)).bind fun x => (off [41] x.2.1).map fun r => (x.1, r, x.2.2)
def rdHigh (low : Nat) (t : Text) : Option (Way × Text) := (off [58] t).bind fun u => match off [93] u with
  | some r => some (.items low none, r)
  | none => (rdNumber 0 100 u).bind fun x => (off [93] x.2).map fun r => (.items low (some x.1.toNat), r)
def rdBrackets (t : Text) : Option (Way × Text) := match off [93] t with
  | some r => some (.each, r)
  | none => if (off [58] t).isSome = true then rdHigh 0 t
    else (rdNumber 0 100 t).bind fun x => match off [93] x.2 with
      | some r => some (.items x.1.toNat (some (x.1.toNat + 1)), r)
      | none => rdHigh x.1.toNat x.2
def RS.step (s : RS) (w : Way) : Option RS := if stageOf s.plan = 0 then some { s with plan := { s.plan with steps := s.plan.steps ++ [w] } } else none
def rdLink (f : Nat) (s : RS) : Option RS := match off wWhere s.rest with
  | some u => if stageOf s.plan ≤ 1 then (rdCond f u s.nodes).bind fun x => (off [41] x.2.1).map fun r => { rest := r, nodes := x.2.2, plan := { s.plan with test := some x.1 } } else none
  | none => match off [46, 46] s.rest with
    | some u => if stageOf s.plan = 0 then some { s with rest := u, plan := { s.plan with deep := true } } else none
    | none => match off [46, 91] s.rest with
      | some u => (rdBrackets u).bind fun x => ({ s with rest := x.2 } : RS).step x.1
      | none => (off [46] s.rest).bind fun u => if u.head?.any isSmall = true then (rdName u).bind fun x => ({ s with rest := x.2 } : RS).step (.field x.1) else some { s with rest := u }
def rdChain : Nat → RS → Option RS
  | 0, _ => none
  | f + 1, s => s.node.bind fun s => match off [40] s.rest with
    | some u => (rdChain f { s with rest := u }).bind fun s => (s.need wPipe).bind fun s => (rdChain f s).bind fun s => s.need [41]
    | none => rdLink f s
def rdTold (f : Nat) (s : RS) : Option RS := match off wTry s.rest with
  | some u => ({ s with rest := u } : RS).node.bind fun s => (rdChain f { s with plan := { s.plan with tried := true } }).bind fun s => s.need [41]
  | none => match off wFirst s.rest with
    | some u => ({ s with rest := u } : RS).node.bind fun s => (rdNumber 0 60 s.rest).bind fun x => (({ s with rest := x.2, plan := { s.plan with limit := some x.1.toNat } } : RS).need [44, 32]).bind fun s => (rdChain f s).bind fun s => s.need [41]
    | none => rdChain f s
def planAt (g : Nat) : Plan := { steps := [], deep := false, test := none, limit := none, tried := false, gather := g }
def rdWhole (t : Text) : Option Plan := (match off wCount t with
  | some u => (RS.node ⟨u, 0, planAt 1⟩).bind fun s => (rdTold 31 s).bind fun s => s.need [41]
  | none => match off wSum t with
    | some u => (RS.node ⟨u, 0, planAt 2⟩).bind fun s => (rdTold 31 s).bind fun s => s.need [41]
    | none => rdTold 31 ⟨t, 0, planAt 0⟩).bind fun s => if s.rest = [] then some s.plan else none
end TS
end
section
set_option Elab.async false
set_option linter.all false
/-! What the readers of leaves, names and tokens have read is what would be written, and what would be written they read. -/
namespace TS
open Vapaqa (Text Name Tree Row Step Place Fault Ask isSmall isDigit isSign isName textBefore ascii off tText tNum tNull tBool)
open Vapaqf (Head Test Way Plan Token)
theorem bt {a b : Bool} (h : (a && b) = true) : a = true ∧ b = true := Bool.and_eq_true_iff.mp h
/-! ### numbers -/
theorem digitsFrom_succ (f n : Nat) : Vapaqa.digitsFrom (f + 1) n = if n < 10 then [UInt8.ofNat (48 + n)] else Vapaqa.digitsFrom f (n / 10) ++ [UInt8.ofNat (48 + n % 10)] := rfl
theorem digitsFrom_fuel : ∀ (f g n : Nat), n < f → n < g → Vapaqa.digitsFrom f n = Vapaqa.digitsFrom g n
  | 0, _, _, h, _ => by omega
  | _ + 1, 0, _, _, h => by omega
  | f + 1, g + 1, n, h1, h2 => by
    rw [digitsFrom_succ, digitsFrom_succ]
    by_cases h : n < 10
    · rw [if_pos h, if_pos h]
    · rw [if_neg h, if_neg h, digitsFrom_fuel f g (n / 10) (by omega) (by omega)]
theorem decimal_small {n : Nat} (h : n < 10) : Vapaqa.decimal n = [UInt8.ofNat (48 + n)] := by
  unfold Vapaqa.decimal
  rw [digitsFrom_succ, if_pos h]
theorem decimal_step {n d : Nat} (hn : 1 ≤ n) (hd : d < 10) : Vapaqa.decimal (10 * n + d) = Vapaqa.decimal n ++ [UInt8.ofNat (48 + d)] := by
  unfold Vapaqa.decimal
  rw [digitsFrom_succ, if_neg (by omega)]
  have e1 : (10 * n + d) / 10 = n := by omega
  have e2 : (10 * n + d) % 10 = d := by omega
  rw [e1, e2, digitsFrom_fuel (10 * n + d) (n + 1) n (by omega) (by omega)]
theorem val_cons_le (b : UInt8) (r : Text) : b.toNat - 48 ≤ val (b :: r) := by
  have h : ∀ (r : Text) (n : Nat), n ≤ r.foldl (fun n b => 10 * n + (b.toNat - 48)) n := by
    intro r
    induction r with
    | nil => intro n; exact Nat.le_refl _
    | cons c r ih => intro n; exact Nat.le_trans (by omega) (ih (10 * n + (c.toNat - 48)))
  have := h r (10 * 0 + (b.toNat - 48))
  show b.toNat - 48 ≤ r.foldl (fun n b => 10 * n + (b.toNat - 48)) (10 * 0 + (b.toNat - 48))
  omega
theorem isDigit_iff {b : UInt8} : isDigit b = true ↔ 48 ≤ b.toNat ∧ b.toNat ≤ 57 := by
  unfold isDigit
  rw [Bool.and_eq_true, decide_eq_true_eq, decide_eq_true_eq, UInt8.le_iff_toNat_le, UInt8.le_iff_toNat_le]
  exact Iff.rfl
theorem isSmall_iff {b : UInt8} : isSmall b = true ↔ 97 ≤ b.toNat ∧ b.toNat ≤ 122 := by
  unfold isSmall
  rw [Bool.and_eq_true, decide_eq_true_eq, decide_eq_true_eq, UInt8.le_iff_toNat_le, UInt8.le_iff_toNat_le]
  exact Iff.rfl
theorem toNat_ne {b : UInt8} {n : Nat} (hn : n < 256) (h : b ≠ UInt8.ofNat n) : b.toNat ≠ n := fun z => h (by rw [← z]; simp)
theorem val_pos {w : Text} (hne : w ≠ []) (hd : w.all isDigit = true) (h0 : w.head? ≠ some 48) : 1 ≤ val w := by
  cases w with
  | nil => exact absurd rfl hne
  | cons b r =>
    have h1 := val_cons_le b r
    have h2 : b ≠ 48 := fun z => h0 (by rw [z]; rfl)
    have h3 := (isDigit_iff.mp (List.all_eq_true.mp hd b List.mem_cons_self)).1
    have h4 : b.toNat ≠ 48 := toNat_ne (n := 48) (by omega) h2
    omega
theorem val_snoc' (w : Text) (b : UInt8) : val (w ++ [b]) = 10 * val w + (b.toNat - 48) := by simp [val, List.foldl_append]
theorem decimal_val : ∀ (n : Nat) (w : Text), w.length = n → w ≠ [] → w.all isDigit = true → (w.head? ≠ some 48 ∨ w.length = 1) → Vapaqa.decimal (val w) = w := by
  intro n
  induction n with
  | zero =>
    intro w hl hne
    exact absurd (List.length_eq_zero_iff.mp hl) hne
  | succ n ih =>
    intro w hl hne hd h0
    rcases List.eq_nil_or_concat w with rfl | ⟨u, b, rfl⟩
    · exact absurd rfl hne
    · rw [List.concat_eq_append] at *
      rw [val_snoc']
      have hb : isDigit b = true := List.all_eq_true.mp hd b (by simp)
      have hb2 := isDigit_iff.mp hb
      have hbb : UInt8.ofNat (48 + (b.toNat - 48)) = b := by
        have : 48 + (b.toNat - 48) = b.toNat := by omega
        rw [this]
        simp
      by_cases hu : u = []
      · subst hu
        show Vapaqa.decimal (10 * 0 + (b.toNat - 48)) = [b]
        rw [show 10 * 0 + (b.toNat - 48) = b.toNat - 48 by omega, decimal_small (by omega), hbb]
      · have hud : u.all isDigit = true := by
          rw [List.all_append] at hd
          exact (bt hd).1
        have hh : (u ++ [b]).head? = u.head? := by
          cases u with
          | nil => exact absurd rfl hu
          | cons c r => rfl
        have hu0 : u.head? ≠ some 48 := by
          rcases h0 with h0 | h0
          · rw [hh] at h0
            exact h0
          · simp at h0
            exact absurd h0 hu
        rw [decimal_step (val_pos hu hud hu0) (by omega), ih u (by simpa using hl) hu hud (.inl hu0), hbb]
theorem head_takeWhile {p : UInt8 → Bool} {s : Text} (h : s.takeWhile p ≠ []) : (s.takeWhile p).head? = s.head? := by
  cases s with
  | nil => rfl
  | cons b r =>
    by_cases hb : p b = true
    · rw [List.takeWhile_cons, if_pos hb]
      rfl
    · rw [List.takeWhile_cons, if_neg hb] at h
      exact absurd rfl h
theorem all_tw {p : UInt8 → Bool} (s : Text) : (s.takeWhile p).all p = true := List.all_takeWhile
theorem tw_dw {p : UInt8 → Bool} (s : Text) : s.takeWhile p ++ s.dropWhile p = s := List.takeWhile_append_dropWhile
theorem rdNumber_sound {lo hi : Int} {s r : Text} {z : Int} (h : rdNumber lo hi s = some (z, r)) : s = Vapaqa.integer z ++ r ∧ lo ≤ z ∧ z ≤ hi := by
  unfold rdNumber at h
  split at h
  · cases h
  · rename_i hg
    simp only [Bool.or_eq_true, Bool.and_eq_true, not_or, Bool.not_eq_true] at hg
    obtain ⟨hg1, hg2⟩ := hg
    have hne : (unsigned s).takeWhile isDigit ≠ [] := fun q => by rw [q] at hg1; cases hg1
    have hall := all_tw (p := isDigit) (unsigned s)
    have hcat := tw_dw (p := isDigit) (unsigned s)
    have hhd := head_takeWhile (p := isDigit) hne
    generalize hw : (unsigned s).takeWhile isDigit = w at *
    by_cases hneg : s.head? = some 45
    · simp only [if_pos hneg] at h
      by_cases hz : (-(val w : Int)) < lo ∨ hi < (-(val w : Int))
      · rw [if_pos hz] at h
        cases h
      rw [if_neg hz] at h
      simp only [Option.some.injEq, Prod.mk.injEq] at h
      obtain ⟨hz1, hz2⟩ := h
      rw [hz2] at hcat
      cases s with
      | nil => cases hneg
      | cons b s' =>
        have hb : b = 45 := by simpa using hneg
        subst hb
        have hu : unsigned (45 :: s') = s' := by simp [unsigned]
        rw [hu] at hhd hcat hg2
        have h48 : s'.head? ≠ some 48 := by
          intro q
          rw [q] at hg2
          simp at hg2
        rw [← hhd] at h48
        have hp := val_pos hne hall h48
        have hd := decimal_val _ w rfl hne hall (.inl h48)
        refine ⟨?_, by omega, by omega⟩
        rw [← hz1]
        unfold Vapaqa.integer
        rw [if_pos (by omega), show (-(val w : Int)).natAbs = val w by omega, hd, List.cons_append, hcat]
    · simp only [if_neg hneg] at h
      by_cases hz : (val w : Int) < lo ∨ hi < (val w : Int)
      · rw [if_pos hz] at h
        cases h
      rw [if_neg hz] at h
      simp only [Option.some.injEq, Prod.mk.injEq] at h
      obtain ⟨hz1, hz2⟩ := h
      rw [hz2] at hcat
      have hu : unsigned s = s := by simp [unsigned, hneg]
      rw [hu] at hhd hcat hg2
      have h48 : w.head? ≠ some 48 ∨ w.length = 1 := by
        by_cases q : s.head? = some 48
        · right
          have hlt : ¬ 1 < w.length := fun z => hg2 ⟨by simp [q], .inr (decide_eq_true z)⟩
          have hpos : 0 < w.length := List.length_pos_iff.mpr hne
          omega
        · left
          rw [hhd]
          exact q
      have hd := decimal_val _ w rfl hne hall h48
      refine ⟨?_, by omega, by omega⟩
      rw [← hz1]
      unfold Vapaqa.integer
      rw [if_neg (by omega), show ((val w : Nat) : Int).toNat = val w by omega, hd, hcat]
/-! ### texts in marks, leaves, names -/
theorem rdInner_nil (n : Nat) : rdInner n [] = none := by unfold rdInner; rfl
theorem rdInner_end (n : Nat) (r : Text) : rdInner n (34 :: r) = some ([], r) := by unfold rdInner; rfl
theorem rdInner_esc (n : Nat) (c : UInt8) (r : Text) (h : c = 34 ∨ c = 92) : rdInner n (92 :: c :: r) = (match n with
      | 0 => none
      | k + 1 => (rdInner k r).map fun x => (c :: x.1, x.2)) := by
  rw [rdInner.eq_def]
  simp only [if_pos h]
  all_goals (cases n <;> rfl)
theorem rdInner_bad (n : Nat) (r : Text) (h : ∀ c s, r = c :: s → ¬ (c = 34 ∨ c = 92)) : rdInner n (92 :: r) = none := by
  cases r with
  | nil => unfold rdInner; rfl
  | cons c s =>
    rw [rdInner.eq_def]
    simp only [if_neg (h c s rfl)]
theorem rdInner_one (n : Nat) (b : UInt8) (r : Text) (h1 : b ≠ 34) (h2 : b ≠ 92) : rdInner n (b :: r) = if isSign b = true then (match n with
      | 0 => none
      | k + 1 => (rdInner k r).map fun x => (b :: x.1, x.2)) else none := by
  rw [rdInner.eq_def]
  have e : (isSign b && b != 92) = isSign b := by simp [h2]
  split
  · rename_i h; simp at h; exact absurd h.1 h1
  · rename_i h; simp at h; exact absurd h.1 h2
  · rename_i heq
    simp at heq
    obtain ⟨rfl, rfl⟩ := heq
    rw [e]
    all_goals (split <;> first | rfl | (rename_i k _ _ _ _ _; cases k <;> rfl))
  · rename_i h; simp at h
theorem rdInner_sound : ∀ (m n : Nat) (s u r : Text), s.length ≤ m → rdInner n s = some (u, r) → s = u.flatMap (fun b => if b = 34 ∨ b = 92 then [92, b] else [b]) ++ 34 :: r ∧ u.length ≤ n ∧ u.all isSign = true := by
  intro m
  induction m with
  | zero =>
    intro n s u r hl h
    have : s = [] := List.length_eq_zero_iff.mp (by omega)
    subst this
    rw [rdInner_nil] at h
    cases h
  | succ m ih =>
    intro n s u r hl h
    cases s with
    | nil =>
      rw [rdInner_nil] at h
      cases h
    | cons b s =>
      by_cases h34 : b = 34
      · subst h34
        rw [rdInner_end] at h
        simp only [Option.some.injEq, Prod.mk.injEq] at h
        obtain ⟨rfl, rfl⟩ := h
        exact ⟨rfl, Nat.zero_le _, rfl⟩
      by_cases h92 : b = 92
      · subst h92
        by_cases hc : ∃ c s', s = c :: s' ∧ (c = 34 ∨ c = 92)
        · obtain ⟨c, s', rfl, hc⟩ := hc
          rw [rdInner_esc n c s' hc] at h
          cases n with
          | zero => cases h
          | succ k =>
            obtain ⟨x, hx, he⟩ := Option.map_eq_some_iff.mp h
            simp only [Prod.mk.injEq] at he
            obtain ⟨rfl, rfl⟩ := he
            obtain ⟨i1, i2, i3⟩ := ih k s' x.1 x.2 (by simp at hl; omega) hx
            refine ⟨?_, by simp; omega, ?_⟩
            · rw [List.flatMap_cons, if_pos hc]
              simp [← i1]
            · rw [List.all_cons, i3, Bool.and_true]
              rcases hc with rfl | rfl <;> rfl
        · rw [rdInner_bad n s (fun c s' e z => hc ⟨c, s', e, z⟩)] at h
          cases h
      · rw [rdInner_one n b s h34 h92] at h
        split at h
        · rename_i hs
          cases n with
          | zero => cases h
          | succ k =>
            obtain ⟨x, hx, he⟩ := Option.map_eq_some_iff.mp h
            simp only [Prod.mk.injEq] at he
            obtain ⟨rfl, rfl⟩ := he
            obtain ⟨i1, i2, i3⟩ := ih k s x.1 x.2 (by simp at hl; omega) hx
            refine ⟨?_, by simp; omega, ?_⟩
            · rw [List.flatMap_cons, if_neg (fun z => z.elim h34 h92)]
              simp [← i1]
            · rw [List.all_cons, i3, hs]
              rfl
        · cases h
theorem off_eq {w s r : Text} (h : off w s = some r) : s = w ++ r := by
  unfold off at h
  split at h
  · rename_i hp
    obtain ⟨u, rfl⟩ := List.isPrefixOf_iff_prefix.mp hp
    have := Option.some.inj h
    rw [← this]
    simp
  · cases h
theorem off_append (w r : Text) : off w (w ++ r) = some r := by
  unfold off
  rw [if_pos (List.isPrefixOf_iff_prefix.mpr (List.prefix_append w r))]
  simp
def LeafOk (v : Tree) : Prop := Vapaqa.isLeaf v = true ∧ Vapaqa.isTree v = true
theorem leaf_null : LeafOk tNull := ⟨rfl, rfl⟩
theorem leaf_bool (b : Bool) : LeafOk (tBool b) := ⟨rfl, rfl⟩
theorem leaf_num {z : Int} (h : z.natAbs ≤ 1000000000) : LeafOk (tNum z) := by
  refine ⟨rfl, ?_⟩
  have : decide (z.natAbs ≤ Vapaqa.GREATEST) = true := decide_eq_true h
  unfold Vapaqa.isTree tNum
  simp [Vapaqa.entries, Vapaqa.isRow, Vapaqa.nameRight, this, Vapaqa.count, Vapaqa.deep, Vapaqa.ENTRIES, Vapaqa.DEEP]
theorem leaf_text {u : Text} (h1 : u.length ≤ 20) (h2 : u.all isSign = true) : LeafOk (tText u) := by
  refine ⟨rfl, ?_⟩
  have : Vapaqa.isText u = true := by unfold Vapaqa.isText; rw [h2]; simp [Vapaqa.TEXT, h1]
  unfold Vapaqa.isTree tText
  simp [Vapaqa.entries, Vapaqa.isRow, Vapaqa.nameRight, this, Vapaqa.count, Vapaqa.deep, Vapaqa.ENTRIES, Vapaqa.DEEP]
theorem treeText_null : Vapaqa.treeText tNull = wNull := by decide
theorem treeText_bool (b : Bool) : Vapaqa.treeText (tBool b) = if b = true then wTrue else wFalse := by cases b <;> decide
theorem treeText_num (z : Int) : Vapaqa.treeText (tNum z) = Vapaqa.integer z := by
  unfold Vapaqa.treeText tNum
  simp [Vapaqa.rowText, Vapaqa.nameText, Vapaqa.more]
theorem treeText_text (u : Text) : Vapaqa.treeText (tText u) = Vapaqa.quoted u := by
  unfold Vapaqa.treeText tText
  simp [Vapaqa.rowText, Vapaqa.nameText, Vapaqa.more]
theorem rdLeaf_sound {s r : Text} {v : Tree} (h : rdLeaf s = some (v, r)) : s = Vapaqa.treeText v ++ r ∧ LeafOk v := by
  unfold rdLeaf at h
  split at h
  · rename_i h34
    obtain ⟨x, hx, he⟩ := Option.map_eq_some_iff.mp h
    simp only [Prod.mk.injEq] at he
    obtain ⟨rfl, rfl⟩ := he
    obtain ⟨i1, i2, i3⟩ := rdInner_sound _ 20 s.tail x.1 x.2 (Nat.le_refl _) hx
    refine ⟨?_, leaf_text i2 i3⟩
    cases s with
    | nil => cases h34
    | cons b s' =>
      have hb : b = 34 := by simpa using h34
      subst hb
      rw [treeText_text]
      unfold Vapaqa.quoted
      simp only [List.tail_cons] at i1
      rw [List.cons_append, List.append_assoc]
      exact congrArg _ i1
  · split at h
    · obtain ⟨x, hx, he⟩ := Option.map_eq_some_iff.mp h
      simp only [Prod.mk.injEq] at he
      obtain ⟨rfl, rfl⟩ := he
      obtain ⟨i1, i2, i3⟩ := rdNumber_sound hx
      rw [treeText_num]
      exact ⟨i1, leaf_num (by omega)⟩
    · split at h
      · rename_i r' ho
        simp only [Option.some.injEq, Prod.mk.injEq] at h
        obtain ⟨rfl, rfl⟩ := h
        rw [treeText_null]
        exact ⟨off_eq ho, leaf_null⟩
      · split at h
        · rename_i r' ho
          simp only [Option.some.injEq, Prod.mk.injEq] at h
          obtain ⟨rfl, rfl⟩ := h
          rw [treeText_bool]
          exact ⟨off_eq ho, leaf_bool _⟩
        · obtain ⟨x, hx, he⟩ := Option.map_eq_some_iff.mp h
          simp only [Prod.mk.injEq] at he
          obtain ⟨rfl, rfl⟩ := he
          rw [treeText_bool]
          exact ⟨off_eq hx, leaf_bool _⟩
theorem rdName_sound {s n r : Text} (h : rdName s = some (n, r)) : s = n ++ r ∧ isName n = true := by
  unfold rdName at h
  split at h
  · rename_i h1
    split at h
    · rename_i h2
      simp only [Option.some.injEq, Prod.mk.injEq] at h
      obtain ⟨rfl, rfl⟩ := h
      refine ⟨(tw_dw _).symm, ?_⟩
      have hh : (s.takeWhile isWordB).head? = s.head? := by
        cases s with
        | nil => rfl
        | cons b r =>
          have hb : isSmall b = true := h1
          rw [List.takeWhile_cons, if_pos (by unfold isWordB; rw [hb]; rfl)]
          rfl
      unfold isName
      rw [hh, h1, Bool.true_and, Bool.and_eq_true]
      exact ⟨decide_eq_true h2, all_tw _⟩
    · cases h
  · cases h
theorem isName_ne {n : Text} (h : isName n = true) : n ≠ [] := by
  rintro rfl
  cases h
end TS
end
section
set_option Elab.async false
set_option linter.all false
set_option maxRecDepth 100000
set_option maxHeartbeats 4000000
/-! The program's text by places; what the top has left, as facts by names; a def's promise, bound and at hand. -/
namespace TS
open PySem PySem.Spec PyProof.Rows L2
/-- the i-th statement of the program -/
def top (i : Nat) : Stmt := PySem.Challenge.pw_treestream_s01_answers.main.body.getD i (.Pass ⟨0, 0, 0, 0⟩)
abbrev s_codes : Stmt := top 5
abbrev s_byte_at : Stmt := top 6
abbrev s_starts : Stmt := top 7
abbrev s_behind : Stmt := top 8
abbrev s_counted : Stmt := top 9
abbrev s_is_small_letter : Stmt := top 21
abbrev s_is_digit : Stmt := top 22
abbrev s_is_sign : Stmt := top 23
abbrev s_read_name : Stmt := top 24
abbrev s_read_number : Stmt := top 25
abbrev s_read_marked : Stmt := top 26
abbrev s_read_leaf : Stmt := top 27
abbrev s_Token_init : Stmt := inClass (top 36) 0
abbrev s_Token_begins_tree : Stmt := inClass (top 36) 1
abbrev s_read_name_token : Stmt := top 37
abbrev s_read_head : Stmt := top 38
abbrev s_sees_end : Stmt := top 39
abbrev s_read_end : Stmt := top 40
abbrev s_token_of : Stmt := top 41
abbrev s_SameAs_init : Stmt := inClass (top 43) 0
abbrev s_SameAs_holds : Stmt := inClass (top 43) 1
abbrev s_BeforeLeaf_init : Stmt := inClass (top 44) 0
abbrev s_BeforeLeaf_holds : Stmt := inClass (top 44) 1
abbrev s_BehindLeaf_init : Stmt := inClass (top 45) 0
abbrev s_BehindLeaf_holds : Stmt := inClass (top 45) 1
abbrev s_Negation_init : Stmt := inClass (top 46) 0
abbrev s_Negation_holds : Stmt := inClass (top 46) 1
abbrev s_BothOf_init : Stmt := inClass (top 47) 0
abbrev s_BothOf_holds : Stmt := inClass (top 47) 1
abbrev s_EitherOf_init : Stmt := inClass (top 48) 0
abbrev s_EitherOf_holds : Stmt := inClass (top 48) 1
abbrev s_FieldStep_init : Stmt := inClass (top 54) 0
abbrev s_FieldStep_fault_in : Stmt := inClass (top 54) 1
abbrev s_FieldStep_picks : Stmt := inClass (top 54) 2
abbrev s_ItemsStep_init : Stmt := inClass (top 55) 0
abbrev s_ItemsStep_fault_in : Stmt := inClass (top 55) 1
abbrev s_ItemsStep_picks : Stmt := inClass (top 55) 2
abbrev s_EachStep_fault_in : Stmt := inClass (top 56) 0
abbrev s_EachStep_picks : Stmt := inClass (top 56) 1
abbrev s_Question_init : Stmt := inClass (top 67) 0
abbrev s_QuestionReader_init : Stmt := inClass (top 68) 0
abbrev s_QuestionReader_sees : Stmt := inClass (top 68) 1
abbrev s_QuestionReader_need : Stmt := inClass (top 68) 2
abbrev s_QuestionReader_skips : Stmt := inClass (top 68) 3
abbrev s_QuestionReader_add_node : Stmt := inClass (top 68) 4
abbrev s_QuestionReader_number_up_to : Stmt := inClass (top 68) 5
abbrev s_QuestionReader_read_whole : Stmt := inClass (top 68) 6
abbrev s_QuestionReader_read_told : Stmt := inClass (top 68) 7
abbrev s_QuestionReader_read_chain : Stmt := inClass (top 68) 8
abbrev s_QuestionReader_read_link : Stmt := inClass (top 68) 9
abbrev s_QuestionReader_pass_stage : Stmt := inClass (top 68) 10
abbrev s_QuestionReader_add_step : Stmt := inClass (top 68) 11
abbrev s_QuestionReader_read_brackets : Stmt := inClass (top 68) 12
abbrev s_QuestionReader_read_condition : Stmt := inClass (top 68) 13
abbrev s_QuestionReader_read_pair : Stmt := inClass (top 68) 14
abbrev s_QuestionReader_read_comparison : Stmt := inClass (top 68) 15
abbrev s_QuestionReader_read_key : Stmt := inClass (top 68) 16
abbrev s_question_of : Stmt := top 69
abbrev s_place_text : Stmt := top 78
abbrev s_Search_init : Stmt := inClass (top 79) 0
abbrev s_Search_meet : Stmt := inClass (top 79) 1
abbrev s_Search_is_reached : Stmt := inClass (top 79) 2
abbrev s_Search_look_for_fault : Stmt := inClass (top 79) 3
abbrev s_Search_add_result : Stmt := inClass (top 79) 4
abbrev s_Search_end : Stmt := inClass (top 79) 5
abbrev s_Search_fault_of_sum : Stmt := inClass (top 79) 6
abbrev s_Frame_init : Stmt := inClass (top 85) 0
abbrev s_Frame_twin : Stmt := inClass (top 85) 1
abbrev s_Frame_takes_tree : Stmt := inClass (top 85) 2
abbrev s_Frame_takes_name : Stmt := inClass (top 85) 3
abbrev s_Frame_takes_end : Stmt := inClass (top 85) 4
abbrev s_Frame_begin_within : Stmt := inClass (top 85) 5
abbrev s_Frame_begin_field : Stmt := inClass (top 85) 6
abbrev s_Frame_way : Stmt := inClass (top 85) 7
abbrev s_Shape_init : Stmt := inClass (top 86) 0
abbrev s_Shape_twin : Stmt := inClass (top 86) 1
abbrev s_Shape_is_whole : Stmt := inClass (top 86) 2
abbrev s_Shape_has_room : Stmt := inClass (top 86) 3
abbrev s_Shape_awaits_name : Stmt := inClass (top 86) 4
abbrev s_Shape_awaits_comma : Stmt := inClass (top 86) 5
abbrev s_Shape_can_come : Stmt := inClass (top 86) 6
abbrev s_Shape_come : Stmt := inClass (top 86) 7
abbrev s_Shape_begin_tree : Stmt := inClass (top 86) 8
abbrev s_Stream_init : Stmt := inClass (top 88) 0
abbrev s_Stream_rehearse : Stmt := inClass (top 88) 1
abbrev s_Stream_hear : Stmt := inClass (top 88) 2
abbrev s_Stream_hear_all : Stmt := inClass (top 88) 3
abbrev s_Stream_finish : Stmt := inClass (top 88) 4
abbrev s_Stream_room : Stmt := inClass (top 88) 5
abbrev s_next_token : Stmt := top 90
abbrev s_tree_tokens : Stmt := top 91
abbrev s_Session_init : Stmt := inClass (top 94) 0
abbrev s_Session_ask : Stmt := inClass (top 94) 1
abbrev s_Session_hear_token : Stmt := inClass (top 94) 2
abbrev s_Session_hear_tree : Stmt := inClass (top 94) 3
abbrev s_Session_finish : Stmt := inClass (top 94) 4
abbrev s_Session_begin_again : Stmt := inClass (top 94) 5
abbrev s_Session_list_tokens : Stmt := inClass (top 94) 6
abbrev s_Session_answer_tree : Stmt := inClass (top 94) 7
abbrev s_Session_room : Stmt := inClass (top 94) 8
abbrev s_obey : Stmt := top 104
abbrev s_answer_of : Stmt := top 105
abbrev s_answers : Stmt := top 106
def d_codes : He.DefD := ⟨("codes", none), "codes", "codes", defArgs s_codes, defBody s_codes, defScope s_codes, [], []⟩
def d_byte_at : He.DefD := ⟨("byte_at", none), "byte_at", "byte_at", defArgs s_byte_at, defBody s_byte_at, defScope s_byte_at, [], []⟩
def d_starts : He.DefD := ⟨("starts", none), "starts", "starts", defArgs s_starts, defBody s_starts, defScope s_starts, [], []⟩
def d_behind : He.DefD := ⟨("behind", none), "behind", "behind", defArgs s_behind, defBody s_behind, defScope s_behind, [], []⟩
def d_counted : He.DefD := ⟨("counted", none), "counted", "counted", defArgs s_counted, defBody s_counted, defScope s_counted, [], []⟩
def d_is_small_letter : He.DefD := ⟨("is_small_letter", none), "is_small_letter", "is_small_letter", defArgs s_is_small_letter, defBody s_is_small_letter, defScope s_is_small_letter, [], []⟩
def d_is_digit : He.DefD := ⟨("is_digit", none), "is_digit", "is_digit", defArgs s_is_digit, defBody s_is_digit, defScope s_is_digit, [], []⟩
def d_is_sign : He.DefD := ⟨("is_sign", none), "is_sign", "is_sign", defArgs s_is_sign, defBody s_is_sign, defScope s_is_sign, [], []⟩
def d_read_name : He.DefD := ⟨("read_name", none), "read_name", "read_name", defArgs s_read_name, defBody s_read_name, defScope s_read_name, [], []⟩
def d_read_number : He.DefD := ⟨("read_number", none), "read_number", "read_number", defArgs s_read_number, defBody s_read_number, defScope s_read_number, [], []⟩
def d_read_marked : He.DefD := ⟨("read_marked", none), "read_marked", "read_marked", defArgs s_read_marked, defBody s_read_marked, defScope s_read_marked, [], []⟩
def d_read_leaf : He.DefD := ⟨("read_leaf", none), "read_leaf", "read_leaf", defArgs s_read_leaf, defBody s_read_leaf, defScope s_read_leaf, [], []⟩
def d_Token_init : He.DefD := ⟨("Token", some "__init__"), "__init__", "Token.__init__", defArgs s_Token_init, defBody s_Token_init, defScope s_Token_init, [], []⟩
def d_Token_begins_tree : He.DefD := ⟨("Token", some "begins_tree"), "begins_tree", "Token.begins_tree", defArgs s_Token_begins_tree, defBody s_Token_begins_tree, defScope s_Token_begins_tree, [], []⟩
def d_read_name_token : He.DefD := ⟨("read_name_token", none), "read_name_token", "read_name_token", defArgs s_read_name_token, defBody s_read_name_token, defScope s_read_name_token, [], []⟩
def d_read_head : He.DefD := ⟨("read_head", none), "read_head", "read_head", defArgs s_read_head, defBody s_read_head, defScope s_read_head, [], []⟩
def d_sees_end : He.DefD := ⟨("sees_end", none), "sees_end", "sees_end", defArgs s_sees_end, defBody s_sees_end, defScope s_sees_end, [], []⟩
def d_read_end : He.DefD := ⟨("read_end", none), "read_end", "read_end", defArgs s_read_end, defBody s_read_end, defScope s_read_end, [], []⟩
def d_token_of : He.DefD := ⟨("token_of", none), "token_of", "token_of", defArgs s_token_of, defBody s_token_of, defScope s_token_of, [], []⟩
def d_SameAs_init : He.DefD := ⟨("SameAs", some "__init__"), "__init__", "SameAs.__init__", defArgs s_SameAs_init, defBody s_SameAs_init, defScope s_SameAs_init, [], []⟩
def d_SameAs_holds : He.DefD := ⟨("SameAs", some "holds"), "holds", "SameAs.holds", defArgs s_SameAs_holds, defBody s_SameAs_holds, defScope s_SameAs_holds, [], []⟩
def d_BeforeLeaf_init : He.DefD := ⟨("BeforeLeaf", some "__init__"), "__init__", "BeforeLeaf.__init__", defArgs s_BeforeLeaf_init, defBody s_BeforeLeaf_init, defScope s_BeforeLeaf_init, [], []⟩
def d_BeforeLeaf_holds : He.DefD := ⟨("BeforeLeaf", some "holds"), "holds", "BeforeLeaf.holds", defArgs s_BeforeLeaf_holds, defBody s_BeforeLeaf_holds, defScope s_BeforeLeaf_holds, [], []⟩
def d_BehindLeaf_init : He.DefD := ⟨("BehindLeaf", some "__init__"), "__init__", "BehindLeaf.__init__", defArgs s_BehindLeaf_init, defBody s_BehindLeaf_init, defScope s_BehindLeaf_init, [], []⟩
def d_BehindLeaf_holds : He.DefD := ⟨("BehindLeaf", some "holds"), "holds", "BehindLeaf.holds", defArgs s_BehindLeaf_holds, defBody s_BehindLeaf_holds, defScope s_BehindLeaf_holds, [], []⟩
def d_Negation_init : He.DefD := ⟨("Negation", some "__init__"), "__init__", "Negation.__init__", defArgs s_Negation_init, defBody s_Negation_init, defScope s_Negation_init, [], []⟩
def d_Negation_holds : He.DefD := ⟨("Negation", some "holds"), "holds", "Negation.holds", defArgs s_Negation_holds, defBody s_Negation_holds, defScope s_Negation_holds, [], []⟩
def d_BothOf_init : He.DefD := ⟨("BothOf", some "__init__"), "__init__", "BothOf.__init__", defArgs s_BothOf_init, defBody s_BothOf_init, defScope s_BothOf_init, [], []⟩
def d_BothOf_holds : He.DefD := ⟨("BothOf", some "holds"), "holds", "BothOf.holds", defArgs s_BothOf_holds, defBody s_BothOf_holds, defScope s_BothOf_holds, [], []⟩
def d_EitherOf_init : He.DefD := ⟨("EitherOf", some "__init__"), "__init__", "EitherOf.__init__", defArgs s_EitherOf_init, defBody s_EitherOf_init, defScope s_EitherOf_init, [], []⟩
def d_EitherOf_holds : He.DefD := ⟨("EitherOf", some "holds"), "holds", "EitherOf.holds", defArgs s_EitherOf_holds, defBody s_EitherOf_holds, defScope s_EitherOf_holds, [], []⟩
def d_FieldStep_init : He.DefD := ⟨("FieldStep", some "__init__"), "__init__", "FieldStep.__init__", defArgs s_FieldStep_init, defBody s_FieldStep_init, defScope s_FieldStep_init, [], []⟩
def d_FieldStep_fault_in : He.DefD := ⟨("FieldStep", some "fault_in"), "fault_in", "FieldStep.fault_in", defArgs s_FieldStep_fault_in, defBody s_FieldStep_fault_in, defScope s_FieldStep_fault_in, [], []⟩
def d_FieldStep_picks : He.DefD := ⟨("FieldStep", some "picks"), "picks", "FieldStep.picks", defArgs s_FieldStep_picks, defBody s_FieldStep_picks, defScope s_FieldStep_picks, [], []⟩
def d_ItemsStep_init : He.DefD := ⟨("ItemsStep", some "__init__"), "__init__", "ItemsStep.__init__", defArgs s_ItemsStep_init, defBody s_ItemsStep_init, defScope s_ItemsStep_init, [], []⟩
def d_ItemsStep_fault_in : He.DefD := ⟨("ItemsStep", some "fault_in"), "fault_in", "ItemsStep.fault_in", defArgs s_ItemsStep_fault_in, defBody s_ItemsStep_fault_in, defScope s_ItemsStep_fault_in, [], []⟩
def d_ItemsStep_picks : He.DefD := ⟨("ItemsStep", some "picks"), "picks", "ItemsStep.picks", defArgs s_ItemsStep_picks, defBody s_ItemsStep_picks, defScope s_ItemsStep_picks, [], []⟩
def d_EachStep_fault_in : He.DefD := ⟨("EachStep", some "fault_in"), "fault_in", "EachStep.fault_in", defArgs s_EachStep_fault_in, defBody s_EachStep_fault_in, defScope s_EachStep_fault_in, [], []⟩
def d_EachStep_picks : He.DefD := ⟨("EachStep", some "picks"), "picks", "EachStep.picks", defArgs s_EachStep_picks, defBody s_EachStep_picks, defScope s_EachStep_picks, [], []⟩
def d_Question_init : He.DefD := ⟨("Question", some "__init__"), "__init__", "Question.__init__", defArgs s_Question_init, defBody s_Question_init, defScope s_Question_init, [], []⟩
def d_QuestionReader_init : He.DefD := ⟨("QuestionReader", some "__init__"), "__init__", "QuestionReader.__init__", defArgs s_QuestionReader_init, defBody s_QuestionReader_init, defScope s_QuestionReader_init, [], []⟩
def d_QuestionReader_sees : He.DefD := ⟨("QuestionReader", some "sees"), "sees", "QuestionReader.sees", defArgs s_QuestionReader_sees, defBody s_QuestionReader_sees, defScope s_QuestionReader_sees, [], []⟩
def d_QuestionReader_need : He.DefD := ⟨("QuestionReader", some "need"), "need", "QuestionReader.need", defArgs s_QuestionReader_need, defBody s_QuestionReader_need, defScope s_QuestionReader_need, [], []⟩
def d_QuestionReader_skips : He.DefD := ⟨("QuestionReader", some "skips"), "skips", "QuestionReader.skips", defArgs s_QuestionReader_skips, defBody s_QuestionReader_skips, defScope s_QuestionReader_skips, [], []⟩
def d_QuestionReader_add_node : He.DefD := ⟨("QuestionReader", some "add_node"), "add_node", "QuestionReader.add_node", defArgs s_QuestionReader_add_node, defBody s_QuestionReader_add_node, defScope s_QuestionReader_add_node, [], []⟩
def d_QuestionReader_number_up_to : He.DefD := ⟨("QuestionReader", some "number_up_to"), "number_up_to", "QuestionReader.number_up_to", defArgs s_QuestionReader_number_up_to, defBody s_QuestionReader_number_up_to, defScope s_QuestionReader_number_up_to, [], []⟩
def d_QuestionReader_read_whole : He.DefD := ⟨("QuestionReader", some "read_whole"), "read_whole", "QuestionReader.read_whole", defArgs s_QuestionReader_read_whole, defBody s_QuestionReader_read_whole, defScope s_QuestionReader_read_whole, [], []⟩
def d_QuestionReader_read_told : He.DefD := ⟨("QuestionReader", some "read_told"), "read_told", "QuestionReader.read_told", defArgs s_QuestionReader_read_told, defBody s_QuestionReader_read_told, defScope s_QuestionReader_read_told, [], []⟩
def d_QuestionReader_read_chain : He.DefD := ⟨("QuestionReader", some "read_chain"), "read_chain", "QuestionReader.read_chain", defArgs s_QuestionReader_read_chain, defBody s_QuestionReader_read_chain, defScope s_QuestionReader_read_chain, [], []⟩
def d_QuestionReader_read_link : He.DefD := ⟨("QuestionReader", some "read_link"), "read_link", "QuestionReader.read_link", defArgs s_QuestionReader_read_link, defBody s_QuestionReader_read_link, defScope s_QuestionReader_read_link, [], []⟩
def d_QuestionReader_pass_stage : He.DefD := ⟨("QuestionReader", some "pass_stage"), "pass_stage", "QuestionReader.pass_stage", defArgs s_QuestionReader_pass_stage, defBody s_QuestionReader_pass_stage, defScope s_QuestionReader_pass_stage, [], []⟩
def d_QuestionReader_add_step : He.DefD := ⟨("QuestionReader", some "add_step"), "add_step", "QuestionReader.add_step", defArgs s_QuestionReader_add_step, defBody s_QuestionReader_add_step, defScope s_QuestionReader_add_step, [], []⟩
def d_QuestionReader_read_brackets : He.DefD := ⟨("QuestionReader", some "read_brackets"), "read_brackets", "QuestionReader.read_brackets", defArgs s_QuestionReader_read_brackets, defBody s_QuestionReader_read_brackets, defScope s_QuestionReader_read_brackets, [], []⟩
def d_QuestionReader_read_condition : He.DefD := ⟨("QuestionReader", some "read_condition"), "read_condition", "QuestionReader.read_condition", defArgs s_QuestionReader_read_condition, defBody s_QuestionReader_read_condition, defScope s_QuestionReader_read_condition, [], []⟩
def d_QuestionReader_read_pair : He.DefD := ⟨("QuestionReader", some "read_pair"), "read_pair", "QuestionReader.read_pair", defArgs s_QuestionReader_read_pair, defBody s_QuestionReader_read_pair, defScope s_QuestionReader_read_pair, [], []⟩
def d_QuestionReader_read_comparison : He.DefD := ⟨("QuestionReader", some "read_comparison"), "read_comparison", "QuestionReader.read_comparison", defArgs s_QuestionReader_read_comparison, defBody s_QuestionReader_read_comparison, defScope s_QuestionReader_read_comparison, [], []⟩
def d_QuestionReader_read_key : He.DefD := ⟨("QuestionReader", some "read_key"), "read_key", "QuestionReader.read_key", defArgs s_QuestionReader_read_key, defBody s_QuestionReader_read_key, defScope s_QuestionReader_read_key, [], []⟩
def d_question_of : He.DefD := ⟨("question_of", none), "question_of", "question_of", defArgs s_question_of, defBody s_question_of, defScope s_question_of, [], []⟩
def d_place_text : He.DefD := ⟨("place_text", none), "place_text", "place_text", defArgs s_place_text, defBody s_place_text, defScope s_place_text, [], []⟩
def d_Search_init : He.DefD := ⟨("Search", some "__init__"), "__init__", "Search.__init__", defArgs s_Search_init, defBody s_Search_init, defScope s_Search_init, [], []⟩
def d_Search_meet : He.DefD := ⟨("Search", some "meet"), "meet", "Search.meet", defArgs s_Search_meet, defBody s_Search_meet, defScope s_Search_meet, [], []⟩
def d_Search_is_reached : He.DefD := ⟨("Search", some "is_reached"), "is_reached", "Search.is_reached", defArgs s_Search_is_reached, defBody s_Search_is_reached, defScope s_Search_is_reached, [], []⟩
def d_Search_look_for_fault : He.DefD := ⟨("Search", some "look_for_fault"), "look_for_fault", "Search.look_for_fault", defArgs s_Search_look_for_fault, defBody s_Search_look_for_fault, defScope s_Search_look_for_fault, [], []⟩
def d_Search_add_result : He.DefD := ⟨("Search", some "add_result"), "add_result", "Search.add_result", defArgs s_Search_add_result, defBody s_Search_add_result, defScope s_Search_add_result, [], []⟩
def d_Search_end : He.DefD := ⟨("Search", some "end"), "end", "Search.end", defArgs s_Search_end, defBody s_Search_end, defScope s_Search_end, [], []⟩
def d_Search_fault_of_sum : He.DefD := ⟨("Search", some "fault_of_sum"), "fault_of_sum", "Search.fault_of_sum", defArgs s_Search_fault_of_sum, defBody s_Search_fault_of_sum, defScope s_Search_fault_of_sum, [], []⟩
def d_Frame_init : He.DefD := ⟨("Frame", some "__init__"), "__init__", "Frame.__init__", defArgs s_Frame_init, defBody s_Frame_init, defScope s_Frame_init, [], []⟩
def d_Frame_twin : He.DefD := ⟨("Frame", some "twin"), "twin", "Frame.twin", defArgs s_Frame_twin, defBody s_Frame_twin, defScope s_Frame_twin, [], []⟩
def d_Frame_takes_tree : He.DefD := ⟨("Frame", some "takes_tree"), "takes_tree", "Frame.takes_tree", defArgs s_Frame_takes_tree, defBody s_Frame_takes_tree, defScope s_Frame_takes_tree, [], []⟩
def d_Frame_takes_name : He.DefD := ⟨("Frame", some "takes_name"), "takes_name", "Frame.takes_name", defArgs s_Frame_takes_name, defBody s_Frame_takes_name, defScope s_Frame_takes_name, [], []⟩
def d_Frame_takes_end : He.DefD := ⟨("Frame", some "takes_end"), "takes_end", "Frame.takes_end", defArgs s_Frame_takes_end, defBody s_Frame_takes_end, defScope s_Frame_takes_end, [], []⟩
def d_Frame_begin_within : He.DefD := ⟨("Frame", some "begin_within"), "begin_within", "Frame.begin_within", defArgs s_Frame_begin_within, defBody s_Frame_begin_within, defScope s_Frame_begin_within, [], []⟩
def d_Frame_begin_field : He.DefD := ⟨("Frame", some "begin_field"), "begin_field", "Frame.begin_field", defArgs s_Frame_begin_field, defBody s_Frame_begin_field, defScope s_Frame_begin_field, [], []⟩
def d_Frame_way : He.DefD := ⟨("Frame", some "way"), "way", "Frame.way", defArgs s_Frame_way, defBody s_Frame_way, defScope s_Frame_way, [], []⟩
def d_Shape_init : He.DefD := ⟨("Shape", some "__init__"), "__init__", "Shape.__init__", defArgs s_Shape_init, defBody s_Shape_init, defScope s_Shape_init, [], []⟩
def d_Shape_twin : He.DefD := ⟨("Shape", some "twin"), "twin", "Shape.twin", defArgs s_Shape_twin, defBody s_Shape_twin, defScope s_Shape_twin, [], []⟩
def d_Shape_is_whole : He.DefD := ⟨("Shape", some "is_whole"), "is_whole", "Shape.is_whole", defArgs s_Shape_is_whole, defBody s_Shape_is_whole, defScope s_Shape_is_whole, [], []⟩
def d_Shape_has_room : He.DefD := ⟨("Shape", some "has_room"), "has_room", "Shape.has_room", defArgs s_Shape_has_room, defBody s_Shape_has_room, defScope s_Shape_has_room, [], []⟩
def d_Shape_awaits_name : He.DefD := ⟨("Shape", some "awaits_name"), "awaits_name", "Shape.awaits_name", defArgs s_Shape_awaits_name, defBody s_Shape_awaits_name, defScope s_Shape_awaits_name, [], []⟩
def d_Shape_awaits_comma : He.DefD := ⟨("Shape", some "awaits_comma"), "awaits_comma", "Shape.awaits_comma", defArgs s_Shape_awaits_comma, defBody s_Shape_awaits_comma, defScope s_Shape_awaits_comma, [], []⟩
def d_Shape_can_come : He.DefD := ⟨("Shape", some "can_come"), "can_come", "Shape.can_come", defArgs s_Shape_can_come, defBody s_Shape_can_come, defScope s_Shape_can_come, [], []⟩
def d_Shape_come : He.DefD := ⟨("Shape", some "come"), "come", "Shape.come", defArgs s_Shape_come, defBody s_Shape_come, defScope s_Shape_come, [], []⟩
def d_Shape_begin_tree : He.DefD := ⟨("Shape", some "begin_tree"), "begin_tree", "Shape.begin_tree", defArgs s_Shape_begin_tree, defBody s_Shape_begin_tree, defScope s_Shape_begin_tree, [], []⟩
def d_Stream_init : He.DefD := ⟨("Stream", some "__init__"), "__init__", "Stream.__init__", defArgs s_Stream_init, defBody s_Stream_init, defScope s_Stream_init, [], []⟩
def d_Stream_rehearse : He.DefD := ⟨("Stream", some "rehearse"), "rehearse", "Stream.rehearse", defArgs s_Stream_rehearse, defBody s_Stream_rehearse, defScope s_Stream_rehearse, [], []⟩
def d_Stream_hear : He.DefD := ⟨("Stream", some "hear"), "hear", "Stream.hear", defArgs s_Stream_hear, defBody s_Stream_hear, defScope s_Stream_hear, [], []⟩
def d_Stream_hear_all : He.DefD := ⟨("Stream", some "hear_all"), "hear_all", "Stream.hear_all", defArgs s_Stream_hear_all, defBody s_Stream_hear_all, defScope s_Stream_hear_all, [], []⟩
def d_Stream_finish : He.DefD := ⟨("Stream", some "finish"), "finish", "Stream.finish", defArgs s_Stream_finish, defBody s_Stream_finish, defScope s_Stream_finish, [], []⟩
def d_Stream_room : He.DefD := ⟨("Stream", some "room"), "room", "Stream.room", defArgs s_Stream_room, defBody s_Stream_room, defScope s_Stream_room, [], []⟩
def d_next_token : He.DefD := ⟨("next_token", none), "next_token", "next_token", defArgs s_next_token, defBody s_next_token, defScope s_next_token, [], []⟩
def d_tree_tokens : He.DefD := ⟨("tree_tokens", none), "tree_tokens", "tree_tokens", defArgs s_tree_tokens, defBody s_tree_tokens, defScope s_tree_tokens, [], []⟩
def d_Session_init : He.DefD := ⟨("Session", some "__init__"), "__init__", "Session.__init__", defArgs s_Session_init, defBody s_Session_init, defScope s_Session_init, [], []⟩
def d_Session_ask : He.DefD := ⟨("Session", some "ask"), "ask", "Session.ask", defArgs s_Session_ask, defBody s_Session_ask, defScope s_Session_ask, [], []⟩
def d_Session_hear_token : He.DefD := ⟨("Session", some "hear_token"), "hear_token", "Session.hear_token", defArgs s_Session_hear_token, defBody s_Session_hear_token, defScope s_Session_hear_token, [], []⟩
def d_Session_hear_tree : He.DefD := ⟨("Session", some "hear_tree"), "hear_tree", "Session.hear_tree", defArgs s_Session_hear_tree, defBody s_Session_hear_tree, defScope s_Session_hear_tree, [], []⟩
def d_Session_finish : He.DefD := ⟨("Session", some "finish"), "finish", "Session.finish", defArgs s_Session_finish, defBody s_Session_finish, defScope s_Session_finish, [], []⟩
def d_Session_begin_again : He.DefD := ⟨("Session", some "begin_again"), "begin_again", "Session.begin_again", defArgs s_Session_begin_again, defBody s_Session_begin_again, defScope s_Session_begin_again, [], []⟩
def d_Session_list_tokens : He.DefD := ⟨("Session", some "list_tokens"), "list_tokens", "Session.list_tokens", defArgs s_Session_list_tokens, defBody s_Session_list_tokens, defScope s_Session_list_tokens, [], []⟩
def d_Session_answer_tree : He.DefD := ⟨("Session", some "answer_tree"), "answer_tree", "Session.answer_tree", defArgs s_Session_answer_tree, defBody s_Session_answer_tree, defScope s_Session_answer_tree, [], []⟩
def d_Session_room : He.DefD := ⟨("Session", some "room"), "room", "Session.room", defArgs s_Session_room, defBody s_Session_room, defScope s_Session_room, [], []⟩
def d_obey : He.DefD := ⟨("obey", none), "obey", "obey", defArgs s_obey, defBody s_obey, defScope s_obey, [], []⟩
def d_answer_of : He.DefD := ⟨("answer_of", none), "answer_of", "answer_of", defArgs s_answer_of, defBody s_answer_of, defScope s_answer_of, [], []⟩
def d_answers : He.DefD := ⟨("answers", none), "answers", "answers", defArgs s_answers, defBody s_answers, defScope s_answers, [], []⟩
def fn0 : List He.DefD := [d_codes, d_byte_at, d_starts, d_behind, d_counted, d_is_small_letter, d_is_digit, d_is_sign, d_read_name, d_read_number, d_read_marked, d_read_leaf, d_Token_init, d_Token_begins_tree, d_read_name_token, d_read_head, d_sees_end, d_read_end, d_token_of, d_SameAs_init, d_SameAs_holds, d_BeforeLeaf_init, d_BeforeLeaf_holds, d_BehindLeaf_init, d_BehindLeaf_holds, d_Negation_init, d_Negation_holds, d_BothOf_init, d_BothOf_holds, d_EitherOf_init]
def fn1 : List He.DefD := [d_EitherOf_holds, d_FieldStep_init, d_FieldStep_fault_in, d_FieldStep_picks, d_ItemsStep_init, d_ItemsStep_fault_in, d_ItemsStep_picks, d_EachStep_fault_in, d_EachStep_picks, d_Question_init, d_QuestionReader_init, d_QuestionReader_sees, d_QuestionReader_need, d_QuestionReader_skips, d_QuestionReader_add_node, d_QuestionReader_number_up_to, d_QuestionReader_read_whole, d_QuestionReader_read_told, d_QuestionReader_read_chain, d_QuestionReader_read_link, d_QuestionReader_pass_stage, d_QuestionReader_add_step, d_QuestionReader_read_brackets, d_QuestionReader_read_condition, d_QuestionReader_read_pair, d_QuestionReader_read_comparison, d_QuestionReader_read_key, d_question_of, d_place_text, d_Search_init]
def fn2 : List He.DefD := [d_Search_meet, d_Search_is_reached, d_Search_look_for_fault, d_Search_add_result, d_Search_end, d_Search_fault_of_sum, d_Frame_init, d_Frame_twin, d_Frame_takes_tree, d_Frame_takes_name, d_Frame_takes_end, d_Frame_begin_within, d_Frame_begin_field, d_Frame_way, d_Shape_init, d_Shape_twin, d_Shape_is_whole, d_Shape_has_room, d_Shape_awaits_name, d_Shape_awaits_comma, d_Shape_can_come, d_Shape_come, d_Shape_begin_tree, d_Stream_init, d_Stream_rehearse, d_Stream_hear, d_Stream_hear_all, d_Stream_finish, d_Stream_room, d_next_token]
def fn3 : List He.DefD := [d_tree_tokens, d_Session_init, d_Session_ask, d_Session_hear_token, d_Session_hear_tree, d_Session_finish, d_Session_begin_again, d_Session_list_tokens, d_Session_answer_tree, d_Session_room, d_obey, d_answer_of, d_answers]
def fn : List He.DefD := fn0 ++ (fn1 ++ (fn2 ++ (fn3)))
def fa0 : List He.Fa := [.glo "codes", .glo "byte_at", .glo "starts", .glo "behind", .glo "counted", .glo "is_small_letter", .glo "is_digit", .glo "is_sign", .glo "read_name", .glo "read_number", .glo "read_marked", .glo "read_leaf", .glo "read_name_token", .glo "read_head", .glo "sees_end", .glo "read_end", .glo "token_of", .glo "question_of", .glo "place_text", .glo "next_token", .glo "tree_tokens", .glo "obey", .glo "answer_of", .glo "answers", .glo "WrongText", .glo "CannotCome", .glo "UnknownCall", .glo "Token", .cls "Token", .mkr "Token"]
def fa1 : List He.Fa := [.meth "Token" "begins_tree", .noat "Token" "kind", .noat "Token" "text", .noat "Token" "key", .noat "Token" "name", .glo "SameAs", .cls "SameAs", .mkr "SameAs", .meth "SameAs" "holds", .noat "SameAs" "leaf", .glo "BeforeLeaf", .cls "BeforeLeaf", .mkr "BeforeLeaf", .meth "BeforeLeaf" "holds", .noat "BeforeLeaf" "leaf", .glo "BehindLeaf", .cls "BehindLeaf", .mkr "BehindLeaf", .meth "BehindLeaf" "holds", .noat "BehindLeaf" "leaf", .glo "Negation", .cls "Negation", .mkr "Negation", .meth "Negation" "holds", .noat "Negation" "part", .glo "BothOf", .cls "BothOf", .mkr "BothOf", .meth "BothOf" "holds", .noat "BothOf" "one"]
def fa2 : List He.Fa := [.noat "BothOf" "other", .glo "EitherOf", .cls "EitherOf", .mkr "EitherOf", .meth "EitherOf" "holds", .noat "EitherOf" "one", .noat "EitherOf" "other", .glo "FieldStep", .cls "FieldStep", .mkr "FieldStep", .meth "FieldStep" "fault_in", .meth "FieldStep" "picks", .noat "FieldStep" "name", .glo "ItemsStep", .cls "ItemsStep", .mkr "ItemsStep", .meth "ItemsStep" "fault_in", .meth "ItemsStep" "picks", .noat "ItemsStep" "low", .noat "ItemsStep" "high", .glo "EachStep", .cls "EachStep", .meth "EachStep" "fault_in", .meth "EachStep" "picks", .glo "Question", .cls "Question", .mkr "Question", .noat "Question" "fold", .noat "Question" "tried", .noat "Question" "limit"]
def fa3 : List He.Fa := [.noat "Question" "steps", .noat "Question" "deep", .noat "Question" "condition", .glo "QuestionReader", .cls "QuestionReader", .mkr "QuestionReader", .meth "QuestionReader" "sees", .meth "QuestionReader" "need", .meth "QuestionReader" "skips", .meth "QuestionReader" "add_node", .meth "QuestionReader" "number_up_to", .meth "QuestionReader" "read_whole", .meth "QuestionReader" "read_told", .meth "QuestionReader" "read_chain", .meth "QuestionReader" "read_link", .meth "QuestionReader" "pass_stage", .meth "QuestionReader" "add_step", .meth "QuestionReader" "read_brackets", .meth "QuestionReader" "read_condition", .meth "QuestionReader" "read_pair", .meth "QuestionReader" "read_comparison", .meth "QuestionReader" "read_key", .noat "QuestionReader" "text", .noat "QuestionReader" "at", .noat "QuestionReader" "nodes", .noat "QuestionReader" "stage", .noat "QuestionReader" "question", .glo "Search", .cls "Search", .mkr "Search"]
def fa4 : List He.Fa := [.meth "Search" "meet", .meth "Search" "is_reached", .meth "Search" "look_for_fault", .meth "Search" "add_result", .meth "Search" "end", .meth "Search" "fault_of_sum", .noat "Search" "question", .noat "Search" "halted", .noat "Search" "results", .noat "Search" "total", .noat "Search" "chain_fault", .noat "Search" "sum_fault", .glo "Frame", .cls "Frame", .mkr "Frame", .meth "Frame" "twin", .meth "Frame" "takes_tree", .meth "Frame" "takes_name", .meth "Frame" "takes_end", .meth "Frame" "begin_within", .meth "Frame" "begin_field", .meth "Frame" "way", .noat "Frame" "kind", .noat "Frame" "begun", .noat "Frame" "last_name", .noat "Frame" "awaits_tree", .glo "Shape", .cls "Shape", .mkr "Shape", .meth "Shape" "twin"]
def fa5 : List He.Fa := [.meth "Shape" "is_whole", .meth "Shape" "has_room", .meth "Shape" "awaits_name", .meth "Shape" "awaits_comma", .meth "Shape" "can_come", .meth "Shape" "come", .meth "Shape" "begin_tree", .noat "Shape" "frames", .noat "Shape" "most_frames", .noat "Shape" "entries", .glo "Stream", .cls "Stream", .mkr "Stream", .meth "Stream" "rehearse", .meth "Stream" "hear", .meth "Stream" "hear_all", .meth "Stream" "finish", .meth "Stream" "room", .noat "Stream" "shape", .noat "Stream" "search", .glo "Session", .cls "Session", .mkr "Session", .meth "Session" "ask", .meth "Session" "hear_token", .meth "Session" "hear_tree", .meth "Session" "finish", .meth "Session" "begin_again", .meth "Session" "list_tokens", .meth "Session" "answer_tree"]
def fa6 : List He.Fa := [.meth "Session" "room", .noat "Session" "asked", .noat "Session" "stream", .int "NUMBER_RANK" (3), .int "TEXT_RANK" (4), .int "LIST_RANK" (5), .int "RECORD_RANK" (6), .int "BIGGEST" (1000000000), .int "LONGEST_NAME" (10), .int "LONGEST_TEXT" (20), .int "MARK" (34), .int "MINUS" (45), .int "BACKSLASH" (92), .int "LEAF" (0), .int "LIST" (1), .int "RECORD" (2), .int "NAME" (3), .int "LIST_END" (4), .int "RECORD_END" (5), .int "COLON" (58), .int "NO_FAULT" (0), .int "NO_RECORD" (1), .int "NO_LIST" (2), .int "ONLY_LEAF" (3), .int "MOST_NODES" (30), .int "HIGHEST_ITEM" (100), .int "MOST_FIRST" (60), .int "TELL" (0), .int "COUNT" (1), .int "SUM" (2)]
def fa7 : List He.Fa := [.int "AT_STEPS" (0), .int "BEHIND_DEEP" (1), .int "BEHIND_WHERE" (2), .int "RESULT" (1), .int "FAULT" (2), .int "END_RESULTS" (0), .int "END_NUMBER" (1), .int "END_FAULT" (2), .int "NO_NUMBER" (4), .int "SUM_TOO_FAR" (6), .int "MOST_ENTRIES" (40), .int "DEEPEST" (6), .int "MOST_ITEMS" (10), .int "MOST_FIELDS" (8), .int "NOTHING_TOLD" (0), .int "QUESTION" (0), .int "TOKEN" (1), .int "FEED" (2), .int "FINISH" (3), .int "AGAIN" (4), .int "TOKENS" (5), .int "ANSWERS" (6), .int "ROOM" (7), .free "len", .free "ord", .free "enumerate", .free "zip", .free "max", .free "isinstance", .free "str"]
def fa8 : List He.Fa := [.free "int", .exm "WrongText" "WrongText" true, .exm "WrongText" "CannotCome" false, .exm "CannotCome" "WrongText" false, .exm "CannotCome" "CannotCome" true]
def fa : List He.Fa := fa0 ++ (fa1 ++ (fa2 ++ (fa3 ++ (fa4 ++ (fa5 ++ (fa6 ++ (fa7 ++ (fa8))))))))

def exB (K : PySem.W.Frag) (x : Str) : Bool := PySem.W.excIn K (He.ga K x) [.type "Exception", .type "BaseException", .type "object"] "Exception.__new__" && (PySem.W.keepIn K (.ref (He.ga K x)) && (decide (PySem.W.subIn K (.ref (He.ga K x)) (.type "BaseException") = some true) && decide (PySem.W.typeIn K (.ref (He.ga K x)) = some (.type "type"))))
def xtra (K : PySem.W.Frag) : Bool := exB K "WrongText" && (exB K "CannotCome" && (PySem.W.makesIn K (He.ga K "EachStep") && (He.eqO (PySem.W.findIn K (.ref (He.ga K "EachStep")) "__init__") (some (some (.builtin "object.__init__"))) && PySem.W.keepIn K (.ref (He.ga K "EachStep")))))
/-- what the top has left -/
structure Facts (K : PySem.W.Frag) (mg : Str → Option Value) : Prop where
  ns : ∃ h : Heap, K.In h ∧ h.Ns mainGlobals mg
  says : He.SaysD fa fn K
  xt : xtra K = true
section
variable {K : PySem.W.Frag} {mg : Str → Option Value}
theorem Facts.at_ (T : Facts K mg) (i : Nat) {f : He.Fa} (h : fa[i]? = some f := by rfl) : f.ok K = true := T.says.fact i h
theorem Facts.def_ (T : Facts K mg) (i : Nat) {d : He.DefD} (h : fn[i]? = some d := by rfl) : ∃ fd, FunD K d.name d.qual d.params d.body d.scope (d.dvs K) (d.kws K) (He.fAd K d.at_) fd := T.says.def_ i h
theorem Facts.glo (T : Facts K mg) {x : Str} (c : (He.Fa.glo x).ok K = true) : mg x = some (.ref (He.ga K x)) := by
  obtain ⟨h, X, G⟩ := T.ns
  exact He.glo_ok X G c
theorem Facts.free (T : Facts K mg) {x : Str} (c : (He.Fa.free x).ok K = true) : mg x = none := by
  obtain ⟨h, X, G⟩ := T.ns
  exact He.free_ok X G c
theorem Facts.num (T : Facts K mg) {x : Str} {i : Int} (c : (He.Fa.int x i).ok K = true) : ∃ t, mg x = some (.int i t) := by
  obtain ⟨h, X, G⟩ := T.ns
  exact He.int_ok X G c
theorem Facts.g_codes (T : Facts K mg) : mg "codes" = some (.ref (He.ga K "codes")) := T.glo (T.at_ 0)
theorem Facts.g_byte_at (T : Facts K mg) : mg "byte_at" = some (.ref (He.ga K "byte_at")) := T.glo (T.at_ 1)
theorem Facts.g_starts (T : Facts K mg) : mg "starts" = some (.ref (He.ga K "starts")) := T.glo (T.at_ 2)
theorem Facts.g_behind (T : Facts K mg) : mg "behind" = some (.ref (He.ga K "behind")) := T.glo (T.at_ 3)
theorem Facts.g_counted (T : Facts K mg) : mg "counted" = some (.ref (He.ga K "counted")) := T.glo (T.at_ 4)
theorem Facts.g_is_small_letter (T : Facts K mg) : mg "is_small_letter" = some (.ref (He.ga K "is_small_letter")) := T.glo (T.at_ 5)
theorem Facts.g_is_digit (T : Facts K mg) : mg "is_digit" = some (.ref (He.ga K "is_digit")) := T.glo (T.at_ 6)
theorem Facts.g_is_sign (T : Facts K mg) : mg "is_sign" = some (.ref (He.ga K "is_sign")) := T.glo (T.at_ 7)
theorem Facts.g_read_name (T : Facts K mg) : mg "read_name" = some (.ref (He.ga K "read_name")) := T.glo (T.at_ 8)
theorem Facts.g_read_number (T : Facts K mg) : mg "read_number" = some (.ref (He.ga K "read_number")) := T.glo (T.at_ 9)
theorem Facts.g_read_marked (T : Facts K mg) : mg "read_marked" = some (.ref (He.ga K "read_marked")) := T.glo (T.at_ 10)
theorem Facts.g_read_leaf (T : Facts K mg) : mg "read_leaf" = some (.ref (He.ga K "read_leaf")) := T.glo (T.at_ 11)
theorem Facts.g_read_name_token (T : Facts K mg) : mg "read_name_token" = some (.ref (He.ga K "read_name_token")) := T.glo (T.at_ 12)
theorem Facts.g_read_head (T : Facts K mg) : mg "read_head" = some (.ref (He.ga K "read_head")) := T.glo (T.at_ 13)
theorem Facts.g_sees_end (T : Facts K mg) : mg "sees_end" = some (.ref (He.ga K "sees_end")) := T.glo (T.at_ 14)
theorem Facts.g_read_end (T : Facts K mg) : mg "read_end" = some (.ref (He.ga K "read_end")) := T.glo (T.at_ 15)
theorem Facts.g_token_of (T : Facts K mg) : mg "token_of" = some (.ref (He.ga K "token_of")) := T.glo (T.at_ 16)
theorem Facts.g_question_of (T : Facts K mg) : mg "question_of" = some (.ref (He.ga K "question_of")) := T.glo (T.at_ 17)
theorem Facts.g_place_text (T : Facts K mg) : mg "place_text" = some (.ref (He.ga K "place_text")) := T.glo (T.at_ 18)
theorem Facts.g_next_token (T : Facts K mg) : mg "next_token" = some (.ref (He.ga K "next_token")) := T.glo (T.at_ 19)
theorem Facts.g_tree_tokens (T : Facts K mg) : mg "tree_tokens" = some (.ref (He.ga K "tree_tokens")) := T.glo (T.at_ 20)
theorem Facts.g_obey (T : Facts K mg) : mg "obey" = some (.ref (He.ga K "obey")) := T.glo (T.at_ 21)
theorem Facts.g_answer_of (T : Facts K mg) : mg "answer_of" = some (.ref (He.ga K "answer_of")) := T.glo (T.at_ 22)
theorem Facts.g_answers (T : Facts K mg) : mg "answers" = some (.ref (He.ga K "answers")) := T.glo (T.at_ 23)
theorem Facts.g_WrongText (T : Facts K mg) : mg "WrongText" = some (.ref (He.ga K "WrongText")) := T.glo (T.at_ 24)
theorem Facts.g_CannotCome (T : Facts K mg) : mg "CannotCome" = some (.ref (He.ga K "CannotCome")) := T.glo (T.at_ 25)
theorem Facts.g_UnknownCall (T : Facts K mg) : mg "UnknownCall" = some (.ref (He.ga K "UnknownCall")) := T.glo (T.at_ 26)
theorem Facts.g_Token (T : Facts K mg) : mg "Token" = some (.ref (He.ga K "Token")) := T.glo (T.at_ 27)
theorem Facts.c_Token (T : Facts K mg) : Cls K (He.ga K "Token") := He.cls_ok (T.at_ 28)
theorem Facts.k_Token (T : Facts K mg) : Mk K (He.ga K "Token") (He.ma K (He.ga K "Token") "__init__") := He.mkr_ok (T.at_ 29)
theorem Facts.m_Token_begins_tree (T : Facts K mg) : Meth K (He.ga K "Token") "begins_tree" (He.ma K (He.ga K "Token") "begins_tree") := He.meth_ok (T.at_ 30)
theorem Facts.n_Token_kind (T : Facts K mg) : NoAttr K (He.ga K "Token") "kind" := He.noat_ok (T.at_ 31)
theorem Facts.n_Token_text (T : Facts K mg) : NoAttr K (He.ga K "Token") "text" := He.noat_ok (T.at_ 32)
theorem Facts.n_Token_key (T : Facts K mg) : NoAttr K (He.ga K "Token") "key" := He.noat_ok (T.at_ 33)
theorem Facts.n_Token_name (T : Facts K mg) : NoAttr K (He.ga K "Token") "name" := He.noat_ok (T.at_ 34)
theorem Facts.g_SameAs (T : Facts K mg) : mg "SameAs" = some (.ref (He.ga K "SameAs")) := T.glo (T.at_ 35)
theorem Facts.c_SameAs (T : Facts K mg) : Cls K (He.ga K "SameAs") := He.cls_ok (T.at_ 36)
theorem Facts.k_SameAs (T : Facts K mg) : Mk K (He.ga K "SameAs") (He.ma K (He.ga K "SameAs") "__init__") := He.mkr_ok (T.at_ 37)
theorem Facts.m_SameAs_holds (T : Facts K mg) : Meth K (He.ga K "SameAs") "holds" (He.ma K (He.ga K "SameAs") "holds") := He.meth_ok (T.at_ 38)
theorem Facts.n_SameAs_leaf (T : Facts K mg) : NoAttr K (He.ga K "SameAs") "leaf" := He.noat_ok (T.at_ 39)
theorem Facts.g_BeforeLeaf (T : Facts K mg) : mg "BeforeLeaf" = some (.ref (He.ga K "BeforeLeaf")) := T.glo (T.at_ 40)
theorem Facts.c_BeforeLeaf (T : Facts K mg) : Cls K (He.ga K "BeforeLeaf") := He.cls_ok (T.at_ 41)
theorem Facts.k_BeforeLeaf (T : Facts K mg) : Mk K (He.ga K "BeforeLeaf") (He.ma K (He.ga K "BeforeLeaf") "__init__") := He.mkr_ok (T.at_ 42)
theorem Facts.m_BeforeLeaf_holds (T : Facts K mg) : Meth K (He.ga K "BeforeLeaf") "holds" (He.ma K (He.ga K "BeforeLeaf") "holds") := He.meth_ok (T.at_ 43)
theorem Facts.n_BeforeLeaf_leaf (T : Facts K mg) : NoAttr K (He.ga K "BeforeLeaf") "leaf" := He.noat_ok (T.at_ 44)
theorem Facts.g_BehindLeaf (T : Facts K mg) : mg "BehindLeaf" = some (.ref (He.ga K "BehindLeaf")) := T.glo (T.at_ 45)
theorem Facts.c_BehindLeaf (T : Facts K mg) : Cls K (He.ga K "BehindLeaf") := He.cls_ok (T.at_ 46)
theorem Facts.k_BehindLeaf (T : Facts K mg) : Mk K (He.ga K "BehindLeaf") (He.ma K (He.ga K "BehindLeaf") "__init__") := He.mkr_ok (T.at_ 47)
theorem Facts.m_BehindLeaf_holds (T : Facts K mg) : Meth K (He.ga K "BehindLeaf") "holds" (He.ma K (He.ga K "BehindLeaf") "holds") := He.meth_ok (T.at_ 48)
theorem Facts.n_BehindLeaf_leaf (T : Facts K mg) : NoAttr K (He.ga K "BehindLeaf") "leaf" := He.noat_ok (T.at_ 49)
theorem Facts.g_Negation (T : Facts K mg) : mg "Negation" = some (.ref (He.ga K "Negation")) := T.glo (T.at_ 50)
theorem Facts.c_Negation (T : Facts K mg) : Cls K (He.ga K "Negation") := He.cls_ok (T.at_ 51)
theorem Facts.k_Negation (T : Facts K mg) : Mk K (He.ga K "Negation") (He.ma K (He.ga K "Negation") "__init__") := He.mkr_ok (T.at_ 52)
theorem Facts.m_Negation_holds (T : Facts K mg) : Meth K (He.ga K "Negation") "holds" (He.ma K (He.ga K "Negation") "holds") := He.meth_ok (T.at_ 53)
theorem Facts.n_Negation_part (T : Facts K mg) : NoAttr K (He.ga K "Negation") "part" := He.noat_ok (T.at_ 54)
theorem Facts.g_BothOf (T : Facts K mg) : mg "BothOf" = some (.ref (He.ga K "BothOf")) := T.glo (T.at_ 55)
theorem Facts.c_BothOf (T : Facts K mg) : Cls K (He.ga K "BothOf") := He.cls_ok (T.at_ 56)
theorem Facts.k_BothOf (T : Facts K mg) : Mk K (He.ga K "BothOf") (He.ma K (He.ga K "BothOf") "__init__") := He.mkr_ok (T.at_ 57)
theorem Facts.m_BothOf_holds (T : Facts K mg) : Meth K (He.ga K "BothOf") "holds" (He.ma K (He.ga K "BothOf") "holds") := He.meth_ok (T.at_ 58)
theorem Facts.n_BothOf_one (T : Facts K mg) : NoAttr K (He.ga K "BothOf") "one" := He.noat_ok (T.at_ 59)
theorem Facts.n_BothOf_other (T : Facts K mg) : NoAttr K (He.ga K "BothOf") "other" := He.noat_ok (T.at_ 60)
theorem Facts.g_EitherOf (T : Facts K mg) : mg "EitherOf" = some (.ref (He.ga K "EitherOf")) := T.glo (T.at_ 61)
theorem Facts.c_EitherOf (T : Facts K mg) : Cls K (He.ga K "EitherOf") := He.cls_ok (T.at_ 62)
theorem Facts.k_EitherOf (T : Facts K mg) : Mk K (He.ga K "EitherOf") (He.ma K (He.ga K "EitherOf") "__init__") := He.mkr_ok (T.at_ 63)
theorem Facts.m_EitherOf_holds (T : Facts K mg) : Meth K (He.ga K "EitherOf") "holds" (He.ma K (He.ga K "EitherOf") "holds") := He.meth_ok (T.at_ 64)
theorem Facts.n_EitherOf_one (T : Facts K mg) : NoAttr K (He.ga K "EitherOf") "one" := He.noat_ok (T.at_ 65)
theorem Facts.n_EitherOf_other (T : Facts K mg) : NoAttr K (He.ga K "EitherOf") "other" := He.noat_ok (T.at_ 66)
theorem Facts.g_FieldStep (T : Facts K mg) : mg "FieldStep" = some (.ref (He.ga K "FieldStep")) := T.glo (T.at_ 67)
theorem Facts.c_FieldStep (T : Facts K mg) : Cls K (He.ga K "FieldStep") := He.cls_ok (T.at_ 68)
theorem Facts.k_FieldStep (T : Facts K mg) : Mk K (He.ga K "FieldStep") (He.ma K (He.ga K "FieldStep") "__init__") := He.mkr_ok (T.at_ 69)
theorem Facts.m_FieldStep_fault_in (T : Facts K mg) : Meth K (He.ga K "FieldStep") "fault_in" (He.ma K (He.ga K "FieldStep") "fault_in") := He.meth_ok (T.at_ 70)
theorem Facts.m_FieldStep_picks (T : Facts K mg) : Meth K (He.ga K "FieldStep") "picks" (He.ma K (He.ga K "FieldStep") "picks") := He.meth_ok (T.at_ 71)
theorem Facts.n_FieldStep_name (T : Facts K mg) : NoAttr K (He.ga K "FieldStep") "name" := He.noat_ok (T.at_ 72)
theorem Facts.g_ItemsStep (T : Facts K mg) : mg "ItemsStep" = some (.ref (He.ga K "ItemsStep")) := T.glo (T.at_ 73)
theorem Facts.c_ItemsStep (T : Facts K mg) : Cls K (He.ga K "ItemsStep") := He.cls_ok (T.at_ 74)
theorem Facts.k_ItemsStep (T : Facts K mg) : Mk K (He.ga K "ItemsStep") (He.ma K (He.ga K "ItemsStep") "__init__") := He.mkr_ok (T.at_ 75)
theorem Facts.m_ItemsStep_fault_in (T : Facts K mg) : Meth K (He.ga K "ItemsStep") "fault_in" (He.ma K (He.ga K "ItemsStep") "fault_in") := He.meth_ok (T.at_ 76)
theorem Facts.m_ItemsStep_picks (T : Facts K mg) : Meth K (He.ga K "ItemsStep") "picks" (He.ma K (He.ga K "ItemsStep") "picks") := He.meth_ok (T.at_ 77)
theorem Facts.n_ItemsStep_low (T : Facts K mg) : NoAttr K (He.ga K "ItemsStep") "low" := He.noat_ok (T.at_ 78)
theorem Facts.n_ItemsStep_high (T : Facts K mg) : NoAttr K (He.ga K "ItemsStep") "high" := He.noat_ok (T.at_ 79)
theorem Facts.g_EachStep (T : Facts K mg) : mg "EachStep" = some (.ref (He.ga K "EachStep")) := T.glo (T.at_ 80)
theorem Facts.c_EachStep (T : Facts K mg) : Cls K (He.ga K "EachStep") := He.cls_ok (T.at_ 81)
theorem Facts.m_EachStep_fault_in (T : Facts K mg) : Meth K (He.ga K "EachStep") "fault_in" (He.ma K (He.ga K "EachStep") "fault_in") := He.meth_ok (T.at_ 82)
theorem Facts.m_EachStep_picks (T : Facts K mg) : Meth K (He.ga K "EachStep") "picks" (He.ma K (He.ga K "EachStep") "picks") := He.meth_ok (T.at_ 83)
theorem Facts.g_Question (T : Facts K mg) : mg "Question" = some (.ref (He.ga K "Question")) := T.glo (T.at_ 84)
theorem Facts.c_Question (T : Facts K mg) : Cls K (He.ga K "Question") := He.cls_ok (T.at_ 85)
theorem Facts.k_Question (T : Facts K mg) : Mk K (He.ga K "Question") (He.ma K (He.ga K "Question") "__init__") := He.mkr_ok (T.at_ 86)
theorem Facts.n_Question_fold (T : Facts K mg) : NoAttr K (He.ga K "Question") "fold" := He.noat_ok (T.at_ 87)
theorem Facts.n_Question_tried (T : Facts K mg) : NoAttr K (He.ga K "Question") "tried" := He.noat_ok (T.at_ 88)
theorem Facts.n_Question_limit (T : Facts K mg) : NoAttr K (He.ga K "Question") "limit" := He.noat_ok (T.at_ 89)
theorem Facts.n_Question_steps (T : Facts K mg) : NoAttr K (He.ga K "Question") "steps" := He.noat_ok (T.at_ 90)
theorem Facts.n_Question_deep (T : Facts K mg) : NoAttr K (He.ga K "Question") "deep" := He.noat_ok (T.at_ 91)
theorem Facts.n_Question_condition (T : Facts K mg) : NoAttr K (He.ga K "Question") "condition" := He.noat_ok (T.at_ 92)
theorem Facts.g_QuestionReader (T : Facts K mg) : mg "QuestionReader" = some (.ref (He.ga K "QuestionReader")) := T.glo (T.at_ 93)
theorem Facts.c_QuestionReader (T : Facts K mg) : Cls K (He.ga K "QuestionReader") := He.cls_ok (T.at_ 94)
theorem Facts.k_QuestionReader (T : Facts K mg) : Mk K (He.ga K "QuestionReader") (He.ma K (He.ga K "QuestionReader") "__init__") := He.mkr_ok (T.at_ 95)
theorem Facts.m_QuestionReader_sees (T : Facts K mg) : Meth K (He.ga K "QuestionReader") "sees" (He.ma K (He.ga K "QuestionReader") "sees") := He.meth_ok (T.at_ 96)
theorem Facts.m_QuestionReader_need (T : Facts K mg) : Meth K (He.ga K "QuestionReader") "need" (He.ma K (He.ga K "QuestionReader") "need") := He.meth_ok (T.at_ 97)
theorem Facts.m_QuestionReader_skips (T : Facts K mg) : Meth K (He.ga K "QuestionReader") "skips" (He.ma K (He.ga K "QuestionReader") "skips") := He.meth_ok (T.at_ 98)
theorem Facts.m_QuestionReader_add_node (T : Facts K mg) : Meth K (He.ga K "QuestionReader") "add_node" (He.ma K (He.ga K "QuestionReader") "add_node") := He.meth_ok (T.at_ 99)
theorem Facts.m_QuestionReader_number_up_to (T : Facts K mg) : Meth K (He.ga K "QuestionReader") "number_up_to" (He.ma K (He.ga K "QuestionReader") "number_up_to") := He.meth_ok (T.at_ 100)
theorem Facts.m_QuestionReader_read_whole (T : Facts K mg) : Meth K (He.ga K "QuestionReader") "read_whole" (He.ma K (He.ga K "QuestionReader") "read_whole") := He.meth_ok (T.at_ 101)
theorem Facts.m_QuestionReader_read_told (T : Facts K mg) : Meth K (He.ga K "QuestionReader") "read_told" (He.ma K (He.ga K "QuestionReader") "read_told") := He.meth_ok (T.at_ 102)
theorem Facts.m_QuestionReader_read_chain (T : Facts K mg) : Meth K (He.ga K "QuestionReader") "read_chain" (He.ma K (He.ga K "QuestionReader") "read_chain") := He.meth_ok (T.at_ 103)
theorem Facts.m_QuestionReader_read_link (T : Facts K mg) : Meth K (He.ga K "QuestionReader") "read_link" (He.ma K (He.ga K "QuestionReader") "read_link") := He.meth_ok (T.at_ 104)
theorem Facts.m_QuestionReader_pass_stage (T : Facts K mg) : Meth K (He.ga K "QuestionReader") "pass_stage" (He.ma K (He.ga K "QuestionReader") "pass_stage") := He.meth_ok (T.at_ 105)
theorem Facts.m_QuestionReader_add_step (T : Facts K mg) : Meth K (He.ga K "QuestionReader") "add_step" (He.ma K (He.ga K "QuestionReader") "add_step") := He.meth_ok (T.at_ 106)
theorem Facts.m_QuestionReader_read_brackets (T : Facts K mg) : Meth K (He.ga K "QuestionReader") "read_brackets" (He.ma K (He.ga K "QuestionReader") "read_brackets") := He.meth_ok (T.at_ 107)
theorem Facts.m_QuestionReader_read_condition (T : Facts K mg) : Meth K (He.ga K "QuestionReader") "read_condition" (He.ma K (He.ga K "QuestionReader") "read_condition") := He.meth_ok (T.at_ 108)
theorem Facts.m_QuestionReader_read_pair (T : Facts K mg) : Meth K (He.ga K "QuestionReader") "read_pair" (He.ma K (He.ga K "QuestionReader") "read_pair") := He.meth_ok (T.at_ 109)
theorem Facts.m_QuestionReader_read_comparison (T : Facts K mg) : Meth K (He.ga K "QuestionReader") "read_comparison" (He.ma K (He.ga K "QuestionReader") "read_comparison") := He.meth_ok (T.at_ 110)
theorem Facts.m_QuestionReader_read_key (T : Facts K mg) : Meth K (He.ga K "QuestionReader") "read_key" (He.ma K (He.ga K "QuestionReader") "read_key") := He.meth_ok (T.at_ 111)
theorem Facts.n_QuestionReader_text (T : Facts K mg) : NoAttr K (He.ga K "QuestionReader") "text" := He.noat_ok (T.at_ 112)
theorem Facts.n_QuestionReader_at (T : Facts K mg) : NoAttr K (He.ga K "QuestionReader") "at" := He.noat_ok (T.at_ 113)
theorem Facts.n_QuestionReader_nodes (T : Facts K mg) : NoAttr K (He.ga K "QuestionReader") "nodes" := He.noat_ok (T.at_ 114)
theorem Facts.n_QuestionReader_stage (T : Facts K mg) : NoAttr K (He.ga K "QuestionReader") "stage" := He.noat_ok (T.at_ 115)
theorem Facts.n_QuestionReader_question (T : Facts K mg) : NoAttr K (He.ga K "QuestionReader") "question" := He.noat_ok (T.at_ 116)
theorem Facts.g_Search (T : Facts K mg) : mg "Search" = some (.ref (He.ga K "Search")) := T.glo (T.at_ 117)
theorem Facts.c_Search (T : Facts K mg) : Cls K (He.ga K "Search") := He.cls_ok (T.at_ 118)
theorem Facts.k_Search (T : Facts K mg) : Mk K (He.ga K "Search") (He.ma K (He.ga K "Search") "__init__") := He.mkr_ok (T.at_ 119)
theorem Facts.m_Search_meet (T : Facts K mg) : Meth K (He.ga K "Search") "meet" (He.ma K (He.ga K "Search") "meet") := He.meth_ok (T.at_ 120)
theorem Facts.m_Search_is_reached (T : Facts K mg) : Meth K (He.ga K "Search") "is_reached" (He.ma K (He.ga K "Search") "is_reached") := He.meth_ok (T.at_ 121)
theorem Facts.m_Search_look_for_fault (T : Facts K mg) : Meth K (He.ga K "Search") "look_for_fault" (He.ma K (He.ga K "Search") "look_for_fault") := He.meth_ok (T.at_ 122)
theorem Facts.m_Search_add_result (T : Facts K mg) : Meth K (He.ga K "Search") "add_result" (He.ma K (He.ga K "Search") "add_result") := He.meth_ok (T.at_ 123)
theorem Facts.m_Search_end (T : Facts K mg) : Meth K (He.ga K "Search") "end" (He.ma K (He.ga K "Search") "end") := He.meth_ok (T.at_ 124)
theorem Facts.m_Search_fault_of_sum (T : Facts K mg) : Meth K (He.ga K "Search") "fault_of_sum" (He.ma K (He.ga K "Search") "fault_of_sum") := He.meth_ok (T.at_ 125)
theorem Facts.n_Search_question (T : Facts K mg) : NoAttr K (He.ga K "Search") "question" := He.noat_ok (T.at_ 126)
theorem Facts.n_Search_halted (T : Facts K mg) : NoAttr K (He.ga K "Search") "halted" := He.noat_ok (T.at_ 127)
theorem Facts.n_Search_results (T : Facts K mg) : NoAttr K (He.ga K "Search") "results" := He.noat_ok (T.at_ 128)
theorem Facts.n_Search_total (T : Facts K mg) : NoAttr K (He.ga K "Search") "total" := He.noat_ok (T.at_ 129)
theorem Facts.n_Search_chain_fault (T : Facts K mg) : NoAttr K (He.ga K "Search") "chain_fault" := He.noat_ok (T.at_ 130)
theorem Facts.n_Search_sum_fault (T : Facts K mg) : NoAttr K (He.ga K "Search") "sum_fault" := He.noat_ok (T.at_ 131)
theorem Facts.g_Frame (T : Facts K mg) : mg "Frame" = some (.ref (He.ga K "Frame")) := T.glo (T.at_ 132)
theorem Facts.c_Frame (T : Facts K mg) : Cls K (He.ga K "Frame") := He.cls_ok (T.at_ 133)
theorem Facts.k_Frame (T : Facts K mg) : Mk K (He.ga K "Frame") (He.ma K (He.ga K "Frame") "__init__") := He.mkr_ok (T.at_ 134)
theorem Facts.m_Frame_twin (T : Facts K mg) : Meth K (He.ga K "Frame") "twin" (He.ma K (He.ga K "Frame") "twin") := He.meth_ok (T.at_ 135)
theorem Facts.m_Frame_takes_tree (T : Facts K mg) : Meth K (He.ga K "Frame") "takes_tree" (He.ma K (He.ga K "Frame") "takes_tree") := He.meth_ok (T.at_ 136)
theorem Facts.m_Frame_takes_name (T : Facts K mg) : Meth K (He.ga K "Frame") "takes_name" (He.ma K (He.ga K "Frame") "takes_name") := He.meth_ok (T.at_ 137)
theorem Facts.m_Frame_takes_end (T : Facts K mg) : Meth K (He.ga K "Frame") "takes_end" (He.ma K (He.ga K "Frame") "takes_end") := He.meth_ok (T.at_ 138)
theorem Facts.m_Frame_begin_within (T : Facts K mg) : Meth K (He.ga K "Frame") "begin_within" (He.ma K (He.ga K "Frame") "begin_within") := He.meth_ok (T.at_ 139)
theorem Facts.m_Frame_begin_field (T : Facts K mg) : Meth K (He.ga K "Frame") "begin_field" (He.ma K (He.ga K "Frame") "begin_field") := He.meth_ok (T.at_ 140)
theorem Facts.m_Frame_way (T : Facts K mg) : Meth K (He.ga K "Frame") "way" (He.ma K (He.ga K "Frame") "way") := He.meth_ok (T.at_ 141)
theorem Facts.n_Frame_kind (T : Facts K mg) : NoAttr K (He.ga K "Frame") "kind" := He.noat_ok (T.at_ 142)
theorem Facts.n_Frame_begun (T : Facts K mg) : NoAttr K (He.ga K "Frame") "begun" := He.noat_ok (T.at_ 143)
theorem Facts.n_Frame_last_name (T : Facts K mg) : NoAttr K (He.ga K "Frame") "last_name" := He.noat_ok (T.at_ 144)
theorem Facts.n_Frame_awaits_tree (T : Facts K mg) : NoAttr K (He.ga K "Frame") "awaits_tree" := He.noat_ok (T.at_ 145)
theorem Facts.g_Shape (T : Facts K mg) : mg "Shape" = some (.ref (He.ga K "Shape")) := T.glo (T.at_ 146)
theorem Facts.c_Shape (T : Facts K mg) : Cls K (He.ga K "Shape") := He.cls_ok (T.at_ 147)
theorem Facts.k_Shape (T : Facts K mg) : Mk K (He.ga K "Shape") (He.ma K (He.ga K "Shape") "__init__") := He.mkr_ok (T.at_ 148)
theorem Facts.m_Shape_twin (T : Facts K mg) : Meth K (He.ga K "Shape") "twin" (He.ma K (He.ga K "Shape") "twin") := He.meth_ok (T.at_ 149)
theorem Facts.m_Shape_is_whole (T : Facts K mg) : Meth K (He.ga K "Shape") "is_whole" (He.ma K (He.ga K "Shape") "is_whole") := He.meth_ok (T.at_ 150)
theorem Facts.m_Shape_has_room (T : Facts K mg) : Meth K (He.ga K "Shape") "has_room" (He.ma K (He.ga K "Shape") "has_room") := He.meth_ok (T.at_ 151)
theorem Facts.m_Shape_awaits_name (T : Facts K mg) : Meth K (He.ga K "Shape") "awaits_name" (He.ma K (He.ga K "Shape") "awaits_name") := He.meth_ok (T.at_ 152)
theorem Facts.m_Shape_awaits_comma (T : Facts K mg) : Meth K (He.ga K "Shape") "awaits_comma" (He.ma K (He.ga K "Shape") "awaits_comma") := He.meth_ok (T.at_ 153)
theorem Facts.m_Shape_can_come (T : Facts K mg) : Meth K (He.ga K "Shape") "can_come" (He.ma K (He.ga K "Shape") "can_come") := He.meth_ok (T.at_ 154)
theorem Facts.m_Shape_come (T : Facts K mg) : Meth K (He.ga K "Shape") "come" (He.ma K (He.ga K "Shape") "come") := He.meth_ok (T.at_ 155)
theorem Facts.m_Shape_begin_tree (T : Facts K mg) : Meth K (He.ga K "Shape") "begin_tree" (He.ma K (He.ga K "Shape") "begin_tree") := He.meth_ok (T.at_ 156)
theorem Facts.n_Shape_frames (T : Facts K mg) : NoAttr K (He.ga K "Shape") "frames" := He.noat_ok (T.at_ 157)
theorem Facts.n_Shape_most_frames (T : Facts K mg) : NoAttr K (He.ga K "Shape") "most_frames" := He.noat_ok (T.at_ 158)
theorem Facts.n_Shape_entries (T : Facts K mg) : NoAttr K (He.ga K "Shape") "entries" := He.noat_ok (T.at_ 159)
theorem Facts.g_Stream (T : Facts K mg) : mg "Stream" = some (.ref (He.ga K "Stream")) := T.glo (T.at_ 160)
theorem Facts.c_Stream (T : Facts K mg) : Cls K (He.ga K "Stream") := He.cls_ok (T.at_ 161)
theorem Facts.k_Stream (T : Facts K mg) : Mk K (He.ga K "Stream") (He.ma K (He.ga K "Stream") "__init__") := He.mkr_ok (T.at_ 162)
theorem Facts.m_Stream_rehearse (T : Facts K mg) : Meth K (He.ga K "Stream") "rehearse" (He.ma K (He.ga K "Stream") "rehearse") := He.meth_ok (T.at_ 163)
theorem Facts.m_Stream_hear (T : Facts K mg) : Meth K (He.ga K "Stream") "hear" (He.ma K (He.ga K "Stream") "hear") := He.meth_ok (T.at_ 164)
theorem Facts.m_Stream_hear_all (T : Facts K mg) : Meth K (He.ga K "Stream") "hear_all" (He.ma K (He.ga K "Stream") "hear_all") := He.meth_ok (T.at_ 165)
theorem Facts.m_Stream_finish (T : Facts K mg) : Meth K (He.ga K "Stream") "finish" (He.ma K (He.ga K "Stream") "finish") := He.meth_ok (T.at_ 166)
theorem Facts.m_Stream_room (T : Facts K mg) : Meth K (He.ga K "Stream") "room" (He.ma K (He.ga K "Stream") "room") := He.meth_ok (T.at_ 167)
theorem Facts.n_Stream_shape (T : Facts K mg) : NoAttr K (He.ga K "Stream") "shape" := He.noat_ok (T.at_ 168)
theorem Facts.n_Stream_search (T : Facts K mg) : NoAttr K (He.ga K "Stream") "search" := He.noat_ok (T.at_ 169)
theorem Facts.g_Session (T : Facts K mg) : mg "Session" = some (.ref (He.ga K "Session")) := T.glo (T.at_ 170)
theorem Facts.c_Session (T : Facts K mg) : Cls K (He.ga K "Session") := He.cls_ok (T.at_ 171)
theorem Facts.k_Session (T : Facts K mg) : Mk K (He.ga K "Session") (He.ma K (He.ga K "Session") "__init__") := He.mkr_ok (T.at_ 172)
theorem Facts.m_Session_ask (T : Facts K mg) : Meth K (He.ga K "Session") "ask" (He.ma K (He.ga K "Session") "ask") := He.meth_ok (T.at_ 173)
theorem Facts.m_Session_hear_token (T : Facts K mg) : Meth K (He.ga K "Session") "hear_token" (He.ma K (He.ga K "Session") "hear_token") := He.meth_ok (T.at_ 174)
theorem Facts.m_Session_hear_tree (T : Facts K mg) : Meth K (He.ga K "Session") "hear_tree" (He.ma K (He.ga K "Session") "hear_tree") := He.meth_ok (T.at_ 175)
theorem Facts.m_Session_finish (T : Facts K mg) : Meth K (He.ga K "Session") "finish" (He.ma K (He.ga K "Session") "finish") := He.meth_ok (T.at_ 176)
theorem Facts.m_Session_begin_again (T : Facts K mg) : Meth K (He.ga K "Session") "begin_again" (He.ma K (He.ga K "Session") "begin_again") := He.meth_ok (T.at_ 177)
theorem Facts.m_Session_list_tokens (T : Facts K mg) : Meth K (He.ga K "Session") "list_tokens" (He.ma K (He.ga K "Session") "list_tokens") := He.meth_ok (T.at_ 178)
theorem Facts.m_Session_answer_tree (T : Facts K mg) : Meth K (He.ga K "Session") "answer_tree" (He.ma K (He.ga K "Session") "answer_tree") := He.meth_ok (T.at_ 179)
theorem Facts.m_Session_room (T : Facts K mg) : Meth K (He.ga K "Session") "room" (He.ma K (He.ga K "Session") "room") := He.meth_ok (T.at_ 180)
theorem Facts.n_Session_asked (T : Facts K mg) : NoAttr K (He.ga K "Session") "asked" := He.noat_ok (T.at_ 181)
theorem Facts.n_Session_stream (T : Facts K mg) : NoAttr K (He.ga K "Session") "stream" := He.noat_ok (T.at_ 182)
theorem Facts.i_NUMBER_RANK (T : Facts K mg) : ∃ t, mg "NUMBER_RANK" = some (.int 3 t) := T.num (T.at_ 183)
theorem Facts.i_TEXT_RANK (T : Facts K mg) : ∃ t, mg "TEXT_RANK" = some (.int 4 t) := T.num (T.at_ 184)
theorem Facts.i_LIST_RANK (T : Facts K mg) : ∃ t, mg "LIST_RANK" = some (.int 5 t) := T.num (T.at_ 185)
theorem Facts.i_RECORD_RANK (T : Facts K mg) : ∃ t, mg "RECORD_RANK" = some (.int 6 t) := T.num (T.at_ 186)
theorem Facts.i_BIGGEST (T : Facts K mg) : ∃ t, mg "BIGGEST" = some (.int 1000000000 t) := T.num (T.at_ 187)
theorem Facts.i_LONGEST_NAME (T : Facts K mg) : ∃ t, mg "LONGEST_NAME" = some (.int 10 t) := T.num (T.at_ 188)
theorem Facts.i_LONGEST_TEXT (T : Facts K mg) : ∃ t, mg "LONGEST_TEXT" = some (.int 20 t) := T.num (T.at_ 189)
theorem Facts.i_MARK (T : Facts K mg) : ∃ t, mg "MARK" = some (.int 34 t) := T.num (T.at_ 190)
theorem Facts.i_MINUS (T : Facts K mg) : ∃ t, mg "MINUS" = some (.int 45 t) := T.num (T.at_ 191)
theorem Facts.i_BACKSLASH (T : Facts K mg) : ∃ t, mg "BACKSLASH" = some (.int 92 t) := T.num (T.at_ 192)
theorem Facts.i_LEAF (T : Facts K mg) : ∃ t, mg "LEAF" = some (.int 0 t) := T.num (T.at_ 193)
theorem Facts.i_LIST (T : Facts K mg) : ∃ t, mg "LIST" = some (.int 1 t) := T.num (T.at_ 194)
theorem Facts.i_RECORD (T : Facts K mg) : ∃ t, mg "RECORD" = some (.int 2 t) := T.num (T.at_ 195)
theorem Facts.i_NAME (T : Facts K mg) : ∃ t, mg "NAME" = some (.int 3 t) := T.num (T.at_ 196)
theorem Facts.i_LIST_END (T : Facts K mg) : ∃ t, mg "LIST_END" = some (.int 4 t) := T.num (T.at_ 197)
theorem Facts.i_RECORD_END (T : Facts K mg) : ∃ t, mg "RECORD_END" = some (.int 5 t) := T.num (T.at_ 198)
theorem Facts.i_COLON (T : Facts K mg) : ∃ t, mg "COLON" = some (.int 58 t) := T.num (T.at_ 199)
theorem Facts.i_NO_FAULT (T : Facts K mg) : ∃ t, mg "NO_FAULT" = some (.int 0 t) := T.num (T.at_ 200)
theorem Facts.i_NO_RECORD (T : Facts K mg) : ∃ t, mg "NO_RECORD" = some (.int 1 t) := T.num (T.at_ 201)
theorem Facts.i_NO_LIST (T : Facts K mg) : ∃ t, mg "NO_LIST" = some (.int 2 t) := T.num (T.at_ 202)
theorem Facts.i_ONLY_LEAF (T : Facts K mg) : ∃ t, mg "ONLY_LEAF" = some (.int 3 t) := T.num (T.at_ 203)
theorem Facts.i_MOST_NODES (T : Facts K mg) : ∃ t, mg "MOST_NODES" = some (.int 30 t) := T.num (T.at_ 204)
theorem Facts.i_HIGHEST_ITEM (T : Facts K mg) : ∃ t, mg "HIGHEST_ITEM" = some (.int 100 t) := T.num (T.at_ 205)
theorem Facts.i_MOST_FIRST (T : Facts K mg) : ∃ t, mg "MOST_FIRST" = some (.int 60 t) := T.num (T.at_ 206)
theorem Facts.i_TELL (T : Facts K mg) : ∃ t, mg "TELL" = some (.int 0 t) := T.num (T.at_ 207)
theorem Facts.i_COUNT (T : Facts K mg) : ∃ t, mg "COUNT" = some (.int 1 t) := T.num (T.at_ 208)
theorem Facts.i_SUM (T : Facts K mg) : ∃ t, mg "SUM" = some (.int 2 t) := T.num (T.at_ 209)
theorem Facts.i_AT_STEPS (T : Facts K mg) : ∃ t, mg "AT_STEPS" = some (.int 0 t) := T.num (T.at_ 210)
theorem Facts.i_BEHIND_DEEP (T : Facts K mg) : ∃ t, mg "BEHIND_DEEP" = some (.int 1 t) := T.num (T.at_ 211)
theorem Facts.i_BEHIND_WHERE (T : Facts K mg) : ∃ t, mg "BEHIND_WHERE" = some (.int 2 t) := T.num (T.at_ 212)
theorem Facts.i_RESULT (T : Facts K mg) : ∃ t, mg "RESULT" = some (.int 1 t) := T.num (T.at_ 213)
theorem Facts.i_FAULT (T : Facts K mg) : ∃ t, mg "FAULT" = some (.int 2 t) := T.num (T.at_ 214)
theorem Facts.i_END_RESULTS (T : Facts K mg) : ∃ t, mg "END_RESULTS" = some (.int 0 t) := T.num (T.at_ 215)
theorem Facts.i_END_NUMBER (T : Facts K mg) : ∃ t, mg "END_NUMBER" = some (.int 1 t) := T.num (T.at_ 216)
theorem Facts.i_END_FAULT (T : Facts K mg) : ∃ t, mg "END_FAULT" = some (.int 2 t) := T.num (T.at_ 217)
theorem Facts.i_NO_NUMBER (T : Facts K mg) : ∃ t, mg "NO_NUMBER" = some (.int 4 t) := T.num (T.at_ 218)
theorem Facts.i_SUM_TOO_FAR (T : Facts K mg) : ∃ t, mg "SUM_TOO_FAR" = some (.int 6 t) := T.num (T.at_ 219)
theorem Facts.i_MOST_ENTRIES (T : Facts K mg) : ∃ t, mg "MOST_ENTRIES" = some (.int 40 t) := T.num (T.at_ 220)
theorem Facts.i_DEEPEST (T : Facts K mg) : ∃ t, mg "DEEPEST" = some (.int 6 t) := T.num (T.at_ 221)
theorem Facts.i_MOST_ITEMS (T : Facts K mg) : ∃ t, mg "MOST_ITEMS" = some (.int 10 t) := T.num (T.at_ 222)
theorem Facts.i_MOST_FIELDS (T : Facts K mg) : ∃ t, mg "MOST_FIELDS" = some (.int 8 t) := T.num (T.at_ 223)
theorem Facts.i_NOTHING_TOLD (T : Facts K mg) : ∃ t, mg "NOTHING_TOLD" = some (.int 0 t) := T.num (T.at_ 224)
theorem Facts.i_QUESTION (T : Facts K mg) : ∃ t, mg "QUESTION" = some (.int 0 t) := T.num (T.at_ 225)
theorem Facts.i_TOKEN (T : Facts K mg) : ∃ t, mg "TOKEN" = some (.int 1 t) := T.num (T.at_ 226)
theorem Facts.i_FEED (T : Facts K mg) : ∃ t, mg "FEED" = some (.int 2 t) := T.num (T.at_ 227)
theorem Facts.i_FINISH (T : Facts K mg) : ∃ t, mg "FINISH" = some (.int 3 t) := T.num (T.at_ 228)
theorem Facts.i_AGAIN (T : Facts K mg) : ∃ t, mg "AGAIN" = some (.int 4 t) := T.num (T.at_ 229)
theorem Facts.i_TOKENS (T : Facts K mg) : ∃ t, mg "TOKENS" = some (.int 5 t) := T.num (T.at_ 230)
theorem Facts.i_ANSWERS (T : Facts K mg) : ∃ t, mg "ANSWERS" = some (.int 6 t) := T.num (T.at_ 231)
theorem Facts.i_ROOM (T : Facts K mg) : ∃ t, mg "ROOM" = some (.int 7 t) := T.num (T.at_ 232)
theorem Facts.f_len (T : Facts K mg) : mg "len" = none := T.free (T.at_ 233)
theorem Facts.f_ord (T : Facts K mg) : mg "ord" = none := T.free (T.at_ 234)
theorem Facts.f_enumerate (T : Facts K mg) : mg "enumerate" = none := T.free (T.at_ 235)
theorem Facts.f_zip (T : Facts K mg) : mg "zip" = none := T.free (T.at_ 236)
theorem Facts.f_max (T : Facts K mg) : mg "max" = none := T.free (T.at_ 237)
theorem Facts.f_isinstance (T : Facts K mg) : mg "isinstance" = none := T.free (T.at_ 238)
theorem Facts.f_str (T : Facts K mg) : mg "str" = none := T.free (T.at_ 239)
theorem Facts.f_int (T : Facts K mg) : mg "int" = none := T.free (T.at_ 240)
theorem Facts.x_WrongText_WrongText (T : Facts K mg) : PySem.W.exmOne K (.ref (He.ga K "WrongText")) (.ref (He.ga K "WrongText")) = some true := He.exm_ok (T.at_ 241)
theorem Facts.x_WrongText_CannotCome (T : Facts K mg) : PySem.W.exmOne K (.ref (He.ga K "WrongText")) (.ref (He.ga K "CannotCome")) = some false := He.exm_ok (T.at_ 242)
theorem Facts.x_CannotCome_WrongText (T : Facts K mg) : PySem.W.exmOne K (.ref (He.ga K "CannotCome")) (.ref (He.ga K "WrongText")) = some false := He.exm_ok (T.at_ 243)
theorem Facts.x_CannotCome_CannotCome (T : Facts K mg) : PySem.W.exmOne K (.ref (He.ga K "CannotCome")) (.ref (He.ga K "CannotCome")) = some true := He.exm_ok (T.at_ 244)
theorem Facts.d_codes (T : Facts K mg) : ∃ fd, FunD K TS.d_codes.name TS.d_codes.qual (defArgs s_codes) (defBody s_codes) (defScope s_codes) [] [] (He.fAd K TS.d_codes.at_) fd := T.def_ 0
theorem Facts.d_byte_at (T : Facts K mg) : ∃ fd, FunD K TS.d_byte_at.name TS.d_byte_at.qual (defArgs s_byte_at) (defBody s_byte_at) (defScope s_byte_at) [] [] (He.fAd K TS.d_byte_at.at_) fd := T.def_ 1
theorem Facts.d_starts (T : Facts K mg) : ∃ fd, FunD K TS.d_starts.name TS.d_starts.qual (defArgs s_starts) (defBody s_starts) (defScope s_starts) [] [] (He.fAd K TS.d_starts.at_) fd := T.def_ 2
theorem Facts.d_behind (T : Facts K mg) : ∃ fd, FunD K TS.d_behind.name TS.d_behind.qual (defArgs s_behind) (defBody s_behind) (defScope s_behind) [] [] (He.fAd K TS.d_behind.at_) fd := T.def_ 3
theorem Facts.d_counted (T : Facts K mg) : ∃ fd, FunD K TS.d_counted.name TS.d_counted.qual (defArgs s_counted) (defBody s_counted) (defScope s_counted) [] [] (He.fAd K TS.d_counted.at_) fd := T.def_ 4
theorem Facts.d_is_small_letter (T : Facts K mg) : ∃ fd, FunD K TS.d_is_small_letter.name TS.d_is_small_letter.qual (defArgs s_is_small_letter) (defBody s_is_small_letter) (defScope s_is_small_letter) [] [] (He.fAd K TS.d_is_small_letter.at_) fd := T.def_ 5
theorem Facts.d_is_digit (T : Facts K mg) : ∃ fd, FunD K TS.d_is_digit.name TS.d_is_digit.qual (defArgs s_is_digit) (defBody s_is_digit) (defScope s_is_digit) [] [] (He.fAd K TS.d_is_digit.at_) fd := T.def_ 6
theorem Facts.d_is_sign (T : Facts K mg) : ∃ fd, FunD K TS.d_is_sign.name TS.d_is_sign.qual (defArgs s_is_sign) (defBody s_is_sign) (defScope s_is_sign) [] [] (He.fAd K TS.d_is_sign.at_) fd := T.def_ 7
theorem Facts.d_read_name (T : Facts K mg) : ∃ fd, FunD K TS.d_read_name.name TS.d_read_name.qual (defArgs s_read_name) (defBody s_read_name) (defScope s_read_name) [] [] (He.fAd K TS.d_read_name.at_) fd := T.def_ 8
theorem Facts.d_read_number (T : Facts K mg) : ∃ fd, FunD K TS.d_read_number.name TS.d_read_number.qual (defArgs s_read_number) (defBody s_read_number) (defScope s_read_number) [] [] (He.fAd K TS.d_read_number.at_) fd := T.def_ 9
theorem Facts.d_read_marked (T : Facts K mg) : ∃ fd, FunD K TS.d_read_marked.name TS.d_read_marked.qual (defArgs s_read_marked) (defBody s_read_marked) (defScope s_read_marked) [] [] (He.fAd K TS.d_read_marked.at_) fd := T.def_ 10
theorem Facts.d_read_leaf (T : Facts K mg) : ∃ fd, FunD K TS.d_read_leaf.name TS.d_read_leaf.qual (defArgs s_read_leaf) (defBody s_read_leaf) (defScope s_read_leaf) [] [] (He.fAd K TS.d_read_leaf.at_) fd := T.def_ 11
theorem Facts.d_Token_init (T : Facts K mg) : ∃ fd, FunD K TS.d_Token_init.name TS.d_Token_init.qual (defArgs s_Token_init) (defBody s_Token_init) (defScope s_Token_init) [] [] (He.fAd K TS.d_Token_init.at_) fd := T.def_ 12
theorem Facts.d_Token_begins_tree (T : Facts K mg) : ∃ fd, FunD K TS.d_Token_begins_tree.name TS.d_Token_begins_tree.qual (defArgs s_Token_begins_tree) (defBody s_Token_begins_tree) (defScope s_Token_begins_tree) [] [] (He.fAd K TS.d_Token_begins_tree.at_) fd := T.def_ 13
theorem Facts.d_read_name_token (T : Facts K mg) : ∃ fd, FunD K TS.d_read_name_token.name TS.d_read_name_token.qual (defArgs s_read_name_token) (defBody s_read_name_token) (defScope s_read_name_token) [] [] (He.fAd K TS.d_read_name_token.at_) fd := T.def_ 14
theorem Facts.d_read_head (T : Facts K mg) : ∃ fd, FunD K TS.d_read_head.name TS.d_read_head.qual (defArgs s_read_head) (defBody s_read_head) (defScope s_read_head) [] [] (He.fAd K TS.d_read_head.at_) fd := T.def_ 15
theorem Facts.d_sees_end (T : Facts K mg) : ∃ fd, FunD K TS.d_sees_end.name TS.d_sees_end.qual (defArgs s_sees_end) (defBody s_sees_end) (defScope s_sees_end) [] [] (He.fAd K TS.d_sees_end.at_) fd := T.def_ 16
theorem Facts.d_read_end (T : Facts K mg) : ∃ fd, FunD K TS.d_read_end.name TS.d_read_end.qual (defArgs s_read_end) (defBody s_read_end) (defScope s_read_end) [] [] (He.fAd K TS.d_read_end.at_) fd := T.def_ 17
theorem Facts.d_token_of (T : Facts K mg) : ∃ fd, FunD K TS.d_token_of.name TS.d_token_of.qual (defArgs s_token_of) (defBody s_token_of) (defScope s_token_of) [] [] (He.fAd K TS.d_token_of.at_) fd := T.def_ 18
theorem Facts.d_SameAs_init (T : Facts K mg) : ∃ fd, FunD K TS.d_SameAs_init.name TS.d_SameAs_init.qual (defArgs s_SameAs_init) (defBody s_SameAs_init) (defScope s_SameAs_init) [] [] (He.fAd K TS.d_SameAs_init.at_) fd := T.def_ 19
theorem Facts.d_SameAs_holds (T : Facts K mg) : ∃ fd, FunD K TS.d_SameAs_holds.name TS.d_SameAs_holds.qual (defArgs s_SameAs_holds) (defBody s_SameAs_holds) (defScope s_SameAs_holds) [] [] (He.fAd K TS.d_SameAs_holds.at_) fd := T.def_ 20
theorem Facts.d_BeforeLeaf_init (T : Facts K mg) : ∃ fd, FunD K TS.d_BeforeLeaf_init.name TS.d_BeforeLeaf_init.qual (defArgs s_BeforeLeaf_init) (defBody s_BeforeLeaf_init) (defScope s_BeforeLeaf_init) [] [] (He.fAd K TS.d_BeforeLeaf_init.at_) fd := T.def_ 21
theorem Facts.d_BeforeLeaf_holds (T : Facts K mg) : ∃ fd, FunD K TS.d_BeforeLeaf_holds.name TS.d_BeforeLeaf_holds.qual (defArgs s_BeforeLeaf_holds) (defBody s_BeforeLeaf_holds) (defScope s_BeforeLeaf_holds) [] [] (He.fAd K TS.d_BeforeLeaf_holds.at_) fd := T.def_ 22
theorem Facts.d_BehindLeaf_init (T : Facts K mg) : ∃ fd, FunD K TS.d_BehindLeaf_init.name TS.d_BehindLeaf_init.qual (defArgs s_BehindLeaf_init) (defBody s_BehindLeaf_init) (defScope s_BehindLeaf_init) [] [] (He.fAd K TS.d_BehindLeaf_init.at_) fd := T.def_ 23
theorem Facts.d_BehindLeaf_holds (T : Facts K mg) : ∃ fd, FunD K TS.d_BehindLeaf_holds.name TS.d_BehindLeaf_holds.qual (defArgs s_BehindLeaf_holds) (defBody s_BehindLeaf_holds) (defScope s_BehindLeaf_holds) [] [] (He.fAd K TS.d_BehindLeaf_holds.at_) fd := T.def_ 24
theorem Facts.d_Negation_init (T : Facts K mg) : ∃ fd, FunD K TS.d_Negation_init.name TS.d_Negation_init.qual (defArgs s_Negation_init) (defBody s_Negation_init) (defScope s_Negation_init) [] [] (He.fAd K TS.d_Negation_init.at_) fd := T.def_ 25
theorem Facts.d_Negation_holds (T : Facts K mg) : ∃ fd, FunD K TS.d_Negation_holds.name TS.d_Negation_holds.qual (defArgs s_Negation_holds) (defBody s_Negation_holds) (defScope s_Negation_holds) [] [] (He.fAd K TS.d_Negation_holds.at_) fd := T.def_ 26
theorem Facts.d_BothOf_init (T : Facts K mg) : ∃ fd, FunD K TS.d_BothOf_init.name TS.d_BothOf_init.qual (defArgs s_BothOf_init) (defBody s_BothOf_init) (defScope s_BothOf_init) [] [] (He.fAd K TS.d_BothOf_init.at_) fd := T.def_ 27
theorem Facts.d_BothOf_holds (T : Facts K mg) : ∃ fd, FunD K TS.d_BothOf_holds.name TS.d_BothOf_holds.qual (defArgs s_BothOf_holds) (defBody s_BothOf_holds) (defScope s_BothOf_holds) [] [] (He.fAd K TS.d_BothOf_holds.at_) fd := T.def_ 28
theorem Facts.d_EitherOf_init (T : Facts K mg) : ∃ fd, FunD K TS.d_EitherOf_init.name TS.d_EitherOf_init.qual (defArgs s_EitherOf_init) (defBody s_EitherOf_init) (defScope s_EitherOf_init) [] [] (He.fAd K TS.d_EitherOf_init.at_) fd := T.def_ 29
theorem Facts.d_EitherOf_holds (T : Facts K mg) : ∃ fd, FunD K TS.d_EitherOf_holds.name TS.d_EitherOf_holds.qual (defArgs s_EitherOf_holds) (defBody s_EitherOf_holds) (defScope s_EitherOf_holds) [] [] (He.fAd K TS.d_EitherOf_holds.at_) fd := T.def_ 30
theorem Facts.d_FieldStep_init (T : Facts K mg) : ∃ fd, FunD K TS.d_FieldStep_init.name TS.d_FieldStep_init.qual (defArgs s_FieldStep_init) (defBody s_FieldStep_init) (defScope s_FieldStep_init) [] [] (He.fAd K TS.d_FieldStep_init.at_) fd := T.def_ 31
theorem Facts.d_FieldStep_fault_in (T : Facts K mg) : ∃ fd, FunD K TS.d_FieldStep_fault_in.name TS.d_FieldStep_fault_in.qual (defArgs s_FieldStep_fault_in) (defBody s_FieldStep_fault_in) (defScope s_FieldStep_fault_in) [] [] (He.fAd K TS.d_FieldStep_fault_in.at_) fd := T.def_ 32
theorem Facts.d_FieldStep_picks (T : Facts K mg) : ∃ fd, FunD K TS.d_FieldStep_picks.name TS.d_FieldStep_picks.qual (defArgs s_FieldStep_picks) (defBody s_FieldStep_picks) (defScope s_FieldStep_picks) [] [] (He.fAd K TS.d_FieldStep_picks.at_) fd := T.def_ 33
theorem Facts.d_ItemsStep_init (T : Facts K mg) : ∃ fd, FunD K TS.d_ItemsStep_init.name TS.d_ItemsStep_init.qual (defArgs s_ItemsStep_init) (defBody s_ItemsStep_init) (defScope s_ItemsStep_init) [] [] (He.fAd K TS.d_ItemsStep_init.at_) fd := T.def_ 34
theorem Facts.d_ItemsStep_fault_in (T : Facts K mg) : ∃ fd, FunD K TS.d_ItemsStep_fault_in.name TS.d_ItemsStep_fault_in.qual (defArgs s_ItemsStep_fault_in) (defBody s_ItemsStep_fault_in) (defScope s_ItemsStep_fault_in) [] [] (He.fAd K TS.d_ItemsStep_fault_in.at_) fd := T.def_ 35
theorem Facts.d_ItemsStep_picks (T : Facts K mg) : ∃ fd, FunD K TS.d_ItemsStep_picks.name TS.d_ItemsStep_picks.qual (defArgs s_ItemsStep_picks) (defBody s_ItemsStep_picks) (defScope s_ItemsStep_picks) [] [] (He.fAd K TS.d_ItemsStep_picks.at_) fd := T.def_ 36
theorem Facts.d_EachStep_fault_in (T : Facts K mg) : ∃ fd, FunD K TS.d_EachStep_fault_in.name TS.d_EachStep_fault_in.qual (defArgs s_EachStep_fault_in) (defBody s_EachStep_fault_in) (defScope s_EachStep_fault_in) [] [] (He.fAd K TS.d_EachStep_fault_in.at_) fd := T.def_ 37
theorem Facts.d_EachStep_picks (T : Facts K mg) : ∃ fd, FunD K TS.d_EachStep_picks.name TS.d_EachStep_picks.qual (defArgs s_EachStep_picks) (defBody s_EachStep_picks) (defScope s_EachStep_picks) [] [] (He.fAd K TS.d_EachStep_picks.at_) fd := T.def_ 38
theorem Facts.d_Question_init (T : Facts K mg) : ∃ fd, FunD K TS.d_Question_init.name TS.d_Question_init.qual (defArgs s_Question_init) (defBody s_Question_init) (defScope s_Question_init) [] [] (He.fAd K TS.d_Question_init.at_) fd := T.def_ 39
theorem Facts.d_QuestionReader_init (T : Facts K mg) : ∃ fd, FunD K TS.d_QuestionReader_init.name TS.d_QuestionReader_init.qual (defArgs s_QuestionReader_init) (defBody s_QuestionReader_init) (defScope s_QuestionReader_init) [] [] (He.fAd K TS.d_QuestionReader_init.at_) fd := T.def_ 40
theorem Facts.d_QuestionReader_sees (T : Facts K mg) : ∃ fd, FunD K TS.d_QuestionReader_sees.name TS.d_QuestionReader_sees.qual (defArgs s_QuestionReader_sees) (defBody s_QuestionReader_sees) (defScope s_QuestionReader_sees) [] [] (He.fAd K TS.d_QuestionReader_sees.at_) fd := T.def_ 41
theorem Facts.d_QuestionReader_need (T : Facts K mg) : ∃ fd, FunD K TS.d_QuestionReader_need.name TS.d_QuestionReader_need.qual (defArgs s_QuestionReader_need) (defBody s_QuestionReader_need) (defScope s_QuestionReader_need) [] [] (He.fAd K TS.d_QuestionReader_need.at_) fd := T.def_ 42
theorem Facts.d_QuestionReader_skips (T : Facts K mg) : ∃ fd, FunD K TS.d_QuestionReader_skips.name TS.d_QuestionReader_skips.qual (defArgs s_QuestionReader_skips) (defBody s_QuestionReader_skips) (defScope s_QuestionReader_skips) [] [] (He.fAd K TS.d_QuestionReader_skips.at_) fd := T.def_ 43
theorem Facts.d_QuestionReader_add_node (T : Facts K mg) : ∃ fd, FunD K TS.d_QuestionReader_add_node.name TS.d_QuestionReader_add_node.qual (defArgs s_QuestionReader_add_node) (defBody s_QuestionReader_add_node) (defScope s_QuestionReader_add_node) [] [] (He.fAd K TS.d_QuestionReader_add_node.at_) fd := T.def_ 44
theorem Facts.d_QuestionReader_number_up_to (T : Facts K mg) : ∃ fd, FunD K TS.d_QuestionReader_number_up_to.name TS.d_QuestionReader_number_up_to.qual (defArgs s_QuestionReader_number_up_to) (defBody s_QuestionReader_number_up_to) (defScope s_QuestionReader_number_up_to) [] [] (He.fAd K TS.d_QuestionReader_number_up_to.at_) fd := T.def_ 45
theorem Facts.d_QuestionReader_read_whole (T : Facts K mg) : ∃ fd, FunD K TS.d_QuestionReader_read_whole.name TS.d_QuestionReader_read_whole.qual (defArgs s_QuestionReader_read_whole) (defBody s_QuestionReader_read_whole) (defScope s_QuestionReader_read_whole) [] [] (He.fAd K TS.d_QuestionReader_read_whole.at_) fd := T.def_ 46
theorem Facts.d_QuestionReader_read_told (T : Facts K mg) : ∃ fd, FunD K TS.d_QuestionReader_read_told.name TS.d_QuestionReader_read_told.qual (defArgs s_QuestionReader_read_told) (defBody s_QuestionReader_read_told) (defScope s_QuestionReader_read_told) [] [] (He.fAd K TS.d_QuestionReader_read_told.at_) fd := T.def_ 47
theorem Facts.d_QuestionReader_read_chain (T : Facts K mg) : ∃ fd, FunD K TS.d_QuestionReader_read_chain.name TS.d_QuestionReader_read_chain.qual (defArgs s_QuestionReader_read_chain) (defBody s_QuestionReader_read_chain) (defScope s_QuestionReader_read_chain) [] [] (He.fAd K TS.d_QuestionReader_read_chain.at_) fd := T.def_ 48
theorem Facts.d_QuestionReader_read_link (T : Facts K mg) : ∃ fd, FunD K TS.d_QuestionReader_read_link.name TS.d_QuestionReader_read_link.qual (defArgs s_QuestionReader_read_link) (defBody s_QuestionReader_read_link) (defScope s_QuestionReader_read_link) [] [] (He.fAd K TS.d_QuestionReader_read_link.at_) fd := T.def_ 49
theorem Facts.d_QuestionReader_pass_stage (T : Facts K mg) : ∃ fd, FunD K TS.d_QuestionReader_pass_stage.name TS.d_QuestionReader_pass_stage.qual (defArgs s_QuestionReader_pass_stage) (defBody s_QuestionReader_pass_stage) (defScope s_QuestionReader_pass_stage) [] [] (He.fAd K TS.d_QuestionReader_pass_stage.at_) fd := T.def_ 50
theorem Facts.d_QuestionReader_add_step (T : Facts K mg) : ∃ fd, FunD K TS.d_QuestionReader_add_step.name TS.d_QuestionReader_add_step.qual (defArgs s_QuestionReader_add_step) (defBody s_QuestionReader_add_step) (defScope s_QuestionReader_add_step) [] [] (He.fAd K TS.d_QuestionReader_add_step.at_) fd := T.def_ 51
theorem Facts.d_QuestionReader_read_brackets (T : Facts K mg) : ∃ fd, FunD K TS.d_QuestionReader_read_brackets.name TS.d_QuestionReader_read_brackets.qual (defArgs s_QuestionReader_read_brackets) (defBody s_QuestionReader_read_brackets) (defScope s_QuestionReader_read_brackets) [] [] (He.fAd K TS.d_QuestionReader_read_brackets.at_) fd := T.def_ 52
theorem Facts.d_QuestionReader_read_condition (T : Facts K mg) : ∃ fd, FunD K TS.d_QuestionReader_read_condition.name TS.d_QuestionReader_read_condition.qual (defArgs s_QuestionReader_read_condition) (defBody s_QuestionReader_read_condition) (defScope s_QuestionReader_read_condition) [] [] (He.fAd K TS.d_QuestionReader_read_condition.at_) fd := T.def_ 53
theorem Facts.d_QuestionReader_read_pair (T : Facts K mg) : ∃ fd, FunD K TS.d_QuestionReader_read_pair.name TS.d_QuestionReader_read_pair.qual (defArgs s_QuestionReader_read_pair) (defBody s_QuestionReader_read_pair) (defScope s_QuestionReader_read_pair) [] [] (He.fAd K TS.d_QuestionReader_read_pair.at_) fd := T.def_ 54
theorem Facts.d_QuestionReader_read_comparison (T : Facts K mg) : ∃ fd, FunD K TS.d_QuestionReader_read_comparison.name TS.d_QuestionReader_read_comparison.qual (defArgs s_QuestionReader_read_comparison) (defBody s_QuestionReader_read_comparison) (defScope s_QuestionReader_read_comparison) [] [] (He.fAd K TS.d_QuestionReader_read_comparison.at_) fd := T.def_ 55
theorem Facts.d_QuestionReader_read_key (T : Facts K mg) : ∃ fd, FunD K TS.d_QuestionReader_read_key.name TS.d_QuestionReader_read_key.qual (defArgs s_QuestionReader_read_key) (defBody s_QuestionReader_read_key) (defScope s_QuestionReader_read_key) [] [] (He.fAd K TS.d_QuestionReader_read_key.at_) fd := T.def_ 56
theorem Facts.d_question_of (T : Facts K mg) : ∃ fd, FunD K TS.d_question_of.name TS.d_question_of.qual (defArgs s_question_of) (defBody s_question_of) (defScope s_question_of) [] [] (He.fAd K TS.d_question_of.at_) fd := T.def_ 57
theorem Facts.d_place_text (T : Facts K mg) : ∃ fd, FunD K TS.d_place_text.name TS.d_place_text.qual (defArgs s_place_text) (defBody s_place_text) (defScope s_place_text) [] [] (He.fAd K TS.d_place_text.at_) fd := T.def_ 58
theorem Facts.d_Search_init (T : Facts K mg) : ∃ fd, FunD K TS.d_Search_init.name TS.d_Search_init.qual (defArgs s_Search_init) (defBody s_Search_init) (defScope s_Search_init) [] [] (He.fAd K TS.d_Search_init.at_) fd := T.def_ 59
theorem Facts.d_Search_meet (T : Facts K mg) : ∃ fd, FunD K TS.d_Search_meet.name TS.d_Search_meet.qual (defArgs s_Search_meet) (defBody s_Search_meet) (defScope s_Search_meet) [] [] (He.fAd K TS.d_Search_meet.at_) fd := T.def_ 60
theorem Facts.d_Search_is_reached (T : Facts K mg) : ∃ fd, FunD K TS.d_Search_is_reached.name TS.d_Search_is_reached.qual (defArgs s_Search_is_reached) (defBody s_Search_is_reached) (defScope s_Search_is_reached) [] [] (He.fAd K TS.d_Search_is_reached.at_) fd := T.def_ 61
theorem Facts.d_Search_look_for_fault (T : Facts K mg) : ∃ fd, FunD K TS.d_Search_look_for_fault.name TS.d_Search_look_for_fault.qual (defArgs s_Search_look_for_fault) (defBody s_Search_look_for_fault) (defScope s_Search_look_for_fault) [] [] (He.fAd K TS.d_Search_look_for_fault.at_) fd := T.def_ 62
theorem Facts.d_Search_add_result (T : Facts K mg) : ∃ fd, FunD K TS.d_Search_add_result.name TS.d_Search_add_result.qual (defArgs s_Search_add_result) (defBody s_Search_add_result) (defScope s_Search_add_result) [] [] (He.fAd K TS.d_Search_add_result.at_) fd := T.def_ 63
theorem Facts.d_Search_end (T : Facts K mg) : ∃ fd, FunD K TS.d_Search_end.name TS.d_Search_end.qual (defArgs s_Search_end) (defBody s_Search_end) (defScope s_Search_end) [] [] (He.fAd K TS.d_Search_end.at_) fd := T.def_ 64
theorem Facts.d_Search_fault_of_sum (T : Facts K mg) : ∃ fd, FunD K TS.d_Search_fault_of_sum.name TS.d_Search_fault_of_sum.qual (defArgs s_Search_fault_of_sum) (defBody s_Search_fault_of_sum) (defScope s_Search_fault_of_sum) [] [] (He.fAd K TS.d_Search_fault_of_sum.at_) fd := T.def_ 65
theorem Facts.d_Frame_init (T : Facts K mg) : ∃ fd, FunD K TS.d_Frame_init.name TS.d_Frame_init.qual (defArgs s_Frame_init) (defBody s_Frame_init) (defScope s_Frame_init) [] [] (He.fAd K TS.d_Frame_init.at_) fd := T.def_ 66
theorem Facts.d_Frame_twin (T : Facts K mg) : ∃ fd, FunD K TS.d_Frame_twin.name TS.d_Frame_twin.qual (defArgs s_Frame_twin) (defBody s_Frame_twin) (defScope s_Frame_twin) [] [] (He.fAd K TS.d_Frame_twin.at_) fd := T.def_ 67
theorem Facts.d_Frame_takes_tree (T : Facts K mg) : ∃ fd, FunD K TS.d_Frame_takes_tree.name TS.d_Frame_takes_tree.qual (defArgs s_Frame_takes_tree) (defBody s_Frame_takes_tree) (defScope s_Frame_takes_tree) [] [] (He.fAd K TS.d_Frame_takes_tree.at_) fd := T.def_ 68
theorem Facts.d_Frame_takes_name (T : Facts K mg) : ∃ fd, FunD K TS.d_Frame_takes_name.name TS.d_Frame_takes_name.qual (defArgs s_Frame_takes_name) (defBody s_Frame_takes_name) (defScope s_Frame_takes_name) [] [] (He.fAd K TS.d_Frame_takes_name.at_) fd := T.def_ 69
theorem Facts.d_Frame_takes_end (T : Facts K mg) : ∃ fd, FunD K TS.d_Frame_takes_end.name TS.d_Frame_takes_end.qual (defArgs s_Frame_takes_end) (defBody s_Frame_takes_end) (defScope s_Frame_takes_end) [] [] (He.fAd K TS.d_Frame_takes_end.at_) fd := T.def_ 70
theorem Facts.d_Frame_begin_within (T : Facts K mg) : ∃ fd, FunD K TS.d_Frame_begin_within.name TS.d_Frame_begin_within.qual (defArgs s_Frame_begin_within) (defBody s_Frame_begin_within) (defScope s_Frame_begin_within) [] [] (He.fAd K TS.d_Frame_begin_within.at_) fd := T.def_ 71
theorem Facts.d_Frame_begin_field (T : Facts K mg) : ∃ fd, FunD K TS.d_Frame_begin_field.name TS.d_Frame_begin_field.qual (defArgs s_Frame_begin_field) (defBody s_Frame_begin_field) (defScope s_Frame_begin_field) [] [] (He.fAd K TS.d_Frame_begin_field.at_) fd := T.def_ 72
theorem Facts.d_Frame_way (T : Facts K mg) : ∃ fd, FunD K TS.d_Frame_way.name TS.d_Frame_way.qual (defArgs s_Frame_way) (defBody s_Frame_way) (defScope s_Frame_way) [] [] (He.fAd K TS.d_Frame_way.at_) fd := T.def_ 73
theorem Facts.d_Shape_init (T : Facts K mg) : ∃ fd, FunD K TS.d_Shape_init.name TS.d_Shape_init.qual (defArgs s_Shape_init) (defBody s_Shape_init) (defScope s_Shape_init) [] [] (He.fAd K TS.d_Shape_init.at_) fd := T.def_ 74
theorem Facts.d_Shape_twin (T : Facts K mg) : ∃ fd, FunD K TS.d_Shape_twin.name TS.d_Shape_twin.qual (defArgs s_Shape_twin) (defBody s_Shape_twin) (defScope s_Shape_twin) [] [] (He.fAd K TS.d_Shape_twin.at_) fd := T.def_ 75
theorem Facts.d_Shape_is_whole (T : Facts K mg) : ∃ fd, FunD K TS.d_Shape_is_whole.name TS.d_Shape_is_whole.qual (defArgs s_Shape_is_whole) (defBody s_Shape_is_whole) (defScope s_Shape_is_whole) [] [] (He.fAd K TS.d_Shape_is_whole.at_) fd := T.def_ 76
theorem Facts.d_Shape_has_room (T : Facts K mg) : ∃ fd, FunD K TS.d_Shape_has_room.name TS.d_Shape_has_room.qual (defArgs s_Shape_has_room) (defBody s_Shape_has_room) (defScope s_Shape_has_room) [] [] (He.fAd K TS.d_Shape_has_room.at_) fd := T.def_ 77
theorem Facts.d_Shape_awaits_name (T : Facts K mg) : ∃ fd, FunD K TS.d_Shape_awaits_name.name TS.d_Shape_awaits_name.qual (defArgs s_Shape_awaits_name) (defBody s_Shape_awaits_name) (defScope s_Shape_awaits_name) [] [] (He.fAd K TS.d_Shape_awaits_name.at_) fd := T.def_ 78
theorem Facts.d_Shape_awaits_comma (T : Facts K mg) : ∃ fd, FunD K TS.d_Shape_awaits_comma.name TS.d_Shape_awaits_comma.qual (defArgs s_Shape_awaits_comma) (defBody s_Shape_awaits_comma) (defScope s_Shape_awaits_comma) [] [] (He.fAd K TS.d_Shape_awaits_comma.at_) fd := T.def_ 79
theorem Facts.d_Shape_can_come (T : Facts K mg) : ∃ fd, FunD K TS.d_Shape_can_come.name TS.d_Shape_can_come.qual (defArgs s_Shape_can_come) (defBody s_Shape_can_come) (defScope s_Shape_can_come) [] [] (He.fAd K TS.d_Shape_can_come.at_) fd := T.def_ 80
theorem Facts.d_Shape_come (T : Facts K mg) : ∃ fd, FunD K TS.d_Shape_come.name TS.d_Shape_come.qual (defArgs s_Shape_come) (defBody s_Shape_come) (defScope s_Shape_come) [] [] (He.fAd K TS.d_Shape_come.at_) fd := T.def_ 81
theorem Facts.d_Shape_begin_tree (T : Facts K mg) : ∃ fd, FunD K TS.d_Shape_begin_tree.name TS.d_Shape_begin_tree.qual (defArgs s_Shape_begin_tree) (defBody s_Shape_begin_tree) (defScope s_Shape_begin_tree) [] [] (He.fAd K TS.d_Shape_begin_tree.at_) fd := T.def_ 82
theorem Facts.d_Stream_init (T : Facts K mg) : ∃ fd, FunD K TS.d_Stream_init.name TS.d_Stream_init.qual (defArgs s_Stream_init) (defBody s_Stream_init) (defScope s_Stream_init) [] [] (He.fAd K TS.d_Stream_init.at_) fd := T.def_ 83
theorem Facts.d_Stream_rehearse (T : Facts K mg) : ∃ fd, FunD K TS.d_Stream_rehearse.name TS.d_Stream_rehearse.qual (defArgs s_Stream_rehearse) (defBody s_Stream_rehearse) (defScope s_Stream_rehearse) [] [] (He.fAd K TS.d_Stream_rehearse.at_) fd := T.def_ 84
theorem Facts.d_Stream_hear (T : Facts K mg) : ∃ fd, FunD K TS.d_Stream_hear.name TS.d_Stream_hear.qual (defArgs s_Stream_hear) (defBody s_Stream_hear) (defScope s_Stream_hear) [] [] (He.fAd K TS.d_Stream_hear.at_) fd := T.def_ 85
theorem Facts.d_Stream_hear_all (T : Facts K mg) : ∃ fd, FunD K TS.d_Stream_hear_all.name TS.d_Stream_hear_all.qual (defArgs s_Stream_hear_all) (defBody s_Stream_hear_all) (defScope s_Stream_hear_all) [] [] (He.fAd K TS.d_Stream_hear_all.at_) fd := T.def_ 86
theorem Facts.d_Stream_finish (T : Facts K mg) : ∃ fd, FunD K TS.d_Stream_finish.name TS.d_Stream_finish.qual (defArgs s_Stream_finish) (defBody s_Stream_finish) (defScope s_Stream_finish) [] [] (He.fAd K TS.d_Stream_finish.at_) fd := T.def_ 87
theorem Facts.d_Stream_room (T : Facts K mg) : ∃ fd, FunD K TS.d_Stream_room.name TS.d_Stream_room.qual (defArgs s_Stream_room) (defBody s_Stream_room) (defScope s_Stream_room) [] [] (He.fAd K TS.d_Stream_room.at_) fd := T.def_ 88
theorem Facts.d_next_token (T : Facts K mg) : ∃ fd, FunD K TS.d_next_token.name TS.d_next_token.qual (defArgs s_next_token) (defBody s_next_token) (defScope s_next_token) [] [] (He.fAd K TS.d_next_token.at_) fd := T.def_ 89
theorem Facts.d_tree_tokens (T : Facts K mg) : ∃ fd, FunD K TS.d_tree_tokens.name TS.d_tree_tokens.qual (defArgs s_tree_tokens) (defBody s_tree_tokens) (defScope s_tree_tokens) [] [] (He.fAd K TS.d_tree_tokens.at_) fd := T.def_ 90
theorem Facts.d_Session_init (T : Facts K mg) : ∃ fd, FunD K TS.d_Session_init.name TS.d_Session_init.qual (defArgs s_Session_init) (defBody s_Session_init) (defScope s_Session_init) [] [] (He.fAd K TS.d_Session_init.at_) fd := T.def_ 91
theorem Facts.d_Session_ask (T : Facts K mg) : ∃ fd, FunD K TS.d_Session_ask.name TS.d_Session_ask.qual (defArgs s_Session_ask) (defBody s_Session_ask) (defScope s_Session_ask) [] [] (He.fAd K TS.d_Session_ask.at_) fd := T.def_ 92
theorem Facts.d_Session_hear_token (T : Facts K mg) : ∃ fd, FunD K TS.d_Session_hear_token.name TS.d_Session_hear_token.qual (defArgs s_Session_hear_token) (defBody s_Session_hear_token) (defScope s_Session_hear_token) [] [] (He.fAd K TS.d_Session_hear_token.at_) fd := T.def_ 93
theorem Facts.d_Session_hear_tree (T : Facts K mg) : ∃ fd, FunD K TS.d_Session_hear_tree.name TS.d_Session_hear_tree.qual (defArgs s_Session_hear_tree) (defBody s_Session_hear_tree) (defScope s_Session_hear_tree) [] [] (He.fAd K TS.d_Session_hear_tree.at_) fd := T.def_ 94
theorem Facts.d_Session_finish (T : Facts K mg) : ∃ fd, FunD K TS.d_Session_finish.name TS.d_Session_finish.qual (defArgs s_Session_finish) (defBody s_Session_finish) (defScope s_Session_finish) [] [] (He.fAd K TS.d_Session_finish.at_) fd := T.def_ 95
theorem Facts.d_Session_begin_again (T : Facts K mg) : ∃ fd, FunD K TS.d_Session_begin_again.name TS.d_Session_begin_again.qual (defArgs s_Session_begin_again) (defBody s_Session_begin_again) (defScope s_Session_begin_again) [] [] (He.fAd K TS.d_Session_begin_again.at_) fd := T.def_ 96
theorem Facts.d_Session_list_tokens (T : Facts K mg) : ∃ fd, FunD K TS.d_Session_list_tokens.name TS.d_Session_list_tokens.qual (defArgs s_Session_list_tokens) (defBody s_Session_list_tokens) (defScope s_Session_list_tokens) [] [] (He.fAd K TS.d_Session_list_tokens.at_) fd := T.def_ 97
theorem Facts.d_Session_answer_tree (T : Facts K mg) : ∃ fd, FunD K TS.d_Session_answer_tree.name TS.d_Session_answer_tree.qual (defArgs s_Session_answer_tree) (defBody s_Session_answer_tree) (defScope s_Session_answer_tree) [] [] (He.fAd K TS.d_Session_answer_tree.at_) fd := T.def_ 98
theorem Facts.d_Session_room (T : Facts K mg) : ∃ fd, FunD K TS.d_Session_room.name TS.d_Session_room.qual (defArgs s_Session_room) (defBody s_Session_room) (defScope s_Session_room) [] [] (He.fAd K TS.d_Session_room.at_) fd := T.def_ 99
theorem Facts.d_obey (T : Facts K mg) : ∃ fd, FunD K TS.d_obey.name TS.d_obey.qual (defArgs s_obey) (defBody s_obey) (defScope s_obey) [] [] (He.fAd K TS.d_obey.at_) fd := T.def_ 100
theorem Facts.d_answer_of (T : Facts K mg) : ∃ fd, FunD K TS.d_answer_of.name TS.d_answer_of.qual (defArgs s_answer_of) (defBody s_answer_of) (defScope s_answer_of) [] [] (He.fAd K TS.d_answer_of.at_) fd := T.def_ 101
theorem Facts.d_answers (T : Facts K mg) : ∃ fd, FunD K TS.d_answers.name TS.d_answers.qual (defArgs s_answers) (defBody s_answers) (defScope s_answers) [] [] (He.fAd K TS.d_answers.at_) fd := T.def_ 102
end
/-! ### the names of each def's places -/
theorem sc_codes : FnScope ["word", "sign"] ["word"] (defScope s_codes) := ⟨rfl, rfl, rfl, by decide +kernel, rfl, by decide +kernel, by decide +kernel⟩
theorem sc_byte_at : FnScope ["text", "at"] ["text", "at"] (defScope s_byte_at) := ⟨rfl, rfl, rfl, by decide +kernel, rfl, by decide +kernel, by decide +kernel⟩
theorem sc_starts : FnScope ["text", "at", "word"] ["text", "at", "word"] (defScope s_starts) := ⟨rfl, rfl, rfl, by decide +kernel, rfl, by decide +kernel, by decide +kernel⟩
theorem sc_behind : FnScope ["text", "at", "word"] ["text", "at", "word"] (defScope s_behind) := ⟨rfl, rfl, rfl, by decide +kernel, rfl, by decide +kernel, by decide +kernel⟩
theorem sc_counted : FnScope ["numbers"] ["numbers"] (defScope s_counted) := ⟨rfl, rfl, rfl, by decide +kernel, rfl, by decide +kernel, by decide +kernel⟩
theorem sc_is_small_letter : FnScope ["byte"] ["byte"] (defScope s_is_small_letter) := ⟨rfl, rfl, rfl, by decide +kernel, rfl, by decide +kernel, by decide +kernel⟩
theorem sc_is_digit : FnScope ["byte"] ["byte"] (defScope s_is_digit) := ⟨rfl, rfl, rfl, by decide +kernel, rfl, by decide +kernel, by decide +kernel⟩
theorem sc_is_sign : FnScope ["byte"] ["byte"] (defScope s_is_sign) := ⟨rfl, rfl, rfl, by decide +kernel, rfl, by decide +kernel, by decide +kernel⟩
theorem sc_read_name : FnScope ["text", "at", "end"] ["text", "at"] (defScope s_read_name) := ⟨rfl, rfl, rfl, by decide +kernel, rfl, by decide +kernel, by decide +kernel⟩
theorem sc_read_number : FnScope ["text", "at", "low", "high", "below", "start", "end", "number", "needless"] ["text", "at", "low", "high"] (defScope s_read_number) := ⟨rfl, rfl, rfl, by decide +kernel, rfl, by decide +kernel, by decide +kernel⟩
theorem sc_read_marked : FnScope ["text", "at", "end", "inner"] ["text", "at"] (defScope s_read_marked) := ⟨rfl, rfl, rfl, by decide +kernel, rfl, by decide +kernel, by decide +kernel⟩
theorem sc_read_leaf : FnScope ["text", "at", "first", "inner", "end", "number", "rank", "word"] ["text", "at"] (defScope s_read_leaf) := ⟨rfl, rfl, rfl, by decide +kernel, rfl, by decide +kernel, by decide +kernel⟩
theorem sc_Token_init : FnScope ["self", "kind", "text", "key", "name"] ["self", "kind", "text", "key", "name"] (defScope s_Token_init) := ⟨rfl, rfl, rfl, by decide +kernel, rfl, by decide +kernel, by decide +kernel⟩
theorem sc_Token_begins_tree : FnScope ["self"] ["self"] (defScope s_Token_begins_tree) := ⟨rfl, rfl, rfl, by decide +kernel, rfl, by decide +kernel, by decide +kernel⟩
theorem sc_read_name_token : FnScope ["text", "at", "name", "end"] ["text", "at"] (defScope s_read_name_token) := ⟨rfl, rfl, rfl, by decide +kernel, rfl, by decide +kernel, by decide +kernel⟩
theorem sc_read_head : FnScope ["text", "at", "key", "end"] ["text", "at"] (defScope s_read_head) := ⟨rfl, rfl, rfl, by decide +kernel, rfl, by decide +kernel, by decide +kernel⟩
theorem sc_sees_end : FnScope ["text", "at"] ["text", "at"] (defScope s_sees_end) := ⟨rfl, rfl, rfl, by decide +kernel, rfl, by decide +kernel, by decide +kernel⟩
theorem sc_read_end : FnScope ["text", "at", "kind"] ["text", "at"] (defScope s_read_end) := ⟨rfl, rfl, rfl, by decide +kernel, rfl, by decide +kernel, by decide +kernel⟩
theorem sc_token_of : FnScope ["text", "token", "end"] ["text"] (defScope s_token_of) := ⟨rfl, rfl, rfl, by decide +kernel, rfl, by decide +kernel, by decide +kernel⟩
theorem sc_SameAs_init : FnScope ["self", "leaf"] ["self", "leaf"] (defScope s_SameAs_init) := ⟨rfl, rfl, rfl, by decide +kernel, rfl, by decide +kernel, by decide +kernel⟩
theorem sc_SameAs_holds : FnScope ["self", "key"] ["self", "key"] (defScope s_SameAs_holds) := ⟨rfl, rfl, rfl, by decide +kernel, rfl, by decide +kernel, by decide +kernel⟩
theorem sc_BeforeLeaf_init : FnScope ["self", "leaf"] ["self", "leaf"] (defScope s_BeforeLeaf_init) := ⟨rfl, rfl, rfl, by decide +kernel, rfl, by decide +kernel, by decide +kernel⟩
theorem sc_BeforeLeaf_holds : FnScope ["self", "key"] ["self", "key"] (defScope s_BeforeLeaf_holds) := ⟨rfl, rfl, rfl, by decide +kernel, rfl, by decide +kernel, by decide +kernel⟩
theorem sc_BehindLeaf_init : FnScope ["self", "leaf"] ["self", "leaf"] (defScope s_BehindLeaf_init) := ⟨rfl, rfl, rfl, by decide +kernel, rfl, by decide +kernel, by decide +kernel⟩
theorem sc_BehindLeaf_holds : FnScope ["self", "key"] ["self", "key"] (defScope s_BehindLeaf_holds) := ⟨rfl, rfl, rfl, by decide +kernel, rfl, by decide +kernel, by decide +kernel⟩
theorem sc_Negation_init : FnScope ["self", "part"] ["self", "part"] (defScope s_Negation_init) := ⟨rfl, rfl, rfl, by decide +kernel, rfl, by decide +kernel, by decide +kernel⟩
theorem sc_Negation_holds : FnScope ["self", "key"] ["self", "key"] (defScope s_Negation_holds) := ⟨rfl, rfl, rfl, by decide +kernel, rfl, by decide +kernel, by decide +kernel⟩
theorem sc_BothOf_init : FnScope ["self", "one", "other"] ["self", "one", "other"] (defScope s_BothOf_init) := ⟨rfl, rfl, rfl, by decide +kernel, rfl, by decide +kernel, by decide +kernel⟩
theorem sc_BothOf_holds : FnScope ["self", "key"] ["self", "key"] (defScope s_BothOf_holds) := ⟨rfl, rfl, rfl, by decide +kernel, rfl, by decide +kernel, by decide +kernel⟩
theorem sc_EitherOf_init : FnScope ["self", "one", "other"] ["self", "one", "other"] (defScope s_EitherOf_init) := ⟨rfl, rfl, rfl, by decide +kernel, rfl, by decide +kernel, by decide +kernel⟩
theorem sc_EitherOf_holds : FnScope ["self", "key"] ["self", "key"] (defScope s_EitherOf_holds) := ⟨rfl, rfl, rfl, by decide +kernel, rfl, by decide +kernel, by decide +kernel⟩
theorem sc_FieldStep_init : FnScope ["self", "name"] ["self", "name"] (defScope s_FieldStep_init) := ⟨rfl, rfl, rfl, by decide +kernel, rfl, by decide +kernel, by decide +kernel⟩
theorem sc_FieldStep_fault_in : FnScope ["self", "kind"] ["self", "kind"] (defScope s_FieldStep_fault_in) := ⟨rfl, rfl, rfl, by decide +kernel, rfl, by decide +kernel, by decide +kernel⟩
theorem sc_FieldStep_picks : FnScope ["self", "way"] ["self", "way"] (defScope s_FieldStep_picks) := ⟨rfl, rfl, rfl, by decide +kernel, rfl, by decide +kernel, by decide +kernel⟩
theorem sc_ItemsStep_init : FnScope ["self", "low", "high"] ["self", "low", "high"] (defScope s_ItemsStep_init) := ⟨rfl, rfl, rfl, by decide +kernel, rfl, by decide +kernel, by decide +kernel⟩
theorem sc_ItemsStep_fault_in : FnScope ["self", "kind"] ["self", "kind"] (defScope s_ItemsStep_fault_in) := ⟨rfl, rfl, rfl, by decide +kernel, rfl, by decide +kernel, by decide +kernel⟩
theorem sc_ItemsStep_picks : FnScope ["self", "way"] ["self", "way"] (defScope s_ItemsStep_picks) := ⟨rfl, rfl, rfl, by decide +kernel, rfl, by decide +kernel, by decide +kernel⟩
theorem sc_EachStep_fault_in : FnScope ["self", "kind"] ["self", "kind"] (defScope s_EachStep_fault_in) := ⟨rfl, rfl, rfl, by decide +kernel, rfl, by decide +kernel, by decide +kernel⟩
theorem sc_EachStep_picks : FnScope ["self", "way"] ["self", "way"] (defScope s_EachStep_picks) := ⟨rfl, rfl, rfl, by decide +kernel, rfl, by decide +kernel, by decide +kernel⟩
theorem sc_Question_init : FnScope ["self"] ["self"] (defScope s_Question_init) := ⟨rfl, rfl, rfl, by decide +kernel, rfl, by decide +kernel, by decide +kernel⟩
theorem sc_QuestionReader_init : FnScope ["self", "text"] ["self", "text"] (defScope s_QuestionReader_init) := ⟨rfl, rfl, rfl, by decide +kernel, rfl, by decide +kernel, by decide +kernel⟩
theorem sc_QuestionReader_sees : FnScope ["self", "word"] ["self", "word"] (defScope s_QuestionReader_sees) := ⟨rfl, rfl, rfl, by decide +kernel, rfl, by decide +kernel, by decide +kernel⟩
theorem sc_QuestionReader_need : FnScope ["self", "word"] ["self", "word"] (defScope s_QuestionReader_need) := ⟨rfl, rfl, rfl, by decide +kernel, rfl, by decide +kernel, by decide +kernel⟩
theorem sc_QuestionReader_skips : FnScope ["self", "word", "found"] ["self", "word"] (defScope s_QuestionReader_skips) := ⟨rfl, rfl, rfl, by decide +kernel, rfl, by decide +kernel, by decide +kernel⟩
theorem sc_QuestionReader_add_node : FnScope ["self"] ["self"] (defScope s_QuestionReader_add_node) := ⟨rfl, rfl, rfl, by decide +kernel, rfl, by decide +kernel, by decide +kernel⟩
theorem sc_QuestionReader_number_up_to : FnScope ["self", "high", "number", "end"] ["self", "high"] (defScope s_QuestionReader_number_up_to) := ⟨rfl, rfl, rfl, by decide +kernel, rfl, by decide +kernel, by decide +kernel⟩
theorem sc_QuestionReader_read_whole : FnScope ["self"] ["self"] (defScope s_QuestionReader_read_whole) := ⟨rfl, rfl, rfl, by decide +kernel, rfl, by decide +kernel, by decide +kernel⟩
theorem sc_QuestionReader_read_told : FnScope ["self"] ["self"] (defScope s_QuestionReader_read_told) := ⟨rfl, rfl, rfl, by decide +kernel, rfl, by decide +kernel, by decide +kernel⟩
theorem sc_QuestionReader_read_chain : FnScope ["self"] ["self"] (defScope s_QuestionReader_read_chain) := ⟨rfl, rfl, rfl, by decide +kernel, rfl, by decide +kernel, by decide +kernel⟩
theorem sc_QuestionReader_read_link : FnScope ["self", "name", "end"] ["self"] (defScope s_QuestionReader_read_link) := ⟨rfl, rfl, rfl, by decide +kernel, rfl, by decide +kernel, by decide +kernel⟩
theorem sc_QuestionReader_pass_stage : FnScope ["self", "latest", "following"] ["self", "latest", "following"] (defScope s_QuestionReader_pass_stage) := ⟨rfl, rfl, rfl, by decide +kernel, rfl, by decide +kernel, by decide +kernel⟩
theorem sc_QuestionReader_add_step : FnScope ["self", "step"] ["self", "step"] (defScope s_QuestionReader_add_step) := ⟨rfl, rfl, rfl, by decide +kernel, rfl, by decide +kernel, by decide +kernel⟩
theorem sc_QuestionReader_read_brackets : FnScope ["self", "low", "high"] ["self"] (defScope s_QuestionReader_read_brackets) := ⟨rfl, rfl, rfl, by decide +kernel, rfl, by decide +kernel, by decide +kernel⟩
theorem sc_QuestionReader_read_condition : FnScope ["self", "part", "condition"] ["self"] (defScope s_QuestionReader_read_condition) := ⟨rfl, rfl, rfl, by decide +kernel, rfl, by decide +kernel, by decide +kernel⟩
theorem sc_QuestionReader_read_pair : FnScope ["self", "one"] ["self"] (defScope s_QuestionReader_read_pair) := ⟨rfl, rfl, rfl, by decide +kernel, rfl, by decide +kernel, by decide +kernel⟩
theorem sc_QuestionReader_read_comparison : FnScope ["self", "leaf"] ["self"] (defScope s_QuestionReader_read_comparison) := ⟨rfl, rfl, rfl, by decide +kernel, rfl, by decide +kernel, by decide +kernel⟩
theorem sc_QuestionReader_read_key : FnScope ["self", "key", "end"] ["self"] (defScope s_QuestionReader_read_key) := ⟨rfl, rfl, rfl, by decide +kernel, rfl, by decide +kernel, by decide +kernel⟩
theorem sc_question_of : FnScope ["text"] ["text"] (defScope s_question_of) := ⟨rfl, rfl, rfl, by decide +kernel, rfl, by decide +kernel, by decide +kernel⟩
theorem sc_place_text : FnScope ["place", "text", "way"] ["place"] (defScope s_place_text) := ⟨rfl, rfl, rfl, by decide +kernel, rfl, by decide +kernel, by decide +kernel⟩
theorem sc_Search_init : FnScope ["self", "question"] ["self", "question"] (defScope s_Search_init) := ⟨rfl, rfl, rfl, by decide +kernel, rfl, by decide +kernel, by decide +kernel⟩
theorem sc_Search_meet : FnScope ["self", "place", "token", "steps", "condition"] ["self", "place", "token"] (defScope s_Search_meet) := ⟨rfl, rfl, rfl, by decide +kernel, rfl, by decide +kernel, by decide +kernel⟩
theorem sc_Search_is_reached : FnScope ["self", "place", "step", "way"] ["self", "place"] (defScope s_Search_is_reached) := ⟨rfl, rfl, rfl, by decide +kernel, rfl, by decide +kernel, by decide +kernel⟩
theorem sc_Search_look_for_fault : FnScope ["self", "number", "place"] ["self", "number", "place"] (defScope s_Search_look_for_fault) := ⟨rfl, rfl, rfl, by decide +kernel, rfl, by decide +kernel, by decide +kernel⟩
theorem sc_Search_add_result : FnScope ["self", "place", "token", "rank", "value"] ["self", "place", "token"] (defScope s_Search_add_result) := ⟨rfl, rfl, rfl, by decide +kernel, rfl, by decide +kernel, by decide +kernel⟩
theorem sc_Search_end : FnScope ["self", "fault", "number", "place"] ["self"] (defScope s_Search_end) := ⟨rfl, rfl, rfl, by decide +kernel, rfl, by decide +kernel, by decide +kernel⟩
theorem sc_Search_fault_of_sum : FnScope ["self"] ["self"] (defScope s_Search_fault_of_sum) := ⟨rfl, rfl, rfl, by decide +kernel, rfl, by decide +kernel, by decide +kernel⟩
theorem sc_Frame_init : FnScope ["self", "kind"] ["self", "kind"] (defScope s_Frame_init) := ⟨rfl, rfl, rfl, by decide +kernel, rfl, by decide +kernel, by decide +kernel⟩
theorem sc_Frame_twin : FnScope ["self", "other"] ["self"] (defScope s_Frame_twin) := ⟨rfl, rfl, rfl, by decide +kernel, rfl, by decide +kernel, by decide +kernel⟩
theorem sc_Frame_takes_tree : FnScope ["self"] ["self"] (defScope s_Frame_takes_tree) := ⟨rfl, rfl, rfl, by decide +kernel, rfl, by decide +kernel, by decide +kernel⟩
theorem sc_Frame_takes_name : FnScope ["self", "name"] ["self", "name"] (defScope s_Frame_takes_name) := ⟨rfl, rfl, rfl, by decide +kernel, rfl, by decide +kernel, by decide +kernel⟩
theorem sc_Frame_takes_end : FnScope ["self", "kind"] ["self", "kind"] (defScope s_Frame_takes_end) := ⟨rfl, rfl, rfl, by decide +kernel, rfl, by decide +kernel, by decide +kernel⟩
theorem sc_Frame_begin_within : FnScope ["self"] ["self"] (defScope s_Frame_begin_within) := ⟨rfl, rfl, rfl, by decide +kernel, rfl, by decide +kernel, by decide +kernel⟩
theorem sc_Frame_begin_field : FnScope ["self", "name"] ["self", "name"] (defScope s_Frame_begin_field) := ⟨rfl, rfl, rfl, by decide +kernel, rfl, by decide +kernel, by decide +kernel⟩
theorem sc_Frame_way : FnScope ["self"] ["self"] (defScope s_Frame_way) := ⟨rfl, rfl, rfl, by decide +kernel, rfl, by decide +kernel, by decide +kernel⟩
theorem sc_Shape_init : FnScope ["self"] ["self"] (defScope s_Shape_init) := ⟨rfl, rfl, rfl, by decide +kernel, rfl, by decide +kernel, by decide +kernel⟩
theorem sc_Shape_twin : FnScope ["self", "other", "frame"] ["self"] (defScope s_Shape_twin) := ⟨rfl, rfl, rfl, by decide +kernel, rfl, by decide +kernel, by decide +kernel⟩
theorem sc_Shape_is_whole : FnScope ["self"] ["self"] (defScope s_Shape_is_whole) := ⟨rfl, rfl, rfl, by decide +kernel, rfl, by decide +kernel, by decide +kernel⟩
theorem sc_Shape_has_room : FnScope ["self"] ["self"] (defScope s_Shape_has_room) := ⟨rfl, rfl, rfl, by decide +kernel, rfl, by decide +kernel, by decide +kernel⟩
theorem sc_Shape_awaits_name : FnScope ["self"] ["self"] (defScope s_Shape_awaits_name) := ⟨rfl, rfl, rfl, by decide +kernel, rfl, by decide +kernel, by decide +kernel⟩
theorem sc_Shape_awaits_comma : FnScope ["self"] ["self"] (defScope s_Shape_awaits_comma) := ⟨rfl, rfl, rfl, by decide +kernel, rfl, by decide +kernel, by decide +kernel⟩
theorem sc_Shape_can_come : FnScope ["self", "token", "top"] ["self", "token"] (defScope s_Shape_can_come) := ⟨rfl, rfl, rfl, by decide +kernel, rfl, by decide +kernel, by decide +kernel⟩
theorem sc_Shape_come : FnScope ["self", "token"] ["self", "token"] (defScope s_Shape_come) := ⟨rfl, rfl, rfl, by decide +kernel, rfl, by decide +kernel, by decide +kernel⟩
theorem sc_Shape_begin_tree : FnScope ["self", "kind", "place", "frame"] ["self", "kind"] (defScope s_Shape_begin_tree) := ⟨rfl, rfl, rfl, by decide +kernel, rfl, by decide +kernel, by decide +kernel⟩
theorem sc_Stream_init : FnScope ["self", "question"] ["self", "question"] (defScope s_Stream_init) := ⟨rfl, rfl, rfl, by decide +kernel, rfl, by decide +kernel, by decide +kernel⟩
theorem sc_Stream_rehearse : FnScope ["self", "tokens", "trial", "token"] ["self", "tokens"] (defScope s_Stream_rehearse) := ⟨rfl, rfl, rfl, by decide +kernel, rfl, by decide +kernel, by decide +kernel⟩
theorem sc_Stream_hear : FnScope ["self", "token", "place"] ["self", "token"] (defScope s_Stream_hear) := ⟨rfl, rfl, rfl, by decide +kernel, rfl, by decide +kernel, by decide +kernel⟩
theorem sc_Stream_hear_all : FnScope ["self", "tokens", "how_many", "all_told", "token", "told"] ["self", "tokens"] (defScope s_Stream_hear_all) := ⟨rfl, rfl, rfl, by decide +kernel, rfl, by decide +kernel, by decide +kernel⟩
theorem sc_Stream_finish : FnScope ["self"] ["self"] (defScope s_Stream_finish) := ⟨rfl, rfl, rfl, by decide +kernel, rfl, by decide +kernel, by decide +kernel⟩
theorem sc_Stream_room : FnScope ["self", "whole", "halted"] ["self"] (defScope s_Stream_room) := ⟨rfl, rfl, rfl, by decide +kernel, rfl, by decide +kernel, by decide +kernel⟩
theorem sc_next_token : FnScope ["text", "at", "shape", "token", "end"] ["text", "at", "shape"] (defScope s_next_token) := ⟨rfl, rfl, rfl, by decide +kernel, rfl, by decide +kernel, by decide +kernel⟩
theorem sc_tree_tokens : FnScope ["text", "shape", "tokens", "at", "token"] ["text"] (defScope s_tree_tokens) := ⟨rfl, rfl, rfl, by decide +kernel, rfl, by decide +kernel, by decide +kernel⟩
theorem sc_Session_init : FnScope ["self"] ["self"] (defScope s_Session_init) := ⟨rfl, rfl, rfl, by decide +kernel, rfl, by decide +kernel, by decide +kernel⟩
theorem sc_Session_ask : FnScope ["self", "text"] ["self", "text"] (defScope s_Session_ask) := ⟨rfl, rfl, rfl, by decide +kernel, rfl, by decide +kernel, by decide +kernel⟩
theorem sc_Session_hear_token : FnScope ["self", "text", "told"] ["self", "text"] (defScope s_Session_hear_token) := ⟨rfl, rfl, rfl, by decide +kernel, rfl, by decide +kernel, by decide +kernel⟩
theorem sc_Session_hear_tree : FnScope ["self", "text", "tokens"] ["self", "text"] (defScope s_Session_hear_tree) := ⟨rfl, rfl, rfl, by decide +kernel, rfl, by decide +kernel, by decide +kernel⟩
theorem sc_Session_finish : FnScope ["self"] ["self"] (defScope s_Session_finish) := ⟨rfl, rfl, rfl, by decide +kernel, rfl, by decide +kernel, by decide +kernel⟩
theorem sc_Session_begin_again : FnScope ["self", "begun"] ["self"] (defScope s_Session_begin_again) := ⟨rfl, rfl, rfl, by decide +kernel, rfl, by decide +kernel, by decide +kernel⟩
theorem sc_Session_list_tokens : FnScope ["self", "text", "tokens", "listed", "token"] ["self", "text"] (defScope s_Session_list_tokens) := ⟨rfl, rfl, rfl, by decide +kernel, rfl, by decide +kernel, by decide +kernel⟩
theorem sc_Session_answer_tree : FnScope ["self", "text", "tokens", "stream", "told"] ["self", "text"] (defScope s_Session_answer_tree) := ⟨rfl, rfl, rfl, by decide +kernel, rfl, by decide +kernel, by decide +kernel⟩
theorem sc_Session_room : FnScope ["self"] ["self"] (defScope s_Session_room) := ⟨rfl, rfl, rfl, by decide +kernel, rfl, by decide +kernel, by decide +kernel⟩
theorem sc_obey : FnScope ["session", "number", "text"] ["session", "number", "text"] (defScope s_obey) := ⟨rfl, rfl, rfl, by decide +kernel, rfl, by decide +kernel, by decide +kernel⟩
theorem sc_answer_of : FnScope ["session", "number", "text"] ["session", "number", "text"] (defScope s_answer_of) := ⟨rfl, rfl, rfl, by decide +kernel, rfl, by decide +kernel, by decide +kernel⟩
theorem sc_answers : FnScope ["calls", "session", "given", "at", "number", "text", "end"] ["calls"] (defScope s_answers) := ⟨rfl, rfl, rfl, by decide +kernel, rfl, by decide +kernel, by decide +kernel⟩

/-! ### a def's promise, bound -/
structure OkFn (P : Program) (w : World) (K : PySem.W.Frag) (mg : Str → Option Value) (base : Heap) (CX : CXT) (k : Nat) (f : Addr) (n : Nat) (sp : Sp) : Prop where
  ex : ∃ fd ps, FnOk P w K mg base CX k f fd ps sp ∧ Binds K fd ps [] ∧ PySem.W.keepIn K (.ref f) = true ∧ ps.length = n ∧ ∀ (s : Shared) (us : List Value), us.length = ps.length → BindsTo s fd ⟨us, []⟩ (ps.zip us)
section
variable {P : Program} {w : World} {K : PySem.W.Frag} {mg : Str → Option Value} {base : Heap}
theorem OkFn.mono {CX : CXT} {j k : Nat} {f : Addr} {n : Nat} {sp : Sp} (F : OkFn P w K mg base CX j f n sp) (h : j ≤ k) : OkFn P w K mg base CX k f n sp := by
  obtain ⟨fd, ps, F, b, kp, l, a⟩ := F.ex
  exact ⟨fd, ps, F.mono h, b, kp, l, a⟩
theorem OkFn.imp {CX : CXT} {k : Nat} {f : Addr} {n : Nat} {sp sp' : Sp} (F : OkFn P w K mg base CX k f n sp) (h : ∀ vs H Q E, sp' vs H Q E → sp vs H Q E) : OkFn P w K mg base CX k f n sp' := by
  obtain ⟨fd, ps, F, b, kp, l, a⟩ := F.ex
  exact ⟨fd, ps, F.imp h, b, kp, l, a⟩
/-- the binding of a def without defaults -/
abbrev BindN (st : Stmt) (x qual : Str) (ps : List Str) : Prop := ∀ (kV doc pm : Value) (an : Option Addr) (cdv ct : Value) (us : List Value), us.length = ps.length → bindArgs (PySem.W.fnOf x qual (defArgs st) (defBody st) (defScope st) .none kV doc pm an cdv ct) ⟨us, []⟩ = pure (ps.zip us)
theorem mk_fn {CX : CXT} {x qual : Str} {st : Stmt} {f : Addr} {N ps : List Str} {k : Nat} {sp : Sp} (F : ∃ fd, FunD K x qual (defArgs st) (defBody st) (defScope st) [] [] f fd) (S : FnScope N ps (defScope st)) (hb : BindN st x qual ps)
    (len : ∀ vs H Q E, sp vs H Q E → vs.length = ps.length)
    (hbody : ∀ (cdv : Value) (A : Around) (outer : List Env) (s : Shared) (H : Hp) (vs : List V) (Q : VK) (E : XK), Room k (A.deeper (envOfC qual (defScope st) s.heap.objs.size f cdv)) → sp vs H Q E →
      ∃ t, PSs (cxOf CX P w K mg base N qual (defScope st) f cdv A outer s H E) (defBody st) t ∧ t { nx := fun _ H' => Q .non H', rt := Q } (start N vs) H) : OkFn P w K mg base CX (k + 1) f ps.length sp := by
  obtain ⟨fd, F⟩ := F
  exact ⟨fd, ps, F.ok S len hbody, F.bindsN hb, F.kp, rfl, fun s us hl => F.bindsA hb s us hl⟩
end
/-! ### calls by such promises -/
section
variable {X : Cx} {CX : CXT} {k : Nat} {f : Addr} {n : Nat} {sp : Sp} {E : XK} {x : Str} {p apos pos : Pos} {e o : Expr} {es : List Expr} {t : TA} {ta : TE} {C : Addr} {m : Str} {pl : Sem Bool}
theorem c_fn (F : OkFn X.prog X.w X.K X.mg X.base CX k f n sp) (hr : Room k X.A) (hg : Gl X x) (hm : X.mg x = some (.ref f)) (hx : Passes CX X E) (ha : PA X (e :: es) t) (hdb : (x == ("__debug__" : Str)) = false := by decide)
    (he : starEach (e :: es) X.env = (false, eval e X.env) :: starEach es X.env := by rfl) (hpl : (backTo pos (starEach es X.env)).any (·.1) = false := by rfl) : PE X (.Call (.Name x p) (e :: es) [] pos) (tCall sp [] E t) := by
  obtain ⟨fd, ps, F, b, kp, _⟩ := F.ex
  exact pe_call F hr hg hm kp b .nil hx ha hdb he hpl
theorem c_meth (he : PE X o ta) (c : Cls X.K C) (hm : Meth X.K C m f) (F : OkFn X.prog X.w X.K X.mg X.base CX k f n sp) (hr : Room k X.A) (hx : Passes CX X E) (ha : PA X (e :: es) t)
    (hst : starEach (e :: es) X.env = (false, eval e X.env) :: starEach es X.env := by rfl) (hpl : (backTo pos (starEach es X.env)).any (·.1) = false := by rfl)
    (ht : eval (.Call (.Attribute o m apos) (e :: es) [] pos) X.env = (do
      let ov ← eval o X.env
      standAt apos.atName
      let (f, first) ← holding [ov] (getMethod ov m pl)
      callWith pos f first (backTo pos (starEach (e :: es) X.env)) (backToKw pos (keywordEach [] X.env))) := by rfl) :
    PE X (.Call (.Attribute o m apos) (e :: es) [] pos) (tMeth C m sp [] E ta t) := by
  obtain ⟨fd, ps, F, b, kp, _⟩ := F.ex
  exact pe_meth he c hm F hr b .nil hx ha hst hpl ht
theorem c_meth0 (he : PE X o ta) (c : Cls X.K C) (hm : Meth X.K C m f) (F : OkFn X.prog X.w X.K X.mg X.base CX k f n sp) (hr : Room k X.A) (hx : Passes CX X E)
    (ht : eval (.Call (.Attribute o m apos) [] [] pos) X.env = (do
      let ov ← eval o X.env
      standAt apos.atName
      let (f, first) ← holding [ov] (getMethod ov m pl)
      callWith pos f first (backTo pos (starEach [] X.env)) (backToKw pos (keywordEach [] X.env))) := by rfl) :
    PE X (.Call (.Attribute o m apos) [] [] pos) (tMeth C m sp [] E ta tNil) := by
  obtain ⟨fd, ps, F, b, kp, _⟩ := F.ex
  exact pe_meth0 he c hm F hr b .nil hx ht
theorem c_make (M : Mk X.K C f) (F : OkFn X.prog X.w X.K X.mg X.base CX k f n sp) (hr : Room (k + 1) X.A) (hg : Gl X x) (hm : X.mg x = some (.ref C)) (hx : Passes CX X E) (ha : PA X (e :: es) t) (hdb : (x == ("__debug__" : Str)) = false := by decide)
    (he : starEach (e :: es) X.env = (false, eval e X.env) :: starEach es X.env := by rfl) (hpl : (backTo pos (starEach es X.env)).any (·.1) = false := by rfl) : PE X (.Call (.Name x p) (e :: es) [] pos) (tMake C sp [] E t) := by
  obtain ⟨fd, ps, F, b, kp, _⟩ := F.ex
  exact pe_make M F hr hg hm b .nil hx ha hdb he hpl
theorem c_make0 (M : Mk X.K C f) (F : OkFn X.prog X.w X.K X.mg X.base CX k f n sp) (hr : Room (k + 1) X.A) (hg : Gl X x) (hm : X.mg x = some (.ref C)) (hx : Passes CX X E) (hdb : (x == ("__debug__" : Str)) = false := by decide) :
    PE X (.Call (.Name x p) [] [] pos) (tMake C sp [] E tNil) := by
  obtain ⟨fd, ps, F, b, kp, _⟩ := F.ex
  exact pe_make0 M F hr hg hm b .nil hx hdb
end
/-- a while by an invariant that holds its measure -/
theorem while_n {c : TT} {tb : TS} {D : Ends} {σ : L2.St} {H : Hp} (Pv : Nat → L2.St → Hp → Prop) (m0 : Nat) (h0 : Pv m0 σ H)
    (hs : ∀ m σ H, Pv m σ H → c σ H fun b H1 => if b = true then tb { D with nx := fun σ' H' => ∃ m', m' < m ∧ Pv m' σ' H', ct := fun σ' H' => ∃ m', m' < m ∧ Pv m' σ' H', bk := D.nx } σ H1 else D.nx σ H1)
    (mono : ∀ σ H Q Q', (∀ b H1, Q b H1 → Q' b H1) → c σ H Q → c σ H Q') : tWhile c tb D σ H := by
  refine ⟨Pv, ⟨m0, h0⟩, fun m σ H p => mono σ H _ _ (fun b H1 q => ?_) (hs m σ H p)⟩
  cases b with
  | true => exact ⟨_, fun σ' H' z => z, q⟩
  | false => exact q
/-- a name of the module that stands for a number -/
theorem pe_num {X : Cx} {x : Str} {i : Int} {p : Pos} (hg : Gl X x) (h : ∃ t, X.mg x = some (.int i t)) (hd : (x == ("__debug__" : Str)) = false := by decide) : PE X (.Name x p) (tC (.int i)) := by
  obtain ⟨t, h⟩ := h
  exact pe_glob hg h ⟨t, rfl⟩ hd
end TS
end
section
set_option Elab.async false
set_option linter.all false
set_option maxRecDepth 100000
set_option maxHeartbeats 0
namespace TS
open PySem PySem.Spec PyProof.Rows L2
/-- the part of the heap that is read: the module's names, its defs and classes, their names, their defs, the code of all defs -/
def refsN (g : Addr → Option Obj) (a : Addr) : List Addr := match g a with
  | some ⟨_, _, .dict es _, _⟩ => es.toList.flatMap fun e => He.refV e.val
  | _ => []
def nsOf (g : Addr → Option Obj) (a : Addr) : List Addr := match g a with
  | some ⟨_, _, .cls cd, _⟩ => [cd.ns]
  | _ => []
def codeOf (g : Addr → Option Obj) (a : Addr) : List Addr := match g a with
  | some ⟨_, _, .func fd, _⟩ => He.refV fd.code
  | _ => []
def frL {α β : Type} : List α → (List α → β) → β
  | [], k => k []
  | a :: r, k => frL r fun r' => k (a :: r')
theorem frL_eq {α β : Type} : ∀ (l : List α) (k : List α → β), frL l k = k l
  | [], _ => rfl
  | a :: r, k => frL_eq r fun r' => k (a :: r')
def frP {β : Type} : List (Addr × Obj) → (List (Addr × Obj) → β) → β
  | [], k => k []
  | (a, ⟨c, d, dt, sl⟩) :: r, k => frP r fun r' => HandSHeadRun.frNat a fun a' => k ((a', ⟨c, d, dt, sl⟩) :: r')
theorem frP_eq {β : Type} : ∀ (l : List (Addr × Obj)) (k : List (Addr × Obj) → β), frP l k = k l
  | [], _ => rfl
  | (a, ⟨c, d, dt, sl⟩) :: r, k => by
    show frP r (fun r' => HandSHeadRun.frNat a fun a' => k ((a', ⟨c, d, dt, sl⟩) :: r')) = _
    rw [frP_eq r, HandSHeadRun.frNat_eq]
def asM (g : Addr → Option Obj) : List Addr :=
  frL (refsN g mainGlobals) fun gl => frL (gl.flatMap (nsOf g)) fun ns => frL (ns.flatMap (refsN g)) fun ms => frL ((gl ++ ms).flatMap (codeOf g)) fun cs => mainGlobals :: (gl ++ (ns ++ (ms ++ cs)))
def kM (g : Addr → Option Obj) : PySem.W.Frag := He.frG g (asM g)
def obsM (g : Addr → Option Obj) : He.AlD × Bool := frP (kM g) fun K => (He.obsD fa fn K, xtra K)
def hk : PySem.W.Hook where
  α := He.AlD × Bool
  obs := fun s => obsM s.heap.get?
  val := fun _ => (He.valD fn, true)
  says := fun _ h => ∃ K : PySem.W.Frag, K.In h ∧ He.SaysD fa fn K ∧ xtra K = true
  of := fun _ _ e => ⟨_, He.frG_in, by
    have e2 := (frP_eq _ _).symm.trans e
    exact (Prod.mk.inj e2).1, by
    have e2 := (frP_eq _ _).symm.trans e
    exact (Prod.mk.inj e2).2⟩
  keeps := fun _ _ _ ⟨K, hK, c⟩ k => ⟨K, PySem.W.Frag.In.keeps hK k, c⟩
def ob (s : PySem.W.SharedT) : He.AlD × Bool := obsM (HandSHeadRun.getT s)
theorem ob_eq (s : PySem.W.SharedT) : ob s = hk.obs s.abs := by
  have e : HandSHeadRun.getT s = s.abs.heap.get? := funext (HandSHeadRun.getT_eq s)
  show obsM (HandSHeadRun.getT s) = obsM s.abs.heap.get?
  rw [e]
def loose0 : List PySem.Str := ["NUMBER_RANK", "TEXT_RANK", "LIST_RANK", "RECORD_RANK", "BIGGEST", "LONGEST_NAME", "LONGEST_TEXT", "MARK", "MINUS", "BACKSLASH", "LEAF", "LIST", "RECORD", "NAME", "LIST_END", "RECORD_END", "COLON", "NO_FAULT", "NO_RECORD", "NO_LIST", "ONLY_LEAF", "MOST_NODES", "HIGHEST_ITEM", "MOST_FIRST", "TELL", "COUNT", "SUM", "AT_STEPS", "BEHIND_DEEP", "BEHIND_WHERE"]
def loose1 : List PySem.Str := ["RESULT", "FAULT", "END_RESULTS", "END_NUMBER", "END_FAULT", "NO_NUMBER", "SUM_TOO_FAR", "MOST_ENTRIES", "DEEPEST", "MOST_ITEMS", "MOST_FIELDS", "NOTHING_TOLD", "QUESTION", "TOKEN", "FEED", "FINISH", "AGAIN", "TOKENS", "ANSWERS", "ROOM", "WrongText", "CannotCome", "UnknownCall", "Token", "SameAs", "BeforeLeaf", "BehindLeaf", "Negation", "BothOf", "EitherOf"]
def loose2 : List PySem.Str := ["FieldStep", "ItemsStep", "EachStep", "Question", "QuestionReader", "Search", "Frame", "Shape", "Stream", "Session", "codes", "byte_at", "starts", "behind", "counted", "is_small_letter", "is_digit", "is_sign", "read_name", "read_number", "read_marked", "read_leaf", "read_name_token", "read_head", "sees_end", "read_end", "token_of", "question_of", "place_text", "next_token"]
def loose3 : List PySem.Str := ["tree_tokens", "obey", "answer_of"]
def loose : List PySem.Str := loose0 ++ (loose1 ++ (loose2 ++ (loose3)))
/-- the top's run, looked at twice: what is seen of the names and classes; what the hook looks at -/
theorem both_of {A B C D : Type} {o : Option A} {f : A → B} {g : A → C} {h : A → D} {a : B} {b : C} {c : D} (h1 : o.map (fun s => (f s, g s)) = some (a, b)) (h2 : o.map h = some c) : o.map (fun s => (f s, g s, h s)) = some (a, b, c) := by
  cases o with
  | none => cases h2
  | some s =>
    have e1 := Option.some.inj h1
    have e2 := Option.some.inj h2
    show some (f s, g s, h s) = _
    rw [(Prod.mk.inj e1).1, (Prod.mk.inj e1).2, show h s = c from e2]
theorem run_seen (w : World) (os : OsState) : Option.map (fun s => (HandSHeadRun.looksF PySem.Challenge.rw_treestream_s01_answers.prog (PySem.W.boot_heap w.params) s.abs, HandSHeadRun.seenQ (PySem.W.view PySem.Challenge.rw_treestream_s01_answers.prog [106]) loose (PySem.importedModules PySem.Challenge.rw_treestream_s01_answers.prog.main.body) (fun s => PySem.W.xlAt (PySem.W.view PySem.Challenge.rw_treestream_s01_answers.prog [106]) [] s && PySem.W.recOk [] s) s.abs)) (HandSHeadRun.endF (HandSHeadRun.stepQ (HandSHeadRun.denQ HandSHeadRun.tabQ) PySem.Challenge.rw_treestream_s01_answers.prog w) 9000 PySem.Challenge.rw_treestream_s01_answers.prog w os) = some (true, PySem.W.openGood (PySem.W.view PySem.Challenge.rw_treestream_s01_answers.prog [106]) loose) := by kernel_rfl
theorem run_hook (w : World) (os : OsState) : Option.map (fun s => ob s) (HandSHeadRun.endF (HandSHeadRun.stepQ (HandSHeadRun.denQ HandSHeadRun.tabQ) PySem.Challenge.rw_treestream_s01_answers.prog w) 9000 PySem.Challenge.rw_treestream_s01_answers.prog w os) = some (hk.val w) := by kernel_rfl
theorem run (w : World) : HandSHeadRun.RunEqS PySem.Challenge.rw_treestream_s01_answers (PySem.W.view PySem.Challenge.rw_treestream_s01_answers.prog [106]) hk ob 9000 loose w := by
  intro os
  exact both_of (run_seen w os) (run_hook w os)
end TS
end
section
set_option Elab.async false
set_option linter.all false
set_option maxRecDepth 100000
set_option maxHeartbeats 8000000
namespace TS
open PySem PySem.Spec PyProof.Rows L2
theorem shapes_of (as : List PySem.W.WData) (h : PySem.Challenge.rw_treestream_s01_answers.pre as = true) : PySem.W.WShape.hasAll [] as (List.map PySem.W.Codec.shape PySem.Challenge.rw_treestream_s01_answers.args) = true := by
  exact PySem.W.OpenSpec.pre_hasAll (r := PySem.Challenge.rw_treestream_s01_answers) (by decide +kernel) h
end TS
open PySem PySem.W PyProof.Rows
/-- the top is run, the request's case is left -/
theorem TS.frame (hc : PySem.W.WalkOS (PySem.W.view PySem.Challenge.rw_treestream_s01_answers.prog [106]) TS.loose (PySem.W.XL (PySem.W.view PySem.Challenge.rw_treestream_s01_answers.prog [106]) []) TS.hk.says PySem.Challenge.rw_treestream_s01_answers (HandSHeadRun.topDef PySem.Challenge.rw_treestream_s01_answers.prog 106) [] fun f vs => PySem.call f vs) : PySem.Challenge.rw_treestream_s01_answers.Holds := by
  w_on
  refine HandSHeadRun.head_spec (r := PySem.Challenge.rw_treestream_s01_answers) (q := PySem.W.view PySem.Challenge.rw_treestream_s01_answers.prog [106]) (H := TS.hk) (ob := TS.ob) (M := 9000) (loose := TS.loose)
    (d := HandSHeadRun.topDef PySem.Challenge.rw_treestream_s01_answers.prog 106) (kwd := []) TS.ob_eq (by kernel_rfl) (fun s => by kernel_rfl) TS.run (by kernel_rfl) (by kernel_rfl) (by kernel_rfl) ?hs (by decide +kernel) (by decide +kernel) ⟨rfl, rfl, rfl, rfl, rfl, by decide +kernel⟩ ?hw hc
  case hs => exact fun as h => TS.shapes_of as h
  case hw => exact ⟨[.list [.int 7]], by decide +kernel, by decide +kernel⟩
theorem TS.h_ws : PySem.Challenge.rw_treestream_s01_answers.wellSaid = true := by decide +kernel
theorem TS.h_df : (HandSHeadRun.topDef PySem.Challenge.rw_treestream_s01_answers.prog 106).params.defaults = [] := by kernel_rfl
theorem TS.h_nm : (HandSHeadRun.topDef (PySem.Challenge.rw_treestream_s01_answers).prog 106).name = ("answers" : PySem.Str) := by kernel_rfl
theorem TS.h_ln : PySem.Challenge.rw_treestream_s01_answers.args.length = 1 := rfl
end
section
set_option Elab.async false
set_option linter.all false
set_option maxRecDepth 100000
set_option maxHeartbeats 4000000
namespace TS
open PySem PySem.Spec PyProof.Rows L2
open Vapaqa (Text Name Tree)
/-! ### texts in the heap -/
def bs (t : Text) : List V := t.map fun b => V.int (b.toNat : Int)
def TextAt (H : Hp) (a : Addr) (t : Text) : Prop := H a = some (.lst (bs t))
/-- a written text is such bytes -/
def IsW (x : Str) (w : Text) : Prop := x.cps.toList = w.map (·.toNat)
def byteAt (t : Text) : Int := match t with
  | b :: _ => (b.toNat : Int)
  | [] => -1
def CW (K : PySem.W.Frag) : Value := .ref (He.ga K "WrongText")
def CN (K : PySem.W.Frag) : Value := .ref (He.ga K "CannotCome")
theorem bs_length (t : Text) : (bs t).length = t.length := by simp [bs]
theorem bs_get {t : Text} {i : Nat} : (bs t)[i]? = (t[i]?).map fun b => V.int (b.toNat : Int) := by simp [bs]
theorem if_pos_of {c : Bool} {A B : Prop} (hc : c = true) (h : A) : if c = true then A else B := by
  rw [if_pos hc]
  exact h
theorem if_neg_of {c : Bool} {A B : Prop} (hc : c = false) (h : B) : if c = true then A else B := by
  rw [hc, if_neg Bool.false_ne_true]
  exact h
/-! ### promises -/
def spCodes : Sp := fun vs H Q _ => ∃ x : Str, vs = [.str x] ∧ x.cps.size ≤ 4000 ∧ ∀ H' p, Same H H' → H p = none → H' p = some (.lst (x.cps.toList.map fun c => V.int (c : Nat))) → Q (.ref p) H'
def spByteAt (K : PySem.W.Frag) : Sp := fun vs H Q _ => ∃ (a : Addr) (t : Text) (i : Nat), vs = [.ref a, .int i] ∧ TextAt H a t ∧ Q (.int (byteAt (t.drop i))) H
def spStarts : Sp := fun vs H Q _ => ∃ (a : Addr) (t : Text) (i : Nat) (x : Str) (w : Text), vs = [.ref a, .int i, .str x] ∧ TextAt H a t ∧ IsW x w ∧ w.length ≤ 1000 ∧ i ≤ t.length ∧ ∀ H', Same H H' → Q (.bl (w.isPrefixOf (t.drop i))) H'
section
variable {P : Program} {w : World} {K : PySem.W.Frag} {mg : Str → Option Value} {base : Heap}
theorem getElem_str {x : Str} {i : Nat} {c : Nat} (h : x.cps[i]? = some c) : x.cps.toList[i]? = some c := by simpa using h
theorem ok_codes (T : Facts K mg) : OkFn P w K mg base CX0 1 (He.ga K "codes") 1 spCodes := by
  refine mk_fn T.d_codes sc_codes (fun _ _ _ _ _ _ us hl => match us, hl with | [_], _ => rfl) (fun vs H Q E h => ?_) (fun cdv A outer s H vs Q E hr h => ?_)
  · obtain ⟨x, rfl, _⟩ := h
    rfl
  · obtain ⟨x, rfl, hz, q⟩ := h
    refine ⟨_, PSs.nox (pss_one (ps_ret (pe_lc (own := [("sign", 1)]) (g := gName 1) (tt := tYes) rfl sc_codes.nd (pi_str (pv 0)) (blkOk_by (N := ["word", "sign"]) (sc := defScope s_codes) (by decide +kernel)) (fun _ _ _ _ _ => pg_name (i := 1) sc_codes.nd rfl (Or.inl rfl)) (fun _ _ _ _ _ => pts_nil)
      (fun _ _ _ _ _ => pe_callB call_ord (by rfl) T.f_ord (by decide +kernel) (pa_cons (pv 1) pa_nil))))), ?_⟩
    refine ⟨_, rfl, x, rfl, fun D hD => lc_it (walk_str (z := x)) (fun i H1 => i ≤ x.cps.size ∧ Same H H1 ∧ H1 D = some (.lst ((x.cps.toList.take i).map fun c => V.int (c : Nat)))) ⟨Nat.zero_le _, fun b o e => by rw [upd_ne (ne_of_none e hD)]; exact e, upd_same⟩ (fun _ _ _ _ => trivial) ?_ ?_⟩
    · rintro i v H1 H2 hi ⟨_, s1, h1⟩ ⟨rfl, c, hc, rfl⟩
      refine ⟨rfl, ?_⟩
      refine ⟨_, rfl, _, rfl, rfl, ?_⟩
      refine ⟨_, h1, ?_, hi, fun b o e => ?_, ?_⟩
      · have : x.cps.toList.length = x.cps.size := by simp
        simp only [List.length_map, List.length_take]
        rw [sizeLine_eq]
        omega
      · rw [upd_ne (ne_of_none e hD)]
        exact s1 b o e
      · rw [upd_same, List.take_add_one, getElem_str hc, List.map_append]
        rfl
    · rintro H1 ⟨_, s1, h1⟩
      refine q H1 D s1 hD ?_
      have : x.cps.toList.take x.cps.size = x.cps.toList := by rw [List.take_of_length_le]; simp
      rw [h1, this]
end
/-! ### raising -/
theorem exb_ok {K : PySem.W.Frag} {x : Str} (c : exB K x = true) : PySem.W.excIn K (He.ga K x) [.type "Exception", .type "BaseException", .type "object"] "Exception.__new__" = true ∧ PySem.W.keepIn K (.ref (He.ga K x)) = true ∧
    PySem.W.subIn K (.ref (He.ga K x)) (.type "BaseException") = some true ∧ PySem.W.typeIn K (.ref (He.ga K x)) = some (.type "type") := by
  obtain ⟨c1, c⟩ := He.ba c
  obtain ⟨c2, c⟩ := He.ba c
  obtain ⟨c3, c4⟩ := He.ba c
  exact ⟨c1, c2, of_decide_eq_true c3, of_decide_eq_true c4⟩
section
variable {X : Cx} {C : Addr} {bmB : List Value} {B newId initId : String} {W : WX}
/-- an own class without __init__, called without arguments -/
theorem pmk_bare {x : Str} {p pos : Pos} (F : ExcBaseFacts B newId initId bmB) (q : PySem.W.excIn X.K C bmB newId = true) (gC : X.mg x = some (.ref C)) (kC : PySem.W.keepIn X.K (.ref C) = true) (r : Raises X (.ref C)) (hg : Gl X x)
    (hdb : (x == ("__debug__" : Str)) = false := by decide) : PMk X (.Call (.Name x p) [] [] pos) (fun _ H Q => Q (.ref C) none H) := by
  intro pins s σ H Q I h
  refine wpAny_Call_Name_kw (ld_glob I hg gC ?_ hdb)
  refine PySem.W.callWith_K0 I.kIn kC ?_
  obtain ⟨bm, N, nm, qn, bs, hdct, sn, sub, ab, col, dd, k0, k1, k2, k3, k5, mN, hC, hN, hni, T⟩ := exc_obj I.kIn q
  refine wpAny_call_exc_subT F T hC hN hni (fun h' e hm => ?_) (by show 0 ≤ sizeLine; exact Nat.zero_le _)
  exact mk_of I hm r h (I.hok.gone hm.new)
theorem rz_W {p p2 pos : Pos} (T : Facts X.K X.mg) (hg : Gl X "WrongText") (hc : X.calm = true) (tk : Takes X W) : PS X (.Raise (some (.Call (.Name "WrongText" p) [] [] p2)) none pos) (fun _ σ H => W (CW X.K) none σ H) := by
  obtain ⟨c1, c2, c3, c4⟩ := exb_ok (He.ba T.xt).1
  exact ps_raise hc tk (pmk_bare PySem.F.excBase_Exception c1 T.g_WrongText c2 (raises_own c3 c4) hg)
theorem rz_N {p p2 pos : Pos} (T : Facts X.K X.mg) (hg : Gl X "CannotCome") (hc : X.calm = true) (tk : Takes X W) : PS X (.Raise (some (.Call (.Name "CannotCome" p) [] [] p2)) none pos) (fun _ σ H => W (CN X.K) none σ H) := by
  obtain ⟨c1, c2, c3, c4⟩ := exb_ok (He.ba (He.ba T.xt).2).1
  exact ps_raise hc tk (pmk_bare PySem.F.excBase_Exception c1 T.g_CannotCome c2 (raises_own c3 c4) hg)
/-- a call that may raise, in a def that may raise the same -/
theorem pX {E : XK} (tk : Takes X (fun cls d _ H => E cls d H)) : Passes (L2.CX X.prog X.w) X E := passes_call tk fun _ _ _ _ h => h
end
/-! ### texts compared -/
def dB (t : Text) : List PyData := t.map fun b => PyData.int (b.toNat : Int)
theorem dp_bs {K : PySem.W.Frag} {H : Hp} : ∀ t : Text, DpAll K H (bs t) (dB t)
  | [] => .nil
  | b :: t => .cons (.int _) (dp_bs t)
theorem canLay_dB : ∀ t : Text, PyData.canLayAll0 (dB t) = true
  | [] => by unfold dB PyData.canLayAll0; rfl
  | b :: t => by
    show PyData.canLayAll0 (PyData.int _ :: dB t) = true
    rw [PyData.canLayAll0, canLay_dB t]
    simp [PyData.canLay0]
theorem depth_dB : ∀ t : Text, PyData.depthAll (dB t) ≤ 1
  | [] => by unfold dB; simp [PyData.depthAll]
  | b :: t => by
    show PyData.depthAll (PyData.int _ :: dB t) ≤ 1
    have := depth_dB t
    rw [PyData.depthAll]
    simp [PyData.depth]
    omega
theorem shaped_dB (t : Text) : SeqAt.shaped (.list (dB t)) = true := by
  have h1 := canLay_dB t
  have h2 := depth_dB t
  unfold SeqAt.shaped
  rw [PyData.canLay0, h1]
  simp [PyData.depth]
  omega
theorem toNat_int_inj {a b : UInt8} : ((a.toNat : Int) == (b.toNat : Int)) = decide (a = b) := by
  by_cases h : a = b
  · simp [h]
  · have : a.toNat ≠ b.toNat := fun z => h (UInt8.toNat_inj.mp z)
    simp [h]
    omega
theorem eqvAll_dB : ∀ t u : Text, PyData.eqvAll (dB t) (dB u) = decide (t = u)
  | [], [] => by simp [dB, PyData.eqvAll]
  | [], _ :: _ => by simp [dB, PyData.eqvAll]
  | _ :: _, [] => by simp [dB, PyData.eqvAll]
  | a :: t, b :: u => by
    have ih := eqvAll_dB t u
    show PyData.eqvAll (PyData.int _ :: dB t) (PyData.int _ :: dB u) = _
    rw [PyData.eqvAll, ih, PyData.eqv, toNat_int_inj]
    by_cases h1 : a = b <;> by_cases h2 : t = u <;> simp [h1, h2]
theorem take_drop_prefix (w r : Text) : decide ((r.take w.length) = w) = w.isPrefixOf r := by
  cases h : w.isPrefixOf r with
  | true =>
    obtain ⟨s, rfl⟩ := List.isPrefixOf_iff_prefix.mp h
    simp
  | false =>
    have : ¬ r.take w.length = w := fun z => by
      have : w.isPrefixOf r = true := List.isPrefixOf_iff_prefix.mpr ⟨r.drop w.length, by
        conv => lhs; lhs; rw [← z]
        exact List.take_append_drop ..⟩
      rw [h] at this
      cases this
    simp [this]
theorem cutV_bs (t : Text) (i j : Nat) (hi : i ≤ t.length) (hj : j ≤ t.length) : cutV (bs t) (some (i : Int)) (some (j : Int)) = bs ((t.drop i).take (j - i)) := by
  unfold cutV
  rw [HT.sIx_nat, HT.sIx_nat, bs_length, Nat.min_eq_left hi, Nat.min_eq_left hj]
  simp [bs, List.map_take, List.map_drop]
/-- a slice whose end may lie behind the text's -/
theorem cutV_bs' (t : Text) (i n : Nat) (hi : i ≤ t.length) : cutV (bs t) (some (i : Int)) (some ((i + n : Nat) : Int)) = bs ((t.drop i).take n) := by
  unfold cutV
  rw [HT.sIx_nat, HT.sIx_nat, bs_length, Nat.min_eq_left hi]
  have : (bs t).drop i = bs (t.drop i) := by simp [bs, List.map_drop]
  rw [this]
  have e2 : (bs (t.drop i)).length = t.length - i := by rw [bs_length, List.length_drop]
  by_cases h : i + n ≤ t.length
  · rw [Nat.min_eq_left h, Nat.add_sub_cancel_left]
    simp [bs, List.map_take]
  · rw [Nat.min_eq_right (by omega), List.take_of_length_le (by omega)]
    rw [List.take_of_length_le (l := t.drop i) (by rw [List.length_drop]; omega)]
theorem upd_same_of {H : Hp} {p : Addr} {o : HO} (hp : H p = none) : Same H (upd H p o) := fun b u e => by
  rw [upd_ne (ne_of_none e hp)]
  exact e
def spBehind (K : PySem.W.Frag) : Sp := fun vs H Q E => ∃ (a : Addr) (t : Text) (i : Nat) (x : Str) (w : Text), vs = [.ref a, .int i, .str x] ∧ TextAt H a t ∧ IsW x w ∧ w.length ≤ 1000 ∧ i ≤ t.length ∧
  (∀ r, Vapaqa.off w (t.drop i) = some r → ∀ H', Same H H' → Q (.int (i + w.length : Nat)) H') ∧ (Vapaqa.off w (t.drop i) = none → ∀ H', Same H H' → E (CW K) none H')
def spCounted : Sp := fun vs H Q _ => ∃ (a : Addr) (xs : List V), vs = [.ref a] ∧ H a = some (.lst xs) ∧ xs.length < sizeLine ∧ ∀ H' p, Same H H' → H p = none → H' p = some (.lst (.int xs.length :: xs)) → Q (.ref p) H'
section
variable {P : Program} {w : World} {K : PySem.W.Frag} {mg : Str → Option Value} {base : Heap}
theorem ok_byte_at (T : Facts K mg) : OkFn P w K mg base CX0 1 (He.ga K "byte_at") 2 (spByteAt K) := by
  refine mk_fn T.d_byte_at sc_byte_at (fun _ _ _ _ _ _ us hl => match us, hl with | [_, _], _ => rfl) (fun vs H Q E h => ?_) (fun cdv A outer s H vs Q E hr h => ?_)
  · obtain ⟨a, t, i, rfl, _⟩ := h
    rfl
  · obtain ⟨a, t, i, rfl, ha, q⟩ := h
    refine ⟨_, PSs.nox (pss_cons (ps_if (pt_cmpR op_lt (pv 1) (pe_callB call_len_seq (by rfl) T.f_len boot_len (pa_cons (pv 0) pa_nil)) (nomark _)) (pss_one (ps_ret (pe_ix ix_list (pv 0) (pv 1) (fun _ _ => rfl)))) pss_nil)
      (pss_one (ps_ret (pe_un un_neg pe_int)))), ?_⟩
    refine ⟨_, rfl, _, rfl, a, bs t, rfl, .inl (SqL.of ha), _, _, rfl, rfl, _, rfl, ?_⟩
    rw [bs_length]
    by_cases h : i < t.length
    · refine if_pos_of (by simp [h]) ⟨_, rfl, _, rfl, a, bs t, _, V.int (t[i].toNat : Int), rfl, rfl, SqL.of ha, atI_nat ?_, ?_⟩
      · rw [bs_get, List.getElem?_eq_getElem h]
        rfl
      · have : byteAt (t.drop i) = (t[i].toNat : Int) := by rw [List.drop_eq_getElem_cons h]; rfl
        rw [← this]
        exact q
    · refine if_neg_of (by simp; omega) ⟨_, rfl, ?_⟩
      have : byteAt (t.drop i) = -1 := by rw [List.drop_eq_nil_of_le (by omega)]; rfl
      rw [this] at q
      exact q
end
end TS
end
section
set_option Elab.async false
set_option linter.all false
set_option maxRecDepth 100000
set_option maxHeartbeats 4000000
namespace TS
open PySem PySem.Spec PyProof.Rows L2
open Vapaqa (Text Name Tree off)
local macro_rules | `(tactic| walk_at "v") => `(tactic| repeat (first | refine ⟨_, rfl, ?_⟩ | refine ⟨_, _, rfl, rfl, ?_⟩))
def spB (g : Int → Bool) : Sp := fun vs H Q _ => ∃ i : Int, vs = [.int i] ∧ Q (.bl (g i)) H
def smallI (i : Int) : Bool := decide (97 ≤ i) && decide (i ≤ 122)
def digitI (i : Int) : Bool := decide (48 ≤ i) && decide (i ≤ 57)
def signI (i : Int) : Bool := decide (32 ≤ i) && decide (i ≤ 126)
theorem isW_size {x : Str} {w : Text} (h : IsW x w) : x.cps.size = w.length := by
  have := congrArg List.length h
  simpa using this
theorem isW_codes {x : Str} {w : Text} (h : IsW x w) : (x.cps.toList.map fun c => V.int (c : Nat)) = bs w := by
  rw [h]
  simp [bs]
section
variable {P : Program} {w : World} {K : PySem.W.Frag} {mg : Str → Option Value} {base : Heap}
theorem ok_starts (T : Facts K mg) : OkFn P w K mg base CX0 2 (He.ga K "starts") 3 spStarts := by
  refine mk_fn T.d_starts sc_starts (fun _ _ _ _ _ _ us hl => match us, hl with | [_, _, _], _ => rfl) (fun vs H Q E h => ?_) (fun cdv A outer s H vs Q E hr h => ?_)
  · obtain ⟨a, t, i, x, wd, rfl, _⟩ := h
    rfl
  · obtain ⟨a, t, i, x, wd, rfl, ha, hw, hlen, hi, q⟩ := h
    refine ⟨_, PSs.nox (pss_one (ps_ret (pe_cmpR (op_eqD hr.units) (pe_slice sl_list (pv 0) (po_some (pv 1)) (po_some (pe_op op_add (pv 1) (pe_callB call_len_str (by rfl) T.f_len boot_len (pa_cons (pv 2) pa_nil)))))
      (c_fn (ok_codes T) hr rfl T.g_codes pass0 (pa_cons (pv 2) pa_nil)) (nomark _)))), ?_⟩
    have hsz := isW_size hw
    have hz : x.length ≤ sizeLine := by show x.cps.size ≤ sizeLine; rw [hsz, sizeLine_eq]; omega
    walk_at "v"
    refine ⟨hz, ?_⟩
    walk_at "v"
    refine ⟨a, bs t, rfl, SqL.of ha, fun p hp => ?_⟩
    have e1 : cutV (bs t) (some (i : Int)) (some ((i : Int) + (x.length : Int))) = bs ((t.drop i).take wd.length) := by
      have := cutV_bs' t i x.length hi
      rw [show x.length = wd.length from hsz] at this ⊢
      rw [← this]
      rfl
    rw [e1]
    walk_at "v"
    refine ⟨by rw [hsz]; omega, fun H' p' s1 hp' h' => ?_⟩
    rw [isW_codes hw] at h'
    refine ⟨.list (dB ((t.drop i).take wd.length)), .list (dB wd), .lst (SqL.of (s1 _ _ upd_same)) (dp_bs _), .lst (SqL.of h') (dp_bs _), shaped_dB _, shaped_dB _, ?_⟩
    rw [PyData.eqv, eqvAll_dB, take_drop_prefix]
    exact q H' ((upd_same_of hp).trans s1)
theorem ok_behind (T : Facts K mg) : OkFn P w K mg base (L2.CX P w) 3 (He.ga K "behind") 3 (spBehind K) := by
  refine mk_fn T.d_behind sc_behind (fun _ _ _ _ _ _ us hl => match us, hl with | [_, _, _], _ => rfl) (fun vs H Q E h => ?_) (fun cdv A outer s H vs Q E hr h => ?_)
  · obtain ⟨a, t, i, x, wd, rfl, _⟩ := h
    rfl
  · obtain ⟨a, t, i, x, wd, rfl, ha, hw, hlen, hi, q1, q2⟩ := h
    refine ⟨_, pss_cons (ps_if (pt_not (pt_val (c_fn (ok_starts T) hr rfl T.g_starts pass0 (pa_cons (pv 0) (pa_cons (pv 1) (pa_cons (pv 2) pa_nil)))))) (pss_one (rz_W T rfl rfl (takes_of rfl rfl rfl rfl))) pss_nil)
      (pss_one (ps_ret (pe_op op_add (pv 1) (pe_callB call_len_str (by rfl) T.f_len boot_len (pa_cons (pv 2) pa_nil))))), ?_⟩
    have hsz := isW_size hw
    have hz : x.length ≤ sizeLine := by show x.cps.size ≤ sizeLine; rw [hsz, sizeLine_eq]; omega
    refine ⟨_, rfl, _, rfl, _, rfl, a, t, i, x, wd, rfl, ha, hw, hlen, hi, fun H' s1 => ⟨_, rfl, ?_⟩⟩
    cases hp : wd.isPrefixOf (t.drop i) with
    | false =>
      refine q2 ?_ H' s1
      unfold off
      rw [if_neg (by rw [hp]; exact Bool.false_ne_true)]
    | true =>
      walk_at "v"
      refine ⟨hz, ?_⟩
      walk_at "v"
      have e : ((i : Int) + (x.length : Int)) = ((i + wd.length : Nat) : Int) := by
        rw [show x.length = wd.length from hsz]
        omega
      show Q (.int ((i : Int) + (x.length : Int))) H'
      rw [e]
      refine q1 ((t.drop i).drop wd.length) ?_ H' s1
      unfold off
      rw [if_pos hp]
theorem ok_counted (T : Facts K mg) : OkFn P w K mg base CX0 1 (He.ga K "counted") 1 spCounted := by
  refine mk_fn T.d_counted sc_counted (fun _ _ _ _ _ _ us hl => match us, hl with | [_], _ => rfl) (fun vs H Q E h => ?_) (fun cdv A outer s H vs Q E hr h => ?_)
  · obtain ⟨a, xs, rfl, _⟩ := h
    rfl
  · obtain ⟨a, xs, rfl, ha, hz, q⟩ := h
    refine ⟨_, PSs.nox (pss_one (ps_ret (pe_op op_cat (pe_lst (pa_cons (pe_callB call_len_seq (by rfl) T.f_len boot_len (pa_cons (pv 0) pa_nil)) pa_nil)) (pv 0)))), ?_⟩
    refine ⟨_, rfl, a, xs, rfl, .inl (SqL.of ha), by show 1 ≤ sizeLine; decide, fun p hp => ?_⟩
    refine ⟨_, rfl, p, a, _, xs, rfl, rfl, upd_same, upd_same_of hp _ _ ha, by show 1 + xs.length ≤ sizeLine; omega, fun p2 hp2 => ?_⟩
    have s1 := upd_same_of (o := HO.lst [V.int (xs.length : Int)]) hp
    exact q _ p2 (s1.trans (upd_same_of hp2)) (s1.free hp2) upd_same
theorem ok_small (T : Facts K mg) : OkFn P w K mg base CX0 1 (He.ga K "is_small_letter") 1 (spB smallI) := by
  refine mk_fn T.d_is_small_letter sc_is_small_letter (fun _ _ _ _ _ _ us hl => match us, hl with | [_], _ => rfl) (fun vs H Q E h => ?_) (fun cdv A outer s H vs Q E hr h => ?_)
  · obtain ⟨i, rfl, _⟩ := h
    rfl
  · obtain ⟨i, rfl, q⟩ := h
    refine ⟨_, PSs.nox (pss_one (ps_ret (pe_chain op_le op_le pe_int (pv 0) pe_int))), ?_⟩
    refine ⟨_, rfl, _, _, rfl, rfl, _, rfl, ?_⟩
    unfold smallI at q
    by_cases h : (97 : Int) ≤ i
    · refine if_pos_of (by simp [h]) ⟨_, _, rfl, rfl, ?_⟩
      rw [decide_eq_true h, Bool.true_and] at q
      exact q
    · refine if_neg_of (by simp [h]) ?_
      rw [decide_eq_false h, Bool.false_and] at q
      exact q
theorem ok_digit (T : Facts K mg) : OkFn P w K mg base CX0 1 (He.ga K "is_digit") 1 (spB digitI) := by
  refine mk_fn T.d_is_digit sc_is_digit (fun _ _ _ _ _ _ us hl => match us, hl with | [_], _ => rfl) (fun vs H Q E h => ?_) (fun cdv A outer s H vs Q E hr h => ?_)
  · obtain ⟨i, rfl, _⟩ := h
    rfl
  · obtain ⟨i, rfl, q⟩ := h
    refine ⟨_, PSs.nox (pss_one (ps_ret (pe_chain op_le op_le pe_int (pv 0) pe_int))), ?_⟩
    refine ⟨_, rfl, _, _, rfl, rfl, _, rfl, ?_⟩
    unfold digitI at q
    by_cases h : (48 : Int) ≤ i
    · refine if_pos_of (by simp [h]) ⟨_, _, rfl, rfl, ?_⟩
      rw [decide_eq_true h, Bool.true_and] at q
      exact q
    · refine if_neg_of (by simp [h]) ?_
      rw [decide_eq_false h, Bool.false_and] at q
      exact q
theorem ok_sign (T : Facts K mg) : OkFn P w K mg base CX0 1 (He.ga K "is_sign") 1 (spB signI) := by
  refine mk_fn T.d_is_sign sc_is_sign (fun _ _ _ _ _ _ us hl => match us, hl with | [_], _ => rfl) (fun vs H Q E h => ?_) (fun cdv A outer s H vs Q E hr h => ?_)
  · obtain ⟨i, rfl, _⟩ := h
    rfl
  · obtain ⟨i, rfl, q⟩ := h
    refine ⟨_, PSs.nox (pss_one (ps_ret (pe_chain op_le op_le pe_int (pv 0) pe_int))), ?_⟩
    refine ⟨_, rfl, _, _, rfl, rfl, _, rfl, ?_⟩
    unfold signI at q
    by_cases h : (32 : Int) ≤ i
    · refine if_pos_of (by simp [h]) ⟨_, _, rfl, rfl, ?_⟩
      rw [decide_eq_true h, Bool.true_and] at q
      exact q
    · refine if_neg_of (by simp [h]) ?_
      rw [decide_eq_false h, Bool.false_and] at q
      exact q
end
end TS
end
section
set_option Elab.async false
set_option linter.all false
set_option maxRecDepth 100000
set_option maxHeartbeats 4000000
namespace TS
open PySem PySem.Spec PyProof.Rows L2
open Vapaqa (Text Name Tree off isSmall isDigit isSign)
local macro_rules | `(tactic| walk_at "v") => `(tactic| repeat (first | refine ⟨_, rfl, ?_⟩ | refine ⟨_, _, rfl, rfl, ?_⟩))
/-! ### what stands still: F is a part of the heap that nothing changes; Gr H F H': F, and all that is new -/
def Gr (H F H' : Hp) : Hp := fun a => match H a with
  | none => H' a
  | some _ => F a
theorem Gr.new {H F H' : Hp} {a : Addr} (h : H a = none) : Gr H F H' a = H' a := by unfold Gr; rw [h]
theorem Gr.old {H F H' : Hp} {a : Addr} {o : HO} (h : H a = some o) : Gr H F H' a = F a := by unfold Gr; rw [h]
theorem Gr.up {H F : Hp} (s : Same F H) (H' : Hp) : Same F (Gr H F H') := fun b o e => by
  rw [Gr.old (s b o e)]
  exact e
theorem Gr.down {H F H' : Hp} (s : Same F H) (s2 : ∀ b o, F b = some o → H b = some o → H' b = some o) : Same (Gr H F H') H' := fun b o e => by
  cases h : H b with
  | none =>
    rw [Gr.new h] at e
    exact e
  | some u =>
    rw [Gr.old h] at e
    have := s b o e
    exact s2 b o e this
theorem Gr.down' {H F H' : Hp} (s : Same F H) (s2 : Same H H') : Same (Gr H F H') H' := Gr.down s fun b o _ e => s2 b o e
/-- one call behind the other -/
theorem Gr.trans {H F H1 H2 : Hp} (s1 : ∀ a, H a ≠ none → H1 a ≠ none) (s2 : ∀ a o, H a = none → H1 a = some o → H2 a = some o) : Same (Gr H1 (Gr H F H1) H2) (Gr H F H2) := fun b o e => by
  cases h : H b with
  | none =>
    rw [Gr.new h]
    cases h1 : H1 b with
    | none =>
      rw [Gr.new h1] at e
      exact e
    | some u =>
      rw [Gr.old h1, Gr.new h] at e
      exact s2 b o h e
  | some u =>
    rw [Gr.old h]
    cases h1 : H1 b with
    | none => exact absurd h1 (s1 b (by rw [h]; intro z; cases z))
    | some v =>
      rw [Gr.old h1, Gr.old h] at e
      exact e
theorem Gr.trans' {H F H1 H2 : Hp} (s1 : Same H H1) (s2 : Same H1 H2) : Same (Gr H1 (Gr H F H1) H2) (Gr H F H2) := Gr.trans (fun a h z => by
  cases e : H a with
  | none => exact h e
  | some o =>
    rw [s1 a o e] at z
    cases z) fun a o _ e => s2 a o e
/-! ### bytes -/
theorem smallI_at (t : Text) : smallI (byteAt t) = t.head?.any isSmall := by
  cases t with
  | nil => rfl
  | cons b r =>
    show smallI (b.toNat : Int) = isSmall b
    unfold smallI isSmall
    simp only [UInt8.le_iff_toNat_le]
    congr 1 <;> simp <;> omega
theorem digitI_at (t : Text) : digitI (byteAt t) = t.head?.any isDigit := by
  cases t with
  | nil => rfl
  | cons b r =>
    show digitI (b.toNat : Int) = isDigit b
    unfold digitI isDigit
    simp only [UInt8.le_iff_toNat_le]
    congr 1 <;> simp <;> omega
theorem signI_at (b : UInt8) (r : Text) : signI (byteAt (b :: r)) = isSign b := by
  show signI (b.toNat : Int) = isSign b
  unfold signI isSign
  simp only [UInt8.le_iff_toNat_le]
  congr 1 <;> simp <;> omega
theorem any_or {o : Option UInt8} {p q : UInt8 → Bool} : o.any (fun b => p b || q b) = (o.any p || o.any q) := by cases o <;> simp
theorem tw_head {p : UInt8 → Bool} : ∀ (s : Text) (k : Nat), k ≤ (s.takeWhile p).length → ((s.drop k).head?.any p = true ↔ k < (s.takeWhile p).length)
  | [], k, h => by
    simp at h
    simp [h]
  | b :: s, 0, h => by
    by_cases hb : p b = true
    · simp [List.takeWhile_cons, hb]
    · simp [List.takeWhile_cons, hb]
  | b :: s, k + 1, h => by
    by_cases hb : p b = true
    · rw [List.takeWhile_cons, if_pos hb] at h ⊢
      have := tw_head (p := p) s k (by simpa using h)
      simp only [List.drop_succ_cons, List.length_cons]
      rw [this]
      omega
    · rw [List.takeWhile_cons, if_neg hb] at h
      simp at h
theorem tw_take {p : UInt8 → Bool} : ∀ s : Text, s.take (s.takeWhile p).length = s.takeWhile p ∧ s.drop (s.takeWhile p).length = s.dropWhile p
  | [] => by simp
  | b :: s => by
    obtain ⟨h1, h2⟩ := tw_take (p := p) s
    by_cases hb : p b = true
    · rw [List.takeWhile_cons, if_pos hb, List.dropWhile_cons, if_pos hb]
      simp [h1, h2]
    · rw [List.takeWhile_cons, if_neg hb, List.dropWhile_cons, if_neg hb]
      simp
theorem tw_len {p : UInt8 → Bool} (s : Text) : (s.takeWhile p).length ≤ s.length := (List.takeWhile_prefix p).length_le
theorem sixPos {t : Text} {i : Nat} (h : (t.drop i).head?.any isSmall = true) : 1 ≤ ((t.drop i).takeWhile isWordB).length := by
  cases hs : t.drop i with
  | nil => rw [hs] at h; cases h
  | cons b r =>
    rw [hs] at h
    have hb : isSmall b = true := h
    rw [List.takeWhile_cons, if_pos (by unfold isWordB; rw [hb]; rfl)]
    simp
def spReadName (K : PySem.W.Frag) : Sp := fun vs H Q E => ∃ (F : Hp) (a : Addr) (t : Text) (i : Nat), vs = [.ref a, .int i] ∧ Same F H ∧ TextAt F a t ∧ i ≤ t.length ∧
  (∀ n r, rdName (t.drop i) = some (n, r) → ∀ (H' : Hp) (p b : Addr) (e : Nat), Same H H' → H' p = some (.tup [.ref b, .int e]) → TextAt (Gr H F H') b n → t.drop e = r → e ≤ t.length → Q (.ref p) H') ∧
  (rdName (t.drop i) = none → ∀ H', Same H H' → E (CW K) none H')
section
variable {P : Program} {w : World} {K : PySem.W.Frag} {mg : Str → Option Value} {base : Heap}
theorem ok_read_name (T : Facts K mg) : OkFn P w K mg base (L2.CX P w) 2 (He.ga K "read_name") 2 (spReadName K) := by
  refine mk_fn T.d_read_name sc_read_name (fun _ _ _ _ _ _ us hl => match us, hl with | [_, _], _ => rfl) (fun vs H Q E h => ?_) (fun cdv A outer s H vs Q E hr h => ?_)
  · obtain ⟨F, a, t, i, rfl, _⟩ := h
    rfl
  · obtain ⟨F, a, t, i, rfl, sF, hF, hi, q1, q2⟩ := h
    have ha : TextAt H a t := sF _ _ hF
    have nd := sc_read_name.nd
    refine ⟨_, pss_cons (ps_if (pt_not (pt_val (c_fn (ok_small T) hr rfl T.g_is_small_letter pass0 (pa_cons (c_fn (ok_byte_at T) hr rfl T.g_byte_at pass0 (pa_cons (pv 0) (pa_cons (pv 1) pa_nil))) pa_nil)))) (pss_one (rz_W T rfl rfl (takes_of rfl rfl rfl rfl))) pss_nil)
      (pss_cons (ps_set (i := 2) nd rfl (.inl rfl) (pe_op op_add (pv 1) pe_int))
      (pss_cons (ps_while (passes_of rfl) (PW.pt (pw_or (pt_val (c_fn (ok_small T) hr rfl T.g_is_small_letter pass0 (pa_cons (c_fn (ok_byte_at T) hr rfl T.g_byte_at pass0 (pa_cons (pv 0) (pa_cons (pv 2) pa_nil))) pa_nil)))
          (pw_or1 (pt_val (c_fn (ok_digit T) hr rfl T.g_is_digit pass0 (pa_cons (c_fn (ok_byte_at T) hr rfl T.g_byte_at pass0 (pa_cons (pv 0) (pa_cons (pv 2) pa_nil))) pa_nil))))))
        (pss_one (ps_aug (i := 2) nd rfl (.inl rfl) pe_int ip_add)))
      (pss_cons (ps_if (pt_cmpR op_gt (pe_op op_sub (pv 2) (pv 1)) (pe_num rfl T.i_LONGEST_NAME) (nomark _)) (pss_one (rz_W T rfl rfl (takes_of rfl rfl rfl rfl))) pss_nil)
      (pss_one (ps_ret (pe_tup (pa_cons (pe_slice sl_list (pv 0) (po_some (pv 1)) (po_some (pv 2))) (pa_cons (pv 2) pa_nil)))))))), ?_⟩
    walk_at "v"
    refine ⟨a, t, i, rfl, ha, _, rfl, _, rfl, ?_⟩
    rw [smallI_at]
    unfold rdName at q1 q2
    cases hs : (t.drop i).head?.any isSmall with
    | false =>
      refine q2 ?_ H (Same.refl H)
      rw [if_neg (by rw [hs]; exact Bool.false_ne_true)]
    | true =>
      rw [if_pos hs] at q1 q2
      have k1 := sixPos hs
      have kl := tw_len (p := isWordB) (t.drop i)
      rw [List.length_drop] at kl
      obtain ⟨tk, dk⟩ := tw_take (p := isWordB) (t.drop i)
      refine ⟨_, rfl, _, _, rfl, rfl, ?_⟩
      refine ⟨fun m σ H1 => H1 = H ∧ ∃ k : Nat, 1 ≤ k ∧ k ≤ ((t.drop i).takeWhile isWordB).length ∧ σ = [some (.ref a), some (.int i), some (.int (i + k : Nat))] ∧ m = ((t.drop i).takeWhile isWordB).length - k, ⟨_, rfl, 1, Nat.le_refl _, k1, rfl, rfl⟩, ?_⟩
      rintro m σ H1 ⟨rfl, k, hk1, hk2, rfl, rfl⟩
      have hd : (t.drop i).drop k = t.drop (i + k) := by rw [List.drop_drop]
      have hw := tw_head (p := isWordB) (t.drop i) k hk2
      rw [hd] at hw
      have hor : (t.drop (i + k)).head?.any isWordB = ((t.drop (i + k)).head?.any isSmall || (t.drop (i + k)).head?.any isDigit) := any_or
      walk_at "v"
      refine ⟨a, t, i + k, rfl, ha, _, rfl, _, rfl, ?_⟩
      rw [smallI_at]
      -- one byte more
      have more : (t.drop (i + k)).head?.any isWordB = true → ∃ m', m' < ((t.drop i).takeWhile isWordB).length - k ∧ H1 = H1 ∧ ∃ k' : Nat, 1 ≤ k' ∧ k' ≤ ((t.drop i).takeWhile isWordB).length ∧
          ([some (V.ref a), some (.int i), some (.int (i + k : Nat))] : L2.St).set 2 (some (.int (((i + k : Nat) : Int) + 1))) = [some (.ref a), some (.int i), some (.int (i + k' : Nat))] ∧ m' = ((t.drop i).takeWhile isWordB).length - k' := by
        intro hm
        have := hw.mp hm
        refine ⟨_, ?_, rfl, k + 1, by omega, this, ?_, rfl⟩
        · omega
        · simp only [List.set]
          congr 4
      have done : (t.drop (i + k)).head?.any isWordB = false → k = ((t.drop i).takeWhile isWordB).length := by
        intro hm
        have : ¬ k < ((t.drop i).takeWhile isWordB).length := fun z => by
          have := hw.mpr z
          rw [hm] at this
          cases this
        omega
      cases h1 : (t.drop (i + k)).head?.any isSmall with
      | true =>
        rw [h1, Bool.true_or] at hor
        refine ⟨fun σ' H' => ∃ m', m' < ((t.drop i).takeWhile isWordB).length - k ∧ H' = H1 ∧ ∃ k' : Nat, 1 ≤ k' ∧ k' ≤ ((t.drop i).takeWhile isWordB).length ∧ σ' = [some (V.ref a), some (.int i), some (.int (i + k' : Nat))] ∧ m' = ((t.drop i).takeWhile isWordB).length - k', fun _ _ z => z, ?_⟩
        exact ⟨_, rfl, _, _, rfl, rfl, more hor⟩
      | false =>
        walk_at "v"
        refine ⟨a, t, i + k, rfl, ha, _, rfl, _, rfl, ?_⟩
        rw [digitI_at]
        cases h2 : (t.drop (i + k)).head?.any isDigit with
        | true =>
          rw [h2, Bool.or_true] at hor
          refine ⟨fun σ' H' => ∃ m', m' < ((t.drop i).takeWhile isWordB).length - k ∧ H' = H1 ∧ ∃ k' : Nat, 1 ≤ k' ∧ k' ≤ ((t.drop i).takeWhile isWordB).length ∧ σ' = [some (V.ref a), some (.int i), some (.int (i + k' : Nat))] ∧ m' = ((t.drop i).takeWhile isWordB).length - k', fun _ _ z => z, ?_⟩
          exact ⟨_, rfl, _, _, rfl, rfl, more hor⟩
        | false =>
          rw [h1, h2] at hor
          have hk := done hor
          walk_at "v"
          rw [← hk] at q1 q2 tk dk
          by_cases h10 : k ≤ 10
          · rw [if_pos h10] at q1
            refine if_neg_of (by simp; omega) ?_
            walk_at "v"
            refine ⟨a, bs t, rfl, SqL.of ha, fun b hb => ?_⟩
            have hkt : i + k ≤ t.length := by omega
            rw [cutV_bs t i (i + k) hi hkt]
            walk_at "v"
            refine ⟨by show 2 ≤ sizeLine; decide, fun p hp => ?_⟩
            have s1 := upd_same_of (o := HO.lst (bs ((t.drop i).take (i + k - i)))) hb
            have hb2 : upd (upd H1 b (HO.lst (bs ((t.drop i).take (i + k - i))))) p (HO.tup [V.ref b, V.int ((i + k : Nat) : Int)]) b = some (HO.lst (bs ((t.drop i).take (i + k - i)))) := by
              rw [upd_ne (ne_of_none upd_same hp)]
              exact upd_same
            refine q1 _ _ rfl _ p b (i + k) (s1.trans (upd_same_of hp)) upd_same ?_ ?_ hkt
            · show Gr _ _ _ b = _
              rw [Gr.new hb, hb2, Nat.add_sub_cancel_left, tk]
            · rw [← List.drop_drop]
              exact dk
          · refine if_pos_of (by simp; omega) ?_
            refine q2 ?_ _ (Same.refl _)
            rw [if_neg h10]
end
end TS
end
section
set_option Elab.async false
set_option linter.all false
set_option maxRecDepth 100000
set_option maxHeartbeats 4000000
namespace TS
open PySem PySem.Spec PyProof.Rows L2
open Vapaqa (Text Name Tree off isSmall isDigit isSign)
local macro_rules | `(tactic| walk_at "v") => `(tactic| repeat (first | refine ⟨_, rfl, ?_⟩ | refine ⟨_, _, rfl, rfl, ?_⟩ | refine ⟨_, _, rfl, ?_⟩))
theorem byteAt_eq (s : Text) (c : UInt8) : decide (V.int (byteAt s) = V.int (c.toNat : Int)) = (s.head? == some c) := by
  cases s with
  | nil =>
    have : ¬ (V.int (byteAt []) = V.int (c.toNat : Int)) := by
      intro z
      have : (-1 : Int) = (c.toNat : Int) := V.int.inj z
      omega
    rw [decide_eq_false this]
    rfl
  | cons b r =>
    by_cases h : b = c
    · subst h
      have : V.int (byteAt (b :: r)) = V.int (b.toNat : Int) := rfl
      rw [decide_eq_true this]
      simp
    · have : ¬ (V.int (byteAt (b :: r)) = V.int (c.toNat : Int)) := by
        intro z
        have : (b.toNat : Int) = (c.toNat : Int) := V.int.inj z
        exact h (UInt8.toNat_inj.mp (by omega))
      rw [decide_eq_false this]
      simp [h]
theorem val_snoc (w : Text) (b : UInt8) : val (w ++ [b]) = 10 * val w + (b.toNat - 48) := by simp [val, List.foldl_append]
theorem val_append (w : Text) : ∀ u : Text, val w ≤ val (w ++ u) := by
  intro u
  induction u generalizing w with
  | nil => simp
  | cons b u ih =>
    have h1 := ih (w ++ [b])
    rw [List.append_assoc] at h1
    have h2 := val_snoc w b
    have : (w ++ ([b] ++ u)) = w ++ b :: u := rfl
    rw [this] at h1
    omega
/-- what holds between two statements -/
theorem seq_cut {t u : TS} {D : Ends} {σ : L2.St} {H : Hp} (R : L2.St → Hp → Prop) (h1 : ∀ nx : L2.St → Hp → Prop, (∀ σ' H', R σ' H' → nx σ' H') → t { D with nx := nx } σ H) (h2 : ∀ σ' H', R σ' H' → u D σ' H') : tSeq t u D σ H := h1 _ h2
theorem seq_set {u : TS} {v : V} {i : Nat} {D : Ends} {σ : L2.St} {H : Hp} (h : u D (σ.set i (some v)) H) : tSeq (tAsg (tC v) (gName i)) u D σ H := h
theorem any_digit_take {s : Text} {k : Nat} (h : k < (s.takeWhile isDigit).length) : ∃ b, s[k]? = some b ∧ isDigit b = true ∧ (s.takeWhile isDigit).take (k + 1) = (s.takeWhile isDigit).take k ++ [b] := by
  have hp : (s.takeWhile isDigit)[k]? = some (s.takeWhile isDigit)[k] := List.getElem?_eq_getElem h
  refine ⟨(s.takeWhile isDigit)[k], ?_, ?_, ?_⟩
  · obtain ⟨r, hr⟩ := List.takeWhile_prefix (l := s) isDigit
    conv => lhs; rw [← hr]
    rw [List.getElem?_append_left h]
    exact hp
  · have := List.all_takeWhile (p := isDigit) (l := s)
    exact List.all_eq_true.mp this _ (List.getElem_mem h)
  · rw [List.take_add_one, hp]
    rfl
theorem digit_range {b : UInt8} (h : isDigit b = true) : 48 ≤ b.toNat ∧ b.toNat ≤ 57 := by
  unfold isDigit at h
  rw [Bool.and_eq_true] at h
  have h1 := of_decide_eq_true h.1
  have h2 := of_decide_eq_true h.2
  rw [UInt8.le_iff_toNat_le] at h1 h2
  exact ⟨h1, h2⟩
def spReadNumber (K : PySem.W.Frag) : Sp := fun vs H Q E => ∃ (a : Addr) (t : Text) (i : Nat) (lo hi : Int), vs = [.ref a, .int i, .int lo, .int hi] ∧ TextAt H a t ∧ i ≤ t.length ∧ 0 ≤ hi ∧
  (∀ z r, rdNumber lo hi (t.drop i) = some (z, r) → ∀ (H' : Hp) (p : Addr) (e : Nat), Same H H' → H' p = some (.tup [.int z, .int e]) → t.drop e = r → e ≤ t.length → Q (.ref p) H') ∧
  (rdNumber lo hi (t.drop i) = none → ∀ H', Same H H' → E (CW K) none H')
section
variable {P : Program} {w : World} {K : PySem.W.Frag} {mg : Str → Option Value} {base : Heap}
theorem ok_read_number (T : Facts K mg) : OkFn P w K mg base (L2.CX P w) 2 (He.ga K "read_number") 4 (spReadNumber K) := by
  refine mk_fn T.d_read_number sc_read_number (fun _ _ _ _ _ _ us hl => match us, hl with | [_, _, _, _], _ => rfl) (fun vs H Q E h => ?_) (fun cdv A outer s H vs Q E hr h => ?_)
  · obtain ⟨_, _, _, _, _, rfl, _⟩ := h
    rfl
  · obtain ⟨a, t, i, lo, hi, rfl, ha, hi0, hhi, q1, q2⟩ := h
    refine ⟨_, (pss_cons (ps_set (i := 4) sc_read_number.nd rfl (.inl rfl) (pe_cmpR op_eq (c_fn (ok_byte_at T) (hr.mono (by decide)) rfl T.g_byte_at pass0 (pa_cons (pv 0) (pa_cons (pv 1) pa_nil))) (pe_num rfl T.i_MINUS) (nomark _)))
      (pss_cons (ps_set (i := 5) sc_read_number.nd rfl (.inl rfl) (pe_ifExp (pt_val (pv 4)) (pe_op op_add (pv 1) pe_int) (pv 1)))
      (pss_cons (ps_set (i := 6) sc_read_number.nd rfl (.inl rfl) (pv 5))
      (pss_cons (ps_set (i := 7) sc_read_number.nd rfl (.inl rfl) pe_int)
      (pss_cons (ps_while (passes_of rfl) (PW.pt (pw_and (pt_val (c_fn (ok_digit T) (hr.mono (by decide)) rfl T.g_is_digit pass0 (pa_cons (c_fn (ok_byte_at T) (hr.mono (by decide)) rfl T.g_byte_at pass0 (pa_cons (pv 0) (pa_cons (pv 6) pa_nil))) pa_nil))) (pw_and1 (pt_cmpR op_le (pv 7) (pe_callB (call_max2 rfl) (by rfl) T.f_max (by decide +kernel) (pa_cons (pv 3) (pa_cons (pe_un un_neg (pv 2)) pa_nil))) (nomark _)))))
        (pss_cons (ps_set (i := 7) sc_read_number.nd rfl (.inl rfl) (pe_op op_sub (pe_op op_add (pe_op op_mul (pv 7) pe_int) (pe_ix ix_list (pv 0) (pv 6) (fun _ _ => rfl))) pe_int))
        (pss_one (ps_aug (i := 6) sc_read_number.nd rfl (.inl rfl) pe_int ip_add))))
      (pss_cons (ps_set (i := 8) sc_read_number.nd rfl (.inl rfl) (pe_and (pe_cmpR op_eq (c_fn (ok_byte_at T) (hr.mono (by decide)) rfl T.g_byte_at pass0 (pa_cons (pv 0) (pa_cons (pv 5) pa_nil))) pe_int (nomark _)) (pe_one (pe_or (pv 4) (pe_one (pe_cmpR op_gt (pe_op op_sub (pv 6) (pv 5)) pe_int (nomark _)))))))
      (pss_cons (ps_if (PW.pt (pw_or (pt_cmpR op_eq (pv 6) (pv 5) (nomark _)) (pw_or1 (pt_val (pv 8)))))
        (pss_one (rz_W T rfl rfl (takes_of rfl rfl rfl rfl)))
        pss_nil)
      (pss_cons (ps_if (pt_val (pv 4))
        (pss_one (ps_set (i := 7) sc_read_number.nd rfl (.inl rfl) (pe_un un_neg (pv 7))))
        pss_nil)
      (pss_cons (ps_if (PW.pt (pw_or (pt_cmpR op_lt (pv 7) (pv 2) (nomark _)) (pw_or1 (pt_cmpR op_lt (pv 3) (pv 7) (nomark _)))))
        (pss_one (rz_W T rfl rfl (takes_of rfl rfl rfl rfl)))
        pss_nil)
      (pss_one (ps_ret (pe_tup (pa_cons (pv 7) (pa_cons (pv 6) pa_nil)))))))))))))), ?_⟩
    walk_at "v"
    refine ⟨a, t, i, rfl, ha, ?_⟩
    walk_at "v"
    refine ⟨rfl, ?_⟩
    have e45 : decide (V.int (byteAt (t.drop i)) = V.int 45) = ((t.drop i).head? == some 45) := byteAt_eq _ 45
    rw [e45]
    -- where the digits begin
    obtain ⟨j, hj, hju, hjl⟩ : ∃ j : Nat, j = (if (t.drop i).head? == some 45 then i + 1 else i) ∧ t.drop j = unsigned (t.drop i) ∧ j ≤ t.length := by
      refine ⟨_, rfl, ?_⟩
      unfold unsigned
      cases hs : t.drop i with
      | nil => simp [hs, hi0]
      | cons b r =>
        have hl : i < t.length := by
          have := congrArg List.length hs
          simp at this
          omega
        have hr : t.drop (i + 1) = r := by rw [← List.drop_drop, hs]; rfl
        by_cases hb : b = 45
        · simp [hb, hr]
          omega
        · simp [hb, hs]
          omega
    dsimp only [gName]
    refine seq_cut (R := fun σ' H' => H' = H ∧ σ' = [some (.ref a), some (.int i), some (.int lo), some (.int hi), some (.bl ((t.drop i).head? == some 45)), some (.int (j : Nat)), none, none, none]) (fun nx k => ?_) ?_
    · walk_at "v"
      cases hc : ((t.drop i).head? == some 45) with
      | true =>
        rw [hc, if_pos rfl] at hj
        subst hj
        exact ⟨_, rfl, _, _, rfl, rfl, k _ _ ⟨rfl, by rw [hc]; rfl⟩⟩
      | false =>
        rw [hc, if_neg Bool.false_ne_true] at hj
        subst hj
        exact ⟨_, rfl, k _ _ ⟨rfl, by rw [hc]; rfl⟩⟩
    rintro _ H ⟨rfl, rfl⟩
    walk_at "v"
    dsimp only [gName]
    refine seq_set ?_
    generalize hneg : ((t.drop i).head? == some 45) = neg at *
    have hn2 : ((t.drop i).head? = some 45) ↔ neg = true := by rw [← hneg]; simp
    have hu : unsigned (t.drop i) = t.drop j := hju.symm
    have kl := tw_len (p := isDigit) (t.drop j)
    obtain ⟨tk, dk⟩ := tw_take (p := isDigit) (t.drop j)
    -- the loop: k digits are taken; it ends behind them all, or where the number is too great
    refine seq_cut (R := fun σ' H'' => H'' = H ∧ ∃ k : Nat, k ≤ ((t.drop j).takeWhile isDigit).length ∧ σ' = [some (.ref a), some (.int i), some (.int lo), some (.int hi), some (.bl neg), some (.int (j : Nat)), some (.int (j + k : Nat)), some (.int (val (((t.drop j).takeWhile isDigit).take k) : Nat)), none] ∧
      (k = ((t.drop j).takeWhile isDigit).length ∨ (hi < (val (((t.drop j).takeWhile isDigit).take k) : Nat) ∧ -lo < (val (((t.drop j).takeWhile isDigit).take k) : Nat)))) (fun nx kx => ?_) ?_
    · refine ⟨fun m σ H1 => H1 = H ∧ ∃ k : Nat, k ≤ ((t.drop j).takeWhile isDigit).length ∧ m = ((t.drop j).takeWhile isDigit).length - k ∧ σ = [some (.ref a), some (.int i), some (.int lo), some (.int hi), some (.bl neg), some (.int (j : Nat)), some (.int (j + k : Nat)), some (.int (val (((t.drop j).takeWhile isDigit).take k) : Nat)), none],
        ⟨_, rfl, 0, Nat.zero_le _, rfl, rfl⟩, ?_⟩
      rintro m σ H1 ⟨rfl, k, hk, rfl, rfl⟩
      have hd : (t.drop j).drop k = t.drop (j + k) := by rw [List.drop_drop]
      have hw := tw_head (p := isDigit) (t.drop j) k hk
      rw [hd] at hw
      walk_at "v"
      refine ⟨a, t, j + k, rfl, ha, ?_⟩
      walk_at "v"
      rw [digitI_at]
      cases hb : (t.drop (j + k)).head?.any isDigit with
      | false =>
        refine kx _ _ ⟨rfl, k, hk, rfl, .inl ?_⟩
        have : ¬ k < ((t.drop j).takeWhile isDigit).length := fun z => by
          rw [hw.mpr z] at hb
          cases hb
        omega
      | true =>
        have hkl := hw.mp hb
        walk_at "v"
        have em : (if -lo > hi then -lo else hi) = max hi (-lo) := by split <;> omega
        rw [em]
        by_cases hle : ((val (((t.drop j).takeWhile isDigit).take k) : Nat) : Int) ≤ max hi (-lo)
        · refine if_pos_of (by simpa using hle) ?_
          refine ⟨fun σ' H' => ∃ m', m' < ((t.drop j).takeWhile isDigit).length - k ∧ H' = H1 ∧ ∃ k : Nat, k ≤ ((t.drop j).takeWhile isDigit).length ∧ m' = ((t.drop j).takeWhile isDigit).length - k ∧ σ' = [some (.ref a), some (.int i), some (.int lo), some (.int hi), some (.bl neg), some (.int (j : Nat)), some (.int (j + k : Nat)), some (.int (val (((t.drop j).takeWhile isDigit).take k) : Nat)), none], fun _ _ z => z, ?_⟩
          obtain ⟨b, hb1, hb2, hb3⟩ := any_digit_take hkl
          have hr := digit_range hb2
          have hg : (bs t)[j + k]? = some (V.int (b.toNat : Int)) := by
            rw [bs_get]
            rw [List.getElem?_drop] at hb1
            rw [hb1]
            rfl
          walk_at "v"
          refine ⟨.inr ⟨by decide, by decide⟩, ?_⟩
          walk_at "v"
          refine ⟨a, bs t, _, _, rfl, rfl, SqL.of ha, atI_nat hg, ?_⟩
          walk_at "v"
          refine ⟨_, ?_, rfl, k + 1, hkl, rfl, ?_⟩
          · omega
          · rw [hb3, val_snoc]
            have e1 : (((j + k : Nat) : Int) + 1) = ((j + (k + 1) : Nat) : Int) := by omega
            have e2 : ((val (((t.drop j).takeWhile isDigit).take k) : Nat) : Int) * 10 + (b.toNat : Int) - 48 = ((10 * val (((t.drop j).takeWhile isDigit).take k) + (b.toNat - 48) : Nat) : Int) := by omega
            show [some (V.ref a), some (.int i), some (.int lo), some (.int hi), some (.bl neg), some (.int (j : Nat)), some (.int (((j + k : Nat) : Int) + 1)), some (.int (((val (((t.drop j).takeWhile isDigit).take k) : Nat) : Int) * 10 + (b.toNat : Int) - 48)), none] = _
            rw [e1, e2]
        · refine if_neg_of (by simpa using hle) ?_
          exact kx _ _ ⟨rfl, k, hk, rfl, .inr ⟨by omega, by omega⟩⟩
    rintro _ H ⟨rfl, k, hk, rfl, hex⟩
    have e48 : decide (V.int (byteAt (t.drop j)) = V.int 48) = ((t.drop j).head? == some 48) := byteAt_eq _ 48
    generalize hW : (t.drop j).takeWhile isDigit = W at *
    have hrd : rdNumber lo hi (t.drop i) = if (W.isEmpty || ((t.drop j).head? == some 48 && (neg || decide (1 < W.length)))) = true then none
        else if (if neg = true then -(val W : Int) else (val W : Int)) < lo ∨ hi < (if neg = true then -(val W : Int) else (val W : Int)) then none else some (if neg = true then -(val W : Int) else (val W : Int), t.drop (j + W.length)) := by
      unfold rdNumber
      rw [hu, hW, hneg, ← dk, List.drop_drop]
      simp only [hn2]
    refine seq_cut (R := fun σ' H' => H' = H ∧ σ' = [some (.ref a), some (.int i), some (.int lo), some (.int hi), some (.bl neg), some (.int (j : Nat)), some (.int (j + k : Nat)), some (.int (val (W.take k) : Nat)), some (.bl ((t.drop j).head? == some 48 && (neg || decide (1 < k))))]) (fun nx kn => ?_) ?_
    · walk_at "v"
      refine ⟨a, t, j, rfl, ha, ?_⟩
      walk_at "v"
      refine ⟨rfl, ?_⟩
      rw [e48]
      refine ⟨_, rfl, ?_⟩
      have ed : decide ((1 : Int) < ((j + k : Nat) : Int) - (j : Int)) = decide (1 < k) := by
        by_cases z : 1 < k
        · rw [decide_eq_true z, decide_eq_true (by omega)]
        · rw [decide_eq_false z, decide_eq_false (by omega)]
      cases h48 : (t.drop j).head? == some 48 with
      | false => exact kn _ _ ⟨rfl, by rw [h48]; rfl⟩
      | true =>
        walk_at "v"
        cases hng : neg with
        | true => exact kn _ _ ⟨rfl, by rw [h48, hng]; rfl⟩
        | false =>
          walk_at "v"
          refine kn _ _ ⟨rfl, ?_⟩
          rw [h48, hng, Bool.true_and, Bool.false_or, ← ed]
          rfl
    rintro _ H ⟨rfl, rfl⟩
    -- where the number is too great the reader refuses it, whatever else
    have late : k < W.length → rdNumber lo hi (t.drop i) = none := by
      intro hlt
      rcases hex with hex | hex
      · omega
      · have hv : val (W.take k) ≤ val W := by
          have := val_append (W.take k) (W.drop k)
          rw [List.take_append_drop] at this
          exact this
        rw [hrd]
        split
        · rfl
        · rw [if_pos]
          cases neg
          · right
            simp
            omega
          · left
            simp
            omega
    -- where all digits are taken, it does as the mirror
    have same : k = W.length → rdNumber lo hi (t.drop i) = if (decide (k = 0) || ((t.drop j).head? == some 48 && (neg || decide (1 < k)))) = true then none
        else if (if neg = true then -(val (W.take k) : Int) else (val (W.take k) : Int)) < lo ∨ hi < (if neg = true then -(val (W.take k) : Int) else (val (W.take k) : Int)) then none else some (if neg = true then -(val (W.take k) : Int) else (val (W.take k) : Int), t.drop (j + k)) := by
      intro hkw
      rw [hrd, hkw, List.take_length]
      have : W.isEmpty = decide (W.length = 0) := by cases W <;> simp
      rw [this]
    have no : (k = 0 ∨ ((t.drop j).head? == some 48 && (neg || decide (1 < k))) = true ∨ (if neg = true then -(val (W.take k) : Int) else (val (W.take k) : Int)) < lo ∨ hi < (if neg = true then -(val (W.take k) : Int) else (val (W.take k) : Int))) → rdNumber lo hi (t.drop i) = none := by
      intro h
      by_cases hkw : k = W.length
      · rw [same hkw]
        rcases h with h | h | h
        · rw [if_pos (by simp [h])]
        · rw [if_pos (by rw [h]; simp)]
        · rw [if_pos h]
          split <;> rfl
      · exact late (by omega)
    walk_at "v"
    refine ⟨rfl, ?_⟩
    walk_at "v"
    by_cases h0 : k = 0
    · refine if_pos_of (decide_eq_true ?_) ?_
      · rw [h0]
        rfl
      · exact q2 (no (.inl h0)) H (Same.refl H)
    refine if_neg_of (decide_eq_false fun z => ?_) ?_
    · have := V.int.inj z
      omega
    walk_at "v"
    cases hnl : ((t.drop j).head? == some 48 && (neg || decide (1 < k))) with
    | true => exact q2 (no (.inr (.inl hnl))) H (Same.refl H)
    | false =>
      refine iteF ?_
      dsimp only [tNext]
      refine seq_cut (R := fun σ' H' => H' = H ∧ σ' = [some (.ref a), some (.int i), some (.int lo), some (.int hi), some (.bl neg), some (.int (j : Nat)), some (.int (j + k : Nat)), some (.int (if neg = true then -(val (W.take k) : Int) else (val (W.take k) : Int))), some (.bl false)]) (fun nx kn => ?_) ?_
      · walk_at "v"
        cases neg with
        | true =>
          walk_at "v"
          exact kn _ _ ⟨rfl, rfl⟩
        | false => exact kn _ _ ⟨rfl, rfl⟩
      rintro _ H ⟨rfl, rfl⟩
      generalize hz : (if neg = true then -(val (W.take k) : Int) else (val (W.take k) : Int)) = z at *
      walk_at "v"
      by_cases h1 : z < lo
      · refine if_pos_of (decide_eq_true h1) ?_
        exact q2 (no (.inr (.inr (.inl h1)))) _ (Same.refl _)
      refine if_neg_of (decide_eq_false h1) ?_
      walk_at "v"
      by_cases h2 : hi < z
      · refine if_pos_of (decide_eq_true h2) ?_
        exact q2 (no (.inr (.inr (.inr h2)))) _ (Same.refl _)
      refine if_neg_of (decide_eq_false h2) ?_
      walk_at "v"
      refine ⟨by show 2 ≤ sizeLine; decide, fun p hp => ?_⟩
      have hkw : k = W.length := by
        rcases hex with e | e
        · exact e
        · exfalso
          rw [← hz] at h1 h2
          cases neg
          · simp at h2
            omega
          · simp at h1
            omega
      refine q1 z (t.drop (j + k)) ?_ _ p (j + k) (upd_same_of hp) upd_same rfl ?_
      · rw [same hkw, hnl, if_neg (by simp [h0]), if_neg (by omega)]
      · rw [List.length_drop] at kl
        omega
end
end TS
end
section
set_option Elab.async false
set_option linter.all false
set_option maxRecDepth 100000
set_option maxHeartbeats 4000000
namespace TS
open PySem PySem.Spec PyProof.Rows L2
open Vapaqa (Text Name Tree off isSmall isDigit isSign)
local macro_rules | `(tactic| walk_at "v") => `(tactic| repeat (first | refine ⟨_, rfl, ?_⟩ | refine ⟨_, _, rfl, rfl, ?_⟩ | refine ⟨_, _, rfl, ?_⟩))
/-- a turn of the reader in marks, told at the byte that is taken in -/
def oneMore (n : Nat) (t : Text) : Option (Text × Text) := match t with
  | [] => none
  | b :: r => if isSign b = true then (match n with
      | 0 => none
      | k + 1 => (rdInner k r).map fun x => (b :: x.1, x.2)) else none
theorem inV_int (i j k : Int) : inV (.int i) [.int j, .int k] = (decide (V.int i = V.int j) || decide (V.int i = V.int k)) := by
  unfold inV
  simp only [List.any_cons, List.any_nil, Bool.or_false, eqV]
  have e : ∀ a b : Int, (a == b) = decide (V.int b = V.int a) := by
    intro a b
    by_cases h : a = b
    · rw [h]
      simp
    · have : ¬ (V.int b = V.int a) := fun z => h (V.int.inj z).symm
      simp [h, this]
  rw [e, e]
theorem inV_guard (r : Text) : inV (.int (byteAt r)) [.int 34, .int 92] = (r.head? == some 34 || r.head? == some 92) := by
  have e1 : decide (V.int (byteAt r) = V.int 34) = (r.head? == some 34) := byteAt_eq _ 34
  have e2 : decide (V.int (byteAt r) = V.int 92) = (r.head? == some 92) := byteAt_eq _ 92
  rw [inV_int, e1, e2]
def spReadMarked (K : PySem.W.Frag) : Sp := fun vs H Q E => ∃ (F : Hp) (a : Addr) (t : Text) (i : Nat), vs = [.ref a, .int i] ∧ Same F H ∧ TextAt F a t ∧ i < t.length ∧ (t.drop i).head? = some 34 ∧
  (∀ u r, rdInner 20 (t.drop (i + 1)) = some (u, r) → ∀ (H' : Hp) (p b : Addr) (e : Nat), Same H H' → H' p = some (.tup [.ref b, .int e]) → TextAt (Gr H F H') b u → t.drop e = r → e ≤ t.length → Q (.ref p) H') ∧
  (rdInner 20 (t.drop (i + 1)) = none → ∀ H', Same H H' → E (CW K) none H')
section
variable {P : Program} {w : World} {K : PySem.W.Frag} {mg : Str → Option Value} {base : Heap}
theorem ok_read_marked (T : Facts K mg) : OkFn P w K mg base (L2.CX P w) 4 (He.ga K "read_marked") 2 (spReadMarked K) := by
  refine mk_fn T.d_read_marked sc_read_marked (fun _ _ _ _ _ _ us hl => match us, hl with | [_, _], _ => rfl) (fun vs H Q E h => ?_) (fun cdv A outer s H vs Q E hr h => ?_)
  · obtain ⟨_, _, _, _, rfl, _⟩ := h
    rfl
  · obtain ⟨F, a, t, i, rfl, sF, hF, hi, h34, q1, q2⟩ := h
    have ha : TextAt H a t := sF _ _ hF
    refine ⟨_, (pss_cons (ps_set (i := 2) sc_read_marked.nd rfl (.inl rfl) (c_fn (ok_behind T) (hr.mono (by decide)) rfl T.g_behind (pX (takes_of rfl rfl rfl rfl)) (pa_cons (pv 0) (pa_cons (pv 1) (pa_cons pe_str pa_nil)))))
      (pss_cons (ps_set (i := 3) sc_read_marked.nd rfl (.inl rfl) (pe_lst pa_nil))
      (pss_cons (ps_while (passes_of rfl) (pt_cmpR op_ne (c_fn (ok_byte_at T) (hr.mono (by decide)) rfl T.g_byte_at pass0 (pa_cons (pv 0) (pa_cons (pv 2) pa_nil))) (pe_num rfl T.i_MARK) (nomark _))
        (pss_cons (ps_if (pt_cmpR op_eq (c_fn (ok_byte_at T) (hr.mono (by decide)) rfl T.g_byte_at pass0 (pa_cons (pv 0) (pa_cons (pv 2) pa_nil))) (pe_num rfl T.i_BACKSLASH) (nomark _))
          (pss_cons (ps_aug (i := 2) sc_read_marked.nd rfl (.inl rfl) pe_int ip_add)
          (pss_one (ps_if (pt_cmpR op_notIn_seq (c_fn (ok_byte_at T) (hr.mono (by decide)) rfl T.g_byte_at pass0 (pa_cons (pv 0) (pa_cons (pv 2) pa_nil))) (pe_tup (pa_cons (pe_num rfl T.i_MARK) (pa_cons (pe_num rfl T.i_BACKSLASH) pa_nil))) (by rfl))
            (pss_one (rz_W T rfl rfl (takes_of rfl rfl rfl rfl)))
            pss_nil)))
          pss_nil)
        (pss_cons (ps_if (PW.pt (pw_or (pt_not (pt_val (c_fn (ok_sign T) (hr.mono (by decide)) rfl T.g_is_sign pass0 (pa_cons (c_fn (ok_byte_at T) (hr.mono (by decide)) rfl T.g_byte_at pass0 (pa_cons (pv 0) (pa_cons (pv 2) pa_nil))) pa_nil)))) (pw_or1 (pt_cmpR op_eq (pe_callB call_len_seq (by rfl) T.f_len boot_len (pa_cons (pv 3) pa_nil)) (pe_num rfl T.i_LONGEST_TEXT) (nomark _)))))
          (pss_one (rz_W T rfl rfl (takes_of rfl rfl rfl rfl)))
          pss_nil)
        (pss_cons (ps_expr (pe_bm PySem.F.plainAttrs_list PySem.F.slot_list_append PySem.F.type_list_append mt_append (pv 3) (pa_cons (pe_ix ix_list (pv 0) (pv 2) (fun _ _ => rfl)) pa_nil)))
        (pss_one (ps_aug (i := 2) sc_read_marked.nd rfl (.inl rfl) pe_int ip_add))))))
      (pss_one (ps_ret (pe_tup (pa_cons (pv 3) (pa_cons (pe_op op_add (pv 2) pe_int) pa_nil)))))))), ?_⟩
    have nd := sc_read_marked.nd
    obtain ⟨t1, ht1⟩ : ∃ t1, t.drop i = 34 :: t1 := by
      cases hs : t.drop i with
      | nil => rw [hs] at h34; cases h34
      | cons b r =>
        rw [hs] at h34
        have : b = 34 := by simpa using h34
        exact ⟨r, by rw [this]⟩
    have hd1 : t.drop (i + 1) = t1 := by rw [← List.drop_drop, ht1]; rfl
    walk_at "v"
    refine ⟨a, t, i, _, [34], rfl, ha, rfl, by decide, Nat.le_of_lt hi, fun r hr H1 s1 => ?_, fun hno => ?_⟩
    rotate_left
    · rw [ht1] at hno
      simp [off, List.isPrefixOf] at hno
    walk_at "v"
    refine ⟨by show 0 ≤ sizeLine; exact Nat.zero_le _, fun b hb => ?_⟩
    -- the loop: u0 is taken in, n more may come
    refine ⟨fun m σ H2 => Same H H2 ∧ ∃ (e : Nat) (u0 : Text) (n : Nat), e ≤ t.length ∧ m = t.length - e ∧ σ = [some (.ref a), some (.int i), some (.int (e : Nat)), some (.ref b)] ∧ H2 b = some (.lst (bs u0)) ∧ u0.length + n = 20 ∧ rdInner 20 (t.drop (i + 1)) = (rdInner n (t.drop e)).map fun x => (u0 ++ x.1, x.2),
      ⟨_, s1.trans (upd_same_of hb), i + 1, [], 20, hi, rfl, rfl, upd_same, rfl, by cases rdInner 20 (t.drop (i + 1)) <;> simp⟩, ?_⟩
    rintro m σ H2 ⟨s2, e, u0, n, he, rfl, rfl, hu, hn, hrd⟩
    have ha2 : TextAt H2 a t := s2 _ _ ha
    walk_at "v"
    refine ⟨a, t, e, rfl, ha2, ?_⟩
    walk_at "v"
    refine ⟨rfl, ?_⟩
    have e34 : decide (V.int (byteAt (t.drop e)) = V.int 34) = ((t.drop e).head? == some 34) := byteAt_eq _ 34
    rw [e34]
    walk_at "v"
    cases h3 : (t.drop e).head? == some 34 with
    | true =>
      refine iteF ?_
      walk_at "v"
      refine ⟨by show 2 ≤ sizeLine; decide, fun p hp => ?_⟩
      obtain ⟨r, hr⟩ : ∃ r, t.drop e = 34 :: r := by
        cases hs : t.drop e with
        | nil => rw [hs] at h3; cases h3
        | cons c r =>
          rw [hs] at h3
          have : c = 34 := by simpa using h3
          exact ⟨r, by rw [this]⟩
      have hel : e < t.length := by
        have := congrArg List.length hr
        simp at this
        omega
      have hr1 : t.drop (e + 1) = r := by rw [← List.drop_drop, hr]; rfl
      rw [hr, rdInner_end] at hrd
      have hbH : H b = none := by
        cases q : H b with
        | none => rfl
        | some o =>
          rw [s1 b o q] at hb
          cases hb
      refine q1 u0 r (by rw [hrd]; simp) _ p b (e + 1) (s2.trans (upd_same_of hp)) upd_same ?_ hr1 hel
      show Gr _ _ _ b = _
      rw [Gr.new hbH, upd_ne (ne_of_none hu hp)]
      exact hu
    | false =>
      refine ⟨fun σ' H' => ∃ m', m' < t.length - e ∧ Same H H' ∧ ∃ (e : Nat) (u0 : Text) (n : Nat), e ≤ t.length ∧ m' = t.length - e ∧ σ' = [some (.ref a), some (.int i), some (.int (e : Nat)), some (.ref b)] ∧ H' b = some (.lst (bs u0)) ∧ u0.length + n = 20 ∧ rdInner 20 (t.drop (i + 1)) = (rdInner n (t.drop e)).map fun x => (u0 ++ x.1, x.2), fun _ _ z => z, ?_⟩
      -- behind the guard: the byte at f is to be taken in
      refine seq_cut (R := fun σ' H' => Same H2 H' ∧ ∃ f : Nat, e ≤ f ∧ f ≤ t.length ∧ σ' = [some (.ref a), some (.int i), some (.int (f : Nat)), some (.ref b)] ∧ rdInner n (t.drop e) = oneMore n (t.drop f)) (fun nx kx => ?_) ?_
      · walk_at "v"
        refine ⟨a, t, e, rfl, ha2, ?_⟩
        walk_at "v"
        refine ⟨rfl, ?_⟩
        have e92 : decide (V.int (byteAt (t.drop e)) = V.int 92) = ((t.drop e).head? == some 92) := byteAt_eq _ 92
        rw [e92]
        walk_at "v"
        cases hs : t.drop e with
        | nil =>
          refine iteF ?_
          exact kx _ _ ⟨Same.refl _, e, Nat.le_refl _, he, rfl, by rw [hs, rdInner_nil]; rfl⟩
        | cons c r =>
          rw [hs] at h3
          have hc34 : c ≠ 34 := by simpa using h3
          by_cases hc : c = 92
          · subst hc
            have hel : e < t.length := by
              have := congrArg List.length hs
              simp at this
              omega
            have hr1 : t.drop (e + 1) = r := by rw [← List.drop_drop, hs]; rfl
            refine if_pos_of (by simp) ?_
            walk_at "v"
            refine ⟨a, t, e + 1, rfl, ha2, ?_⟩
            walk_at "v"
            refine ⟨by show 2 ≤ sizeLine; decide, fun p hp => ?_⟩
            refine ⟨p, _, rfl, .inr (SqT.of upd_same), rfl, rfl, ?_⟩
            walk_at "v"
            rw [hr1]
            have eg : (if true = true then !inV (V.int (byteAt r)) [V.int 34, V.int 92] else inV (V.int (byteAt r)) [V.int 34, V.int 92]) = !(r.head? == some 34 || r.head? == some 92) := by rw [if_pos rfl, inV_guard]
            rw [show ([V.int 34, V.int 92] : List V) = [V.int 34, V.int 92] from rfl] at eg
            cases hg : (r.head? == some 34 || r.head? == some 92) with
            | false =>
              refine if_pos_of (by rw [eg, hg]; rfl) ?_
              refine q2 ?_ _ (s2.trans (upd_same_of hp))
              rw [hrd, hs, rdInner_bad]
              · rfl
              · intro c s hcs
                rw [hcs] at hg
                simp at hg
                rintro (z | z)
                · exact hg.1 z
                · exact hg.2 z
            | true =>
              refine if_neg_of (by rw [eg, hg]; rfl) ?_
              refine kx _ _ ⟨upd_same_of hp, e + 1, Nat.le_succ _, hel, rfl, ?_⟩
              cases r with
              | nil => simp at hg
              | cons c s =>
                have hc : c = 34 ∨ c = 92 := by simpa using hg
                rw [hs, hr1, rdInner_esc n c s hc]
                have : isSign c = true := by rcases hc with rfl | rfl <;> rfl
                unfold oneMore
                simp only [this, if_true]
                try (cases n <;> rfl)
          · refine if_neg_of (by simp [hc]) ?_
            refine kx _ _ ⟨Same.refl _, e, Nat.le_refl _, he, rfl, ?_⟩
            rw [hs, rdInner_one _ _ _ hc34 hc]
            rfl
      rintro _ H3 ⟨s3, f, hef, hf, rfl, hone⟩
      have ha3 : TextAt H3 a t := s3 _ _ ha2
      have hu3 : H3 b = some (.lst (bs u0)) := s3 _ _ hu
      rw [hone] at hrd
      walk_at "v"
      refine ⟨a, t, f, rfl, ha3, ?_⟩
      walk_at "v"
      cases hs : t.drop f with
      | nil =>
        refine if_pos_of rfl ?_
        refine q2 ?_ _ (s2.trans s3)
        rw [hrd, hs]
        rfl
      | cons c r =>
        have hfl : f < t.length := by
          have := congrArg List.length hs
          simp at this
          omega
        have hr1 : t.drop (f + 1) = r := by rw [← List.drop_drop, hs]; rfl
        rw [hs] at hrd
        rw [signI_at]
        cases hsi : isSign c with
        | false =>
          refine if_pos_of rfl ?_
          refine q2 ?_ _ (s2.trans s3)
          rw [hrd]
          unfold oneMore
          simp [hsi]
        | true =>
          refine if_neg_of rfl ?_
          walk_at "v"
          refine ⟨b, bs u0, rfl, .inl (SqL.of hu3), ?_⟩
          walk_at "v"
          refine ⟨rfl, ?_⟩
          walk_at "v"
          rw [bs_length]
          cases n with
          | zero =>
            refine if_pos_of (decide_eq_true (by rw [show u0.length = 20 by omega]; rfl)) ?_
            refine q2 ?_ _ (s2.trans s3)
            rw [hrd]
            unfold oneMore
            simp [hsi]
          | succ n' =>
            refine if_neg_of (decide_eq_false fun z => by have := V.int.inj z; omega) ?_
            have hg : (bs t)[f]? = some (V.int (c.toNat : Int)) := by
              rw [bs_get]
              have : t[f]? = some c := by
                have := congrArg (fun l : Text => l[0]?) hs
                simpa using this
              rw [this]
              rfl
            walk_at "v"
            refine ⟨.inl ⟨rfl, _, SqL.of hu3⟩, ?_⟩
            walk_at "v"
            refine ⟨a, bs t, _, _, rfl, rfl, SqL.of ha3, atI_nat hg, ?_⟩
            walk_at "v"
            refine ⟨b, bs u0, _, rfl, rfl, hu3, by rw [bs_length, sizeLine_eq]; omega, ?_⟩
            walk_at "v"
            have hab : b ≠ a := by
              intro z
              subst z
              exact absurd (s1.free hb) (by rw [ha]; intro q; cases q)
            refine ⟨_, ?_, ?_, f + 1, u0 ++ [c], n', hfl, rfl, rfl, ?_, by simp; omega, ?_⟩
            · omega
            · intro p o hpo
              have hpb : p ≠ b := by
                intro z
                subst z
                have := s1.free hb
                rw [hpo] at this
                cases this
              rw [upd_ne hpb]
              exact s3 _ _ (s2 _ _ hpo)
            · rw [upd_same]
              simp [bs]
            · rw [hrd, hr1]
              unfold oneMore
              simp only [hsi, if_true]
              cases rdInner n' r <;> simp
end
end TS
end
section
set_option Elab.async false
set_option linter.all false
set_option maxRecDepth 100000
set_option maxHeartbeats 4000000
namespace TS
open PySem PySem.Spec PyProof.Rows L2
/-! ### enumerate of a tuple -/
set_option maxHeartbeats 4000000 in
theorem enum_new_one {u : Value} {ob : Obj} {G : Heap → Prop} (bg : Begins u ob G) :
    Meets (Builtin.«enumerate.__new__» ⟨[.type "enumerate", u], []⟩) (fun _ R st => G st.heap ∧
      R (.ok (.ret (.ref (st.heap.push ob).objs.size))) { st with heap := (st.heap.push ob).push { cls := .type "enumerate", data := .fields #[.none, .bool false, .ref st.heap.objs.size, rawInt 0, .none, .none] } }) :=
  .of_wp fun pr wo ar R st hyp => by
    obtain ⟨hh, ga, dr, to, os⟩ := st
    obtain ⟨g1, g2⟩ := hyp
    have su := sub_enumerate
    have it1 : ∀ {A' : Around} {E : Value → Shared → Prop} {Q : Value → Shared → Prop}, Q (.ref hh.objs.size) ⟨hh.push ob, ga, dr, to, os⟩ → wpAny (model pr wo) A' (pyIter u) Q E ⟨hh, ga, dr, to, os⟩ :=
      fun z => bg.iter pr wo _ _ ⟨hh, ga, dr, to, os⟩ _ g1 z
    wp_walk using it1
    refine wpAny_stack_any fun _ => wpAny_pure ?_
    split
    · rename_i cc _ _ _ _ _
      cases (cc == Value.type "enumerate") <;> (wp_walk using it1; exact ⟨_, rfl, g2⟩)
    · wp_walk using it1
      exact ⟨_, rfl, g2⟩

section
variable {prog : Program} {w : World} {A : Around} {E : Value → Shared → Prop} {s : Shared}
theorem enum_of_tuple {a : Addr} {items : Array Value} {Q : Value → Shared → Prop} (ht : s.heap.IsTuple a items)
    (q : ∀ h2, IsEnum h2 (s.heap.objs.size + 1) s.heap.objs.size 0 .none → h2.IsTupleIter s.heap.objs.size a 0 → h2.objs.size = s.heap.objs.size + 2 → (∀ b o, s.heap.get? b = some o → h2.get? b = some o) → Q (.ref (s.heap.objs.size + 1)) { s with heap := h2 }) :
    wpAny (model prog w) A (call (.type "enumerate") [.ref a]) Q E s := by
  let ob : Obj := { cls := .type "tuple_iterator", data := .fields #[.ref a, .int 0 0] }
  refine callType_new F.called_enumerate (by decide) (F.typeCall_enumerate_1 _) (F.newCall_enumerate_1 _) (fun _ => F.args_object_init_2 _ _) F.entry_enumerate_new (enum_new_one (begins_tuple a items)) ⟨ht, ?_⟩
  have z1 : (s.heap.push ob).objs.size = s.heap.objs.size + 1 := Heap.size_push ..
  have z2 : ((s.heap.push ob).push { cls := .type "enumerate", data := .fields #[.none, .bool false, .ref s.heap.objs.size, rawInt 0, .none, .none] }).get? (s.heap.push ob).objs.size = some { cls := .type "enumerate", data := .fields #[.none, .bool false, .ref s.heap.objs.size, rawInt 0, .none, .none] } := Heap.get?_push_size _ rfl
  show _ ∧ _
  rw [z1] at z2 ⊢
  exact ⟨⟨_, z2, rfl⟩, q _ z2 ⟨ob, Heap.get?_push_of_some _ (Heap.get?_push_size _ rfl), rfl, rfl⟩ (by rw [Heap.size_push, z1]) fun b o x => Heap.get?_push_of_some _ (Heap.get?_push_of_some _ x)⟩
end
/-- the tuple at a, each item in a new pair -/
def Iet (K : PySem.W.Frag) (a : Addr) : It :=
  ⟨fun i H => ∃ (xs : List V) (x : V), SqT K H a xs ∧ xs[i]? = some x, fun i H v H' => ∃ T x, v = .ref T ∧ H T = none ∧ H' = upd H T (.tup [.int (i : Nat), x]) ∧ ∀ xs, SqT K H a xs → xs[i]? = some x, fun i H => ∃ xs : List V, SqT K H a xs ∧ xs.length = i⟩
theorem turn_enumT {P : Program} {w : World} {K : PySem.W.Frag} {elts : List Expr} {kk : Nat} {tpos : Pos} (a e it : Addr) :
    Turn P w K (.Tuple elts kk tpos) (Iet K a) [e, it] e (fun i h => (∃ old, IsEnum h e it ((i : Nat) : Int) old) ∧ h.IsTupleIter it a i ∧ e ≠ it) where
  mem := List.mem_cons_self
  obj := fun i h st b hb => by
    obtain ⟨⟨old, he⟩, ⟨o, ho, hc, hd⟩, _⟩ := st
    rcases (show b = e ∨ b = it by simpa using hb) with rfl | rfl
    · exact ⟨_, he, fun v q => nomatch q⟩
    · exact ⟨o, ho, fun v q => by rw [hd] at q; cases q⟩
  keep := fun i h h' st k => by
    obtain ⟨⟨old, he⟩, ⟨o, ho, hcd⟩, hne⟩ := st
    exact ⟨⟨old, k e (by simp) _ he⟩, ⟨o, k it (by simp) _ ho, hcd⟩, hne⟩
  item := by
    intro X hP hw hK hc i pins s σ H E I hf st hg
    subst hP hw hK
    obtain ⟨⟨old, he⟩, hit, hne⟩ := st
    obtain ⟨xs, x, hq, hx⟩ := hg
    obtain ⟨its, rv, p, hz⟩ := I.tuple hq
    obtain ⟨u, hu, ru⟩ := rv.get hx
    have hel : e < s.heap.objs.size := Heap.lt_size he
    have hil : it < s.heap.objs.size := by obtain ⟨_, q, _⟩ := hit; exact Heap.lt_size q
    have pT : s.heap.IsTuple a its.toArray := p
    have hai : a ≠ it := by
      rintro rfl
      obtain ⟨o1, g1, c1, _⟩ := hit
      obtain ⟨o2, g2, c2, _⟩ := pT
      rw [g1] at g2
      cases g2
      rw [c1] at c2
      exact absurd (Value.type.inj c2) (by decide)
    have hea : e ≠ a := by
      rintro rfl
      obtain ⟨o2, g2, c2, _⟩ := pT
      rw [show s.heap.get? e = _ from he] at g2
      cases g2
      exact absurd (Value.type.inj c2) (by decide)
    have D := Draws.tuple (prog := X.prog) (w := X.w) (A := X.A.in1) (show X.A.in1.handled = none from I.ok.hd hc) it a hai its.toArray
    have hilt : i < its.toArray.size := by
      have := (List.getElem?_eq_some_iff.mp hu).1
      simpa using this
    refine wpAny_pyNext_enum_itemD D he ⟨hit, pT⟩ hilt hne (by simp; exact ⟨hne, hea⟩) fun x' h' tk hx' ho hst hT hsz hk => ?_
    have ex : x' = u := by
      have h1 : its.toArray[i]? = some u := by simpa using hu
      rw [h1] at hx'
      exact (Option.some.inj hx').symm
    subst ex
    refine ⟨_, rfl, wpAny_letOwnedTupleGo_enum (s := { s with heap := h', toks := tk + 1 }) ho fun h'' he' sb => ?_⟩
    have hT2 : h''.get? s.heap.objs.size = some { cls := .type "tuple", data := .seq #[.int i tk, x'] } := (sb.2 _ (Nat.ne_of_gt hel)).trans hT
    have fresh : ObjOk X.prog X.w (upd H s.heap.objs.size (.tup [.int (i : Nat), x])) h'' s.heap.objs.size (.tup [.int (i : Nat), x]) := by
      refine ⟨by show 2 ≤ sizeLine; decide, [.int i tk, x'], .cons ⟨_, rfl⟩ (.cons ru .nil), ?_⟩
      exact ⟨_, hT2, rfl, _, rfl⟩
    have kept : ∀ b ob, b ∉ [e, it] → s.heap.get? b = some ob → h''.get? b = some ob := fun b ob hb q => by
      have h1 : b ≠ e := fun z => hb (by simp [z])
      have h2 : b ≠ it := fun z => hb (by simp [z])
      exact (sb.2 b h1).trans (hk b ob h1 h2 q)
    have I1 : Inv X pins σ (upd H s.heap.objs.size (.tup [.int (i : Nat), x])) { s with heap := h'', toks := tk + 1 } := I.turnedNew (ch := [e, it]) kept hf (Nat.le_refl _) fresh
    refine ⟨.ref s.heap.objs.size, _, I1, rfl, ⟨_, x, rfl, I.hok.fresh (Nat.le_refl _), rfl, fun ys hy => by rw [I.tuple_inj hy hq]; exact hx⟩, ⟨⟨x', ?_⟩, ?_, hne⟩, fun b hb => ?_⟩
    · have e1 : ((i + 1 : Nat) : Int) = (i : Int) + 1 := by omega
      rw [e1]
      exact he'
    · obtain ⟨⟨o, g, c⟩, _⟩ := hst
      exact ⟨o, (sb.2 it (Ne.symm hne)).trans g, c⟩
    · have hb' : b < s.heap.objs.size := by
        rcases (show b = e ∨ b = it by simpa using hb) with rfl | rfl
        · exact hel
        · exact hil
      rw [upd_ne (Nat.ne_of_lt hb')]
      exact (hf b hb).1
  done := by
    intro X hP hw hK hc i pins s σ H E I hf st hg
    subst hP hw hK
    obtain ⟨⟨old, he⟩, hit, hne⟩ := st
    obtain ⟨xs, hq, hx⟩ := hg
    obtain ⟨its, rv, p, hz⟩ := I.tuple hq
    obtain ⟨f0, f1, f2, f3, f4, f5⟩ := hf it (by simp)
    have pT : s.heap.IsTuple a its.toArray := p
    have hai : a ≠ it := by
      rintro rfl
      obtain ⟨o1, g1, c1, _⟩ := hit
      obtain ⟨o2, g2, c2, _⟩ := pT
      rw [g1] at g2
      cases g2
      rw [c1] at c2
      exact absurd (Value.type.inj c2) (by decide)
    have D := Draws.tuple (prog := X.prog) (w := X.w) (A := X.A.in1) (show X.A.in1.handled = none from I.ok.hd hc) it a hai its.toArray
    have hn : its.toArray.size = i := by
      have := rv.length
      simp
      omega
    exact wpAny_pyNext_enum_endD D he (by rw [hn]; exact ⟨hit, pT⟩) fun h' eb => ⟨rfl, I.turned (t' := s.toks) (fun b o hb q => eb b o hb q) f0 f1 f3 f4 f5⟩
  self := fun A i s Q E st h => by
    obtain ⟨⟨_, he⟩, _⟩ := st
    exact wpAny_pyIter_enum he h

def iEnumT (K : PySem.W.Frag) (ta : TA) : TI := fun σ H R => ta σ H fun vs H1 => ∃ a xs, vs = [.ref a] ∧ SqT K H1 a xs ∧ R (Iet K a) H1
theorem pi_enumT {X : Cx} {e : Expr} {ta : TA} {p pos tpos : Pos} {elts : List Expr} {kk : Nat} (hg : Gl X "enumerate") (hm : X.mg "enumerate" = none) (ha : PA X [e] ta) (hs : starEach [e] X.env = [(false, eval e X.env)] := by rfl) :
    PI X (.Tuple elts kk tpos) (.Call (.Name "enumerate" p) [e] [] pos) (iEnumT X.K ta) := by
  refine ⟨fun pins s σ H R I h => Call_ (ld_blt I hg hm boot_enumerate (PyProof.Rows.callWith_type1 (thn (ha.run pos pins s σ H _ I h) fun us s1 hq => ?_) hs rfl))⟩
  obtain ⟨vs, H1, I1, r1, a, xs, rfl, hq, q⟩ := hq
  cases r1 with
  | cons r rr =>
    cases rr
    cases r
    obtain ⟨its, rv, p', hz⟩ := I1.tuple hq
    refine enum_of_tuple p' fun h2 he hit hsz hk => wpAny_pyIter_enum he ?_
    have I2 : Inv X pins σ H1 { s1 with heap := h2 } := I1.kept (t' := s1.toks) hk
    refine ⟨s1.heap.objs.size + 1, [s1.heap.objs.size + 1, s1.heap.objs.size], _, _, H1, rfl, I2, turn_enumT a (s1.heap.objs.size + 1) s1.heap.objs.size, ⟨⟨.none, he⟩, hit, Nat.succ_ne_self _⟩, fun b hb => ?_, q⟩
    have hle : s1.heap.objs.size ≤ b := by
      rcases (show b = s1.heap.objs.size + 1 ∨ b = s1.heap.objs.size by simpa using hb) with z | z
      · rw [z]; exact Nat.le_add_right _ _
      · rw [z]; exact Nat.le_refl _
    exact I1.fpOk hle (I1.hok.fresh hle)
theorem walk_enumT {K : PySem.W.Frag} {a : Addr} {xs : List V} : Walk (Iet K a) xs.length (fun H => SqT K H a xs) (YPair (fun i => some (.int (i : Nat))) (fun i => xs[i]?)) := by
  refine ⟨fun i _ hi q => ⟨xs, xs[i], q, by simp [hi]⟩, fun _ q => ⟨xs, q, rfl⟩, fun i H v H' _ q y => ?_⟩
  obtain ⟨T, x, h1, h2, h3, h4⟩ := y
  exact ⟨T, _, x, h1, h2, h3, rfl, h4 xs q⟩
end TS
end
section
set_option Elab.async false
set_option linter.all false
set_option maxRecDepth 100000
set_option maxHeartbeats 4000000
namespace TS
open PySem PySem.Spec PyProof.Rows L2
open Vapaqa (Text Name Tree off isSmall isDigit isSign tText tNum tNull tBool)
open Vapaqf (Head)
local macro_rules | `(tactic| walk_at "v") => `(tactic| repeat (first | refine ⟨_, rfl, ?_⟩ | refine ⟨_, _, rfl, rfl, ?_⟩ | refine ⟨_, _, rfl, ?_⟩))
/-! ### keys -/
def rankH : Head → Int
  | .leaf v => (Vapaqa.rank v : Int) - 1
  | .list => 5
  | .record => 6
def keyVal (F : Hp) (h : Head) (v : V) : Prop := match h with
  | .leaf (.num _ z _) => v = .int z
  | .leaf (.text _ t _) => ∃ b, v = .ref b ∧ TextAt F b t
  | _ => v = .int 0
def KeyAt (F : Hp) (k : Addr) (h : Head) : Prop := ∃ v, F k = some (.tup [.int (rankH h), v]) ∧ keyVal F h v
theorem keyVal.mono {F F' : Hp} {h : Head} {v : V} (s : Same F F') (k : keyVal F h v) : keyVal F' h v := by
  rcases h with (_ | _ | _ | _ | _ | _) | _ | _ <;> first | exact k | (obtain ⟨b, e, t⟩ := k; exact ⟨b, e, s _ _ t⟩)
theorem KeyAt.mono {F F' : Hp} {k : Addr} {h : Head} (s : Same F F') (K : KeyAt F k h) : KeyAt F' k h := by
  obtain ⟨v, e, kv⟩ := K
  exact ⟨v, s _ _ e, kv.mono s⟩
theorem Gr.more {H F H1 H2 : Hp} (s : Same H1 H2) : Same (Gr H F H1) (Gr H F H2) := fun b o e => by
  cases h : H b with
  | none =>
    rw [Gr.new h] at e ⊢
    exact s b o e
  | some u =>
    rw [Gr.old h] at e ⊢
    exact e
def wordN : Nat → Text
  | 0 => wNull
  | 1 => wFalse
  | _ => wTrue
theorem if_cut {c : TT} {t u : TS} {D : Ends} {σ : L2.St} {H : Hp} (R : Bool → Hp → Prop) (h1 : ∀ Q : Bool → Hp → Prop, (∀ b H1, R b H1 → Q b H1) → c σ H Q) (h2 : ∀ H1, R true H1 → t D σ H1) (h3 : ∀ H1, R false H1 → u D σ H1) : tIfS c t u D σ H :=
  h1 _ fun b H1 z => by
    cases b with
    | true => exact h2 H1 z
    | false => exact h3 H1 z
/-- a test by what it gives -/
theorem seq_if {c : TT} {t u r : TS} {D : Ends} {σ : L2.St} {H : Hp} (R : Bool → Hp → Prop) (h1 : ∀ Q : Bool → Hp → Prop, (∀ b H1, R b H1 → Q b H1) → c σ H Q) (h2 : ∀ H1, R true H1 → t { D with nx := r D } σ H1) (h3 : ∀ H1, R false H1 → u { D with nx := r D } σ H1) : tSeq (tIfS c t u) r D σ H :=
  h1 _ fun b H1 z => by
    cases b with
    | true => exact h2 H1 z
    | false => exact h3 H1 z
def leafN : Nat → Vapaqa.Tree
  | 0 => tNull
  | 1 => tBool false
  | _ => tBool true
def spReadLeaf (K : PySem.W.Frag) : Sp := fun vs H Q E => ∃ (F : Hp) (a : Addr) (t : Text) (i : Nat), vs = [.ref a, .int i] ∧ Same F H ∧ TextAt F a t ∧ i ≤ t.length ∧
  (∀ v r, rdLeaf (t.drop i) = some (v, r) → ∀ (H' : Hp) (p k : Addr) (e : Nat), Same H H' → H' p = some (.tup [.ref k, .int e]) → KeyAt (Gr H F H') k (.leaf v) → t.drop e = r → e ≤ t.length → Q (.ref p) H') ∧
  (rdLeaf (t.drop i) = none → ∀ H', Same H H' → E (CW K) none H')
theorem off_drop {w s r : Text} (h : off w s = some r) : r = s.drop w.length ∧ w.length ≤ s.length ∧ w.isPrefixOf s = true := by
  unfold off at h
  split at h
  · rename_i hp
    refine ⟨(Option.some.inj h).symm, ?_, hp⟩
    exact (List.isPrefixOf_iff_prefix.mp hp).length_le
  · cases h
theorem off_none {w s : Text} (h : w.isPrefixOf s = false) : off w s = none := by
  unfold off
  rw [if_neg (by rw [h]; exact Bool.false_ne_true)]
theorem off_some {w s : Text} (h : w.isPrefixOf s = true) : off w s = some (s.drop w.length) := by
  unfold off
  rw [if_pos h]
section
variable {P : Program} {w : World} {K : PySem.W.Frag} {mg : Str → Option Value} {base : Heap}
theorem ok_read_leaf (T : Facts K mg) : OkFn P w K mg base (L2.CX P w) 5 (He.ga K "read_leaf") 2 (spReadLeaf K) := by
  refine mk_fn T.d_read_leaf sc_read_leaf (fun _ _ _ _ _ _ us hl => match us, hl with | [_, _], _ => rfl) (fun vs H Q E h => ?_) (fun cdv A outer s H vs Q E hr h => ?_)
  · obtain ⟨_, _, _, _, rfl, _⟩ := h
    rfl
  · obtain ⟨F, a, t, i, rfl, sF, hF, hi, q1, q2⟩ := h
    have ha : TextAt H a t := sF _ _ hF
    refine ⟨_, (pss_cons (ps_set (i := 2) sc_read_leaf.nd rfl (.inl rfl) (c_fn (ok_byte_at T) (hr.mono (by decide)) rfl T.g_byte_at pass0 (pa_cons (pv 0) (pa_cons (pv 1) pa_nil))))
      (pss_cons (ps_if (pt_cmpR op_eq (pv 2) (pe_num rfl T.i_MARK) (nomark _))
        (pss_cons (ps_asg (c_fn (ok_read_marked T) (hr.mono (by decide)) rfl T.g_read_marked (pX (takes_of rfl rfl rfl rfl)) (pa_cons (pv 0) (pa_cons (pv 1) pa_nil))) (pg_tup rfl (pgs_cons (pg_name (i := 3) sc_read_leaf.nd rfl (.inl rfl)) (pgs_cons (pg_name (i := 4) sc_read_leaf.nd rfl (.inl rfl)) pgs_nil))))
        (pss_one (ps_ret (pe_tup (pa_cons (pe_tup (pa_cons (pe_num rfl T.i_TEXT_RANK) (pa_cons (pv 3) pa_nil))) (pa_cons (pv 4) pa_nil))))))
        pss_nil)
      (pss_cons (ps_if (PW.pt (pw_or (pt_cmpR op_eq (pv 2) (pe_num rfl T.i_MINUS) (nomark _)) (pw_or1 (pt_val (c_fn (ok_digit T) (hr.mono (by decide)) rfl T.g_is_digit pass0 (pa_cons (pv 2) pa_nil))))))
        (pss_cons (ps_asg (c_fn (ok_read_number T) (hr.mono (by decide)) rfl T.g_read_number (pX (takes_of rfl rfl rfl rfl)) (pa_cons (pv 0) (pa_cons (pv 1) (pa_cons (pe_un un_neg (pe_num rfl T.i_BIGGEST)) (pa_cons (pe_num rfl T.i_BIGGEST) pa_nil))))) (pg_tup rfl (pgs_cons (pg_name (i := 5) sc_read_leaf.nd rfl (.inl rfl)) (pgs_cons (pg_name (i := 4) sc_read_leaf.nd rfl (.inl rfl)) pgs_nil))))
        (pss_one (ps_ret (pe_tup (pa_cons (pe_tup (pa_cons (pe_num rfl T.i_NUMBER_RANK) (pa_cons (pv 5) pa_nil))) (pa_cons (pv 4) pa_nil))))))
        pss_nil)
      (pss_cons (ps_for (passes_of rfl) rfl (pi_enumT rfl T.f_enumerate (pa_cons (pe_tup (pa_cons pe_str (pa_cons pe_str (pa_cons pe_str pa_nil)))) pa_nil)) (pg_tup rfl (pgs_cons (pg_name (i := 6) sc_read_leaf.nd rfl (.inl rfl)) (pgs_cons (pg_name (i := 7) sc_read_leaf.nd rfl (.inl rfl)) pgs_nil)))
        (pss_one (ps_if (pt_val (c_fn (ok_starts T) (hr.mono (by decide)) rfl T.g_starts pass0 (pa_cons (pv 0) (pa_cons (pv 1) (pa_cons (pv 7) pa_nil)))))
          (pss_one (ps_ret (pe_tup (pa_cons (pe_tup (pa_cons (pv 6) (pa_cons pe_int pa_nil))) (pa_cons (pe_op op_add (pv 1) (pe_callB call_len_str (by rfl) T.f_len boot_len (pa_cons (pv 7) pa_nil))) pa_nil)))))
          pss_nil)))
      (pss_one (rz_W T rfl rfl (takes_of rfl rfl rfl rfl))))))), ?_⟩
    walk_at "v"
    refine ⟨a, t, i, rfl, ha, ?_⟩
    dsimp only [gName]
    walk_at "v"
    refine ⟨rfl, ?_⟩
    have e34 : decide (V.int (byteAt (t.drop i)) = V.int 34) = ((t.drop i).head? == some 34) := byteAt_eq _ 34
    have e45 : decide (V.int (byteAt (t.drop i)) = V.int 45) = ((t.drop i).head? == some 45) := byteAt_eq _ 45
    rw [e34]
    walk_at "v"
    unfold rdLeaf at q1 q2
    cases h3 : (t.drop i).head? == some 34 with
    | true =>
      have h34 : (t.drop i).head? = some 34 := by simpa using h3
      rw [if_pos h34] at q1 q2
      have hil : i < t.length := by
        cases hs : t.drop i with
        | nil => rw [hs] at h34; cases h34
        | cons b r =>
          have := congrArg List.length hs
          simp at this
          omega
      have etl : (t.drop i).tail = t.drop (i + 1) := by rw [List.tail_drop]
      rw [etl] at q1 q2
      refine iteT ?_
      walk_at "v"
      refine ⟨F, a, t, i, rfl, sF, hF, hil, h34, fun u r hu H' p b e s1 hp hb hd he => ?_, fun hno H' s1 => q2 (by rw [hno]; rfl) H' s1⟩
      refine ⟨p, _, rfl, SqT.of hp, rfl, ?_⟩
      walk_at "v"
      refine ⟨by show 2 ≤ sizeLine; decide, fun k hk => ?_⟩
      walk_at "v"
      refine ⟨by show 2 ≤ sizeLine; decide, fun p2 hp2 => ?_⟩
      have s2 := upd_same_of (o := HO.tup [V.int 4, V.ref b]) hk
      have s3 := upd_same_of (o := HO.tup [V.ref k, V.int (e : Int)]) hp2
      refine q1 (tText u) r (by rw [hu]; rfl) _ p2 k e (s1.trans (s2.trans s3)) upd_same ?_ hd he
      have hkH : H k = none := s1.free hk
      refine ⟨.ref b, ?_, b, rfl, ?_⟩
      · rw [Gr.new hkH, upd_ne (ne_of_none upd_same hp2), upd_same]
        rfl
      · exact Gr.more (s2.trans s3) _ _ hb
    | false =>
      have h34 : ¬ (t.drop i).head? = some 34 := by simpa using h3
      rw [if_neg h34] at q1 q2
      refine iteF ?_
      dsimp only [tNext]
      refine seq_if (R := fun b H1 => H1 = H ∧ b = ((t.drop i).head? == some 45 || (t.drop i).head?.any isDigit)) (fun Q' k => ?_) ?_ ?_
      · walk_at "v"
        refine ⟨rfl, ?_⟩
        rw [e45]
        walk_at "v"
        cases h4 : (t.drop i).head? == some 45 with
        | true => exact k true H ⟨rfl, by rw [h4]; rfl⟩
        | false =>
          walk_at "v"
          rw [digitI_at]
          exact k _ H ⟨rfl, by rw [h4]; rfl⟩
      · rintro _ ⟨rfl, hn⟩
        rw [if_pos hn.symm] at q1 q2
        walk_at "v"
        refine ⟨a, t, i, _, _, rfl, ha, hi, by decide, fun z r hz H' p e s1 hp hd he => ?_, fun hno H' s1 => q2 (by rw [show (-1000000000 : Int) = -1000000000 from rfl] at hno; rw [hno]; rfl) H' s1⟩
        refine ⟨p, _, rfl, SqT.of hp, rfl, ?_⟩
        walk_at "v"
        refine ⟨by show 2 ≤ sizeLine; decide, fun k hk => ?_⟩
        walk_at "v"
        refine ⟨by show 2 ≤ sizeLine; decide, fun p2 hp2 => ?_⟩
        have s2 := upd_same_of (o := HO.tup [V.int 3, V.int z]) hk
        have s3 := upd_same_of (o := HO.tup [V.ref k, V.int (e : Int)]) hp2
        refine q1 (tNum z) r (by rw [hz]; rfl) _ p2 k e (s1.trans (s2.trans s3)) upd_same ⟨.int z, ?_, rfl⟩ hd he
        rw [Gr.new (s1.free hk), upd_ne (ne_of_none upd_same hp2), upd_same]
        rfl
      · rintro H ⟨rfl, hn⟩
        rw [if_neg (by rw [← hn]; exact Bool.false_ne_true)] at q1 q2
        dsimp only [tNext]
        refine ⟨by show 3 ≤ sizeLine; decide, fun p hp => ?_⟩
        refine ⟨p, _, rfl, SqT.of upd_same, ?_⟩
        have s1 := upd_same_of (o := HO.tup [V.str "null", V.str "false", V.str "true"]) hp
        have words : ∀ (j : Nat) (y : V), ([V.str "null", V.str "false", V.str "true"] : List V)[j]? = some y → ∃ x : Str, y = .str x ∧ IsW x (wordN j) ∧ j < 3 := by
          intro j y hy
          match j, hy with
          | 0, hy => exact ⟨_, (Option.some.inj hy).symm, rfl, by omega⟩
          | 1, hy => exact ⟨_, (Option.some.inj hy).symm, rfl, by omega⟩
          | 2, hy => exact ⟨_, (Option.some.inj hy).symm, rfl, by omega⟩
          | j + 3, hy => simp at hy
        refine for_it (walk_enumT (xs := [V.str "null", V.str "false", V.str "true"])) (fun j σ H2 => Same (upd H p (HO.tup [V.str "null", V.str "false", V.str "true"])) H2 ∧ (∀ l, l < j → off (wordN l) (t.drop i) = none) ∧ ∃ u v, σ = [some (.ref a), some (.int i), some (.int (byteAt (t.drop i))), none, none, none, u, v]) ⟨Same.refl _, fun l hl => by omega, none, none, rfl⟩ (fun j σ H2 _ ⟨s2, _⟩ => SqT.of (s2 _ _ upd_same)) ?_ ?_
        · rintro j y σ H2 H3 hj ⟨s2, hno, u, v, rfl⟩ ⟨T2, x2, y2, rfl, hT2, rfl, hx2, hy2⟩
          have hx2' : x2 = .int (j : Nat) := (Option.some.inj hx2).symm
          subst hx2'
          obtain ⟨xw, rfl, hw, hj3⟩ := words j y2 hy2
          refine ⟨T2, _, rfl, SqT.of upd_same, rfl, ?_⟩
          walk_at "v"
          have s3 := upd_same_of (o := HO.tup [V.int (j : Nat), V.str xw]) hT2
          have hlen : (wordN j).length ≤ 1000 := by
            match j with
            | 0 => decide
            | 1 => decide
            | j + 2 => show wTrue.length ≤ 1000; decide
          refine ⟨a, t, i, xw, wordN j, rfl, s3 _ _ (s2 _ _ (s1 _ _ ha)), hw, hlen, hi, fun H4 s4 => ?_⟩
          walk_at "v"
          cases hpre : (wordN j).isPrefixOf (t.drop i) with
          | false => exact ⟨s2.trans (s3.trans s4), fun l hl => by
              rcases Nat.lt_succ_iff_lt_or_eq.mp hl with h | h
              · exact hno l h
              · rw [h]
                exact off_none hpre, _, _, rfl⟩
          | true =>
            walk_at "v"
            refine ⟨by show 2 ≤ sizeLine; decide, fun k hk => ?_⟩
            walk_at "v"
            have hz : xw.length = (wordN j).length := isW_size hw
            refine ⟨by show xw.length ≤ sizeLine; rw [hz, sizeLine_eq]; omega, ?_⟩
            walk_at "v"
            refine ⟨by show 2 ≤ sizeLine; decide, fun p2 hp2 => ?_⟩
            have hoff := off_some hpre
            have hwl : (wordN j).length ≤ (t.drop i).length := (off_drop hoff).2.1
            rw [List.length_drop] at hwl
            have hleaf : (match off wNull (t.drop i) with
                | some r => some (tNull, r)
                | none => match off wFalse (t.drop i) with
                  | some r => some (tBool false, r)
                  | none => (off wTrue (t.drop i)).map fun r => (tBool true, r)) = some (leafN j, (t.drop i).drop (wordN j).length) := by
              match j, hj3, hno, hoff with
              | 0, _, _, hoff =>
                rw [show off wNull (t.drop i) = _ from hoff]
                rfl
              | 1, _, hno, hoff =>
                rw [show off wNull (t.drop i) = none from hno 0 (by omega), show off wFalse (t.drop i) = _ from hoff]
                rfl
              | 2, _, hno, hoff =>
                rw [show off wNull (t.drop i) = none from hno 0 (by omega), show off wFalse (t.drop i) = none from hno 1 (by omega), show off wTrue (t.drop i) = _ from hoff]
                rfl
              | j + 3, h, _, _ => omega
            have ee : ((i : Int) + (xw.length : Int)) = ((i + (wordN j).length : Nat) : Int) := by rw [hz]; omega
            have s5 := upd_same_of (o := HO.tup [V.int (j : Nat), V.int 0]) hk
            have s6 := upd_same_of (o := HO.tup [V.ref k, V.int ((i : Int) + (xw.length : Int))]) hp2
            have sall := s1.trans (s2.trans (s3.trans (s4.trans (s5.trans s6))))
            refine q1 (leafN j) ((t.drop i).drop (wordN j).length) hleaf _ p2 k (i + (wordN j).length) sall ?_ ?_ (by rw [List.drop_drop]) (by omega)
            · rw [← ee]
              exact upd_same
            · have hkH : H k = none := (s1.trans (s2.trans (s3.trans s4))).free hk
              refine ⟨.int 0, ?_, ?_⟩
              · rw [Gr.new hkH, upd_ne (ne_of_none upd_same hp2), upd_same]
                match j, hj3 with
                | 0, _ => rfl
                | 1, _ => rfl
                | 2, _ => rfl
                | j + 3, h => omega
              · match j, hj3 with
                | 0, _ => rfl
                | 1, _ => rfl
                | 2, _ => rfl
                | j + 3, h => omega
        · rintro σ H2 ⟨s2, hno, u, v, rfl⟩
          refine q2 ?_ _ (s1.trans s2)
          rw [show off wNull (t.drop i) = none from hno 0 (by decide), show off wFalse (t.drop i) = none from hno 1 (by decide), show off wTrue (t.drop i) = none from hno 2 (by decide)]
          rfl
end
end TS
end
section
set_option Elab.async false
set_option linter.all false
set_option maxRecDepth 100000
set_option maxHeartbeats 4000000
namespace TS
open PySem PySem.Spec PyProof.Rows L2
open Vapaqa (Text Name off isSmall isDigit isSign tText tNum tNull tBool)
open Vapaqf (Head Token tokenText)
local macro_rules | `(tactic| walk_at "v") => `(tactic| repeat (first | refine ⟨_, rfl, ?_⟩ | refine ⟨_, _, rfl, rfl, ?_⟩ | refine ⟨_, _, rfl, ?_⟩))
local macro_rules | `(tactic| walk_at "few") => `(tactic| first | decide | (show 0 < 1000; decide) | (show 1 < 1000; decide) | (show 2 < 1000; decide) | (show 3 < 1000; decide) | (show 4 < 1000; decide) | (show 5 < 1000; decide) | (show 6 < 1000; decide))
/-! ### tokens in the heap -/
def InsAt (K : PySem.W.Frag) (H : Hp) (C : Str) (a : Addr) (fs : List (Str × V)) : Prop := ∃ dx, H a = some (.ins (He.ga K C) dx fs)
theorem InsAt.mono {K : PySem.W.Frag} {H H' : Hp} {C : Str} {a : Addr} {fs : List (Str × V)} (s : Same H H') (h : InsAt K H C a fs) : InsAt K H' C a fs := by
  obtain ⟨dx, e⟩ := h
  exact ⟨dx, s _ _ e⟩
def kindN : Token → Int
  | .leaf _ => 0
  | .openList => 1
  | .openRecord => 2
  | .name _ => 3
  | .close true => 4
  | .close false => 5
def KeyV (F : Hp) (kv : V) (t : Token) : Prop := if begins t = true then ∃ k, kv = .ref k ∧ KeyAt F k (headOf t) else kv = .non
def NameV (F : Hp) (nv : V) (t : Token) : Prop := match t with
  | .name n => ∃ b, nv = .ref b ∧ TextAt F b n
  | _ => nv = .non
def tokF (t : Token) (tx : Addr) (kv nv : V) : List (Str × V) := [("kind", .int (kindN t)), ("text", .ref tx), ("key", kv), ("name", nv)]
def TokAt (K : PySem.W.Frag) (F : Hp) (a : Addr) (t : Token) : Prop := ∃ tx kv nv, InsAt K F "Token" a (tokF t tx kv nv) ∧ TextAt F tx (tokenText t) ∧ KeyV F kv t ∧ NameV F nv t
theorem KeyV.mono {F F' : Hp} {kv : V} {t : Token} (s : Same F F') (h : KeyV F kv t) : KeyV F' kv t := by
  unfold KeyV at h ⊢
  split at h
  · rename_i hb
    obtain ⟨k, e, ka⟩ := h
    rw [if_pos hb]
    exact ⟨k, e, ka.mono s⟩
  · rename_i hb
    rw [if_neg hb]
    exact h
theorem NameV.mono {F F' : Hp} {nv : V} {t : Token} (s : Same F F') (h : NameV F nv t) : NameV F' nv t := by
  cases t <;> first | exact h | (obtain ⟨b, e, ta⟩ := h; exact ⟨b, e, s _ _ ta⟩)
theorem TokAt.mono {K : PySem.W.Frag} {F F' : Hp} {a : Addr} {t : Token} (s : Same F F') (h : TokAt K F a t) : TokAt K F' a t := by
  obtain ⟨tx, kv, nv, h1, h2, h3, h4⟩ := h
  exact ⟨tx, kv, nv, h1.mono s, s _ _ h2, h3.mono s, h4.mono s⟩
def spTokenInit (K : PySem.W.Frag) : Sp := fun vs H Q _ => ∃ (p dx : Addr) (k t ky nm : V), vs = [.ref p, k, t, ky, nm] ∧ H p = some (.ins (He.ga K "Token") dx []) ∧
  ∀ H' : Hp, H' p = some (.ins (He.ga K "Token") dx [("kind", k), ("text", t), ("key", ky), ("name", nm)]) → (∀ b o, H b = some o → b ≠ p → H' b = some o) → Q .non H'
def spBegins (K : PySem.W.Frag) : Sp := fun vs H Q _ => ∃ (F : Hp) (a : Addr) (t : Token), vs = [.ref a] ∧ Same F H ∧ TokAt K F a t ∧ ∀ H', Same H H' → Q (.bl (begins t)) H'
/-- what a reader of tokens gives: a new pair of the token and the place behind it -/
def spReadTok (K : PySem.W.Frag) (rd : Text → Option (Token × Text)) (ok : Text → Prop) : Sp := fun vs H Q E => ∃ (F : Hp) (a : Addr) (t : Text) (i : Nat), vs = [.ref a, .int i] ∧ Same F H ∧ TextAt F a t ∧ i ≤ t.length ∧ ok (t.drop i) ∧
  (∀ v r, rd (t.drop i) = some (v, r) → ∀ (H' : Hp) (p k : Addr) (e : Nat), Same H H' → H' p = some (.tup [.ref k, .int e]) → TokAt K (Gr H F H') k v → t.drop e = r → e ≤ t.length → Q (.ref p) H') ∧
  (rd (t.drop i) = none → ∀ H', Same H H' → E (CW K) none H')
def spSeesEnd (K : PySem.W.Frag) : Sp := fun vs H Q _ => ∃ (a : Addr) (t : Text) (i : Nat), vs = [.ref a, .int i] ∧ TextAt H a t ∧ i ≤ t.length ∧ ∀ H', Same H H' → Q (.bl (seesEnd (t.drop i))) H'
theorem off_isSome {w s : Text} : (off w s).isSome = w.isPrefixOf s := by
  cases h : w.isPrefixOf s with
  | true => rw [off_some h]; rfl
  | false => rw [off_none h]; rfl
theorem drop_len {t r : Text} {e : Nat} (h : t.drop e = r) (he : e ≤ t.length) : e = t.length - r.length := by
  have := congrArg List.length h
  simp at this
  omega
/-- the text from i on, up to where the rest begins -/
theorem cut_of {t u r : Text} {i e : Nat} (h : t.drop i = u ++ r) (hi : i ≤ t.length) (hd : t.drop e = r) (he : e ≤ t.length) : i ≤ e ∧ (t.drop i).take (e - i) = u ∧ e = i + u.length := by
  have h1 := congrArg List.length h
  have h2 := drop_len hd he
  simp at h1
  refine ⟨by omega, ?_, by omega⟩
  rw [h, show e - i = u.length by omega]
  simp
section
variable {P : Program} {w : World} {K : PySem.W.Frag} {mg : Str → Option Value} {base : Heap}
theorem ok_Token_init (T : Facts K mg) : OkFn P w K mg base CX0 1 (He.ma K (He.ga K "Token") "__init__") 5 (spTokenInit K) := by
  refine mk_fn T.d_Token_init sc_Token_init (fun _ _ _ _ _ _ us hl => match us, hl with | [_, _, _, _, _], _ => rfl) (fun vs H Q E h => ?_) (fun cdv A outer s H vs Q E hr h => ?_)
  · obtain ⟨_, _, _, _, _, _, rfl, _⟩ := h
    rfl
  · obtain ⟨p, dx, k, t, ky, nm, rfl, hp, q⟩ := h
    refine ⟨_, PSs.nox (pss_cons (ps_fld (pv 0) (pv 1) rfl)
      (pss_cons (ps_fld (pv 0) (pv 2) rfl)
      (pss_cons (ps_fld (pv 0) (pv 3) rfl)
      (pss_one (ps_fld (pv 0) (pv 4) rfl))))), ?_⟩
    refine ⟨_, rfl, _, rfl, _, _, _, _, rfl, hp, T.c_Token, T.n_Token_kind, by walk_at "few", ?_⟩
    refine ⟨_, rfl, _, rfl, _, _, _, _, rfl, upd_same, T.c_Token, T.n_Token_text, by walk_at "few", ?_⟩
    refine ⟨_, rfl, _, rfl, _, _, _, _, rfl, upd_same, T.c_Token, T.n_Token_key, by walk_at "few", ?_⟩
    refine ⟨_, rfl, _, rfl, _, _, _, _, rfl, upd_same, T.c_Token, T.n_Token_name, by walk_at "few", ?_⟩
    exact q _ upd_same fun b o e hb => by
      rw [upd_ne hb, upd_ne hb, upd_ne hb, upd_ne hb]
      exact e
theorem ok_Token_begins_tree (T : Facts K mg) : OkFn P w K mg base CX0 1 (He.ma K (He.ga K "Token") "begins_tree") 1 (spBegins K) := by
  refine mk_fn T.d_Token_begins_tree sc_Token_begins_tree (fun _ _ _ _ _ _ us hl => match us, hl with | [_], _ => rfl) (fun vs H Q E h => ?_) (fun cdv A outer s H vs Q E hr h => ?_)
  · obtain ⟨_, _, _, rfl, _⟩ := h
    rfl
  · obtain ⟨F, a, t, rfl, sF, ⟨tx, kv, nv, ⟨dx, hi⟩, _⟩, q⟩ := h
    refine ⟨_, PSs.nox (pss_one (ps_ret (pe_cmpR op_in_seq (pe_fld (pv 0) rfl) (pe_tup (pa_cons (pe_num rfl T.i_LEAF) (pa_cons (pe_num rfl T.i_LIST) (pa_cons (pe_num rfl T.i_RECORD) pa_nil)))) (by rfl)))), ?_⟩
    refine ⟨_, rfl, _, _, _, _, _, rfl, sF _ _ hi, T.c_Token, T.n_Token_kind, rfl, by show 3 ≤ sizeLine; decide, fun p hp => ?_⟩
    refine ⟨p, _, rfl, .inr (SqT.of upd_same), rfl, rfl, ?_⟩
    have e : inV (V.int (kindN t)) [V.int 0, V.int 1, V.int 2] = begins t := by
      cases t with
      | close l => cases l <;> rfl
      | leaf v => rfl
      | openList => rfl
      | openRecord => rfl
      | name n => rfl
    show Q (.bl (inV (V.int (kindN t)) [V.int 0, V.int 1, V.int 2])) _
    rw [e]
    exact q _ (upd_same_of hp)
theorem ok_sees_end (T : Facts K mg) : OkFn P w K mg base CX0 3 (He.ga K "sees_end") 2 (spSeesEnd K) := by
  refine mk_fn T.d_sees_end sc_sees_end (fun _ _ _ _ _ _ us hl => match us, hl with | [_, _], _ => rfl) (fun vs H Q E h => ?_) (fun cdv A outer s H vs Q E hr h => ?_)
  · obtain ⟨_, _, _, rfl, _⟩ := h
    rfl
  · obtain ⟨a, t, i, rfl, ha, hi, q⟩ := h
    refine ⟨_, PSs.nox (pss_one (ps_ret (pe_or (c_fn (ok_starts T) (hr.mono (by decide)) rfl T.g_starts pass0 (pa_cons (pv 0) (pa_cons (pv 1) (pa_cons pe_str pa_nil)))) (pe_one (c_fn (ok_starts T) (hr.mono (by decide)) rfl T.g_starts pass0 (pa_cons (pv 0) (pa_cons (pv 1) (pa_cons pe_str pa_nil)))))))), ?_⟩
    walk_at "v"
    refine ⟨a, t, i, _, [93], rfl, ha, rfl, by decide, hi, fun H1 s1 => ?_⟩
    walk_at "v"
    unfold seesEnd at q
    rw [off_isSome, off_isSome] at q
    cases h1 : ([93] : Text).isPrefixOf (t.drop i) with
    | true =>
      rw [h1] at q
      exact q _ s1
    | false =>
      rw [h1, Bool.false_or] at q
      walk_at "v"
      exact ⟨a, t, i, _, [125], rfl, s1 _ _ ha, rfl, by decide, hi, fun H2 s2 => q _ (s1.trans s2)⟩
end
end TS
end
section
set_option Elab.async false
set_option linter.all false
set_option maxRecDepth 100000
set_option maxHeartbeats 4000000
namespace TS
open PySem PySem.Spec PyProof.Rows L2
open Vapaqa (Text Name off isSmall isDigit isSign tText tNum tNull tBool)
open Vapaqf (Head Token tokenText)
local macro_rules | `(tactic| walk_at "v") => `(tactic| repeat (first | refine ⟨_, rfl, ?_⟩ | refine ⟨_, _, rfl, rfl, ?_⟩ | refine ⟨_, _, rfl, ?_⟩))
theorem tok_new {K : PySem.W.Frag} {H F H' : Hp} {x dx tx : Addr} {kv nv : V} {t : Token} (hx : H x = none) (hi : H' x = some (.ins (He.ga K "Token") dx (tokF t tx kv nv))) (h1 : TextAt (Gr H F H') tx (tokenText t)) (h2 : KeyV (Gr H F H') kv t) (h3 : NameV (Gr H F H') nv t) : TokAt K (Gr H F H') x t :=
  ⟨tx, kv, nv, ⟨dx, by rw [Gr.new hx]; exact hi⟩, h1, h2, h3⟩
theorem one_byte {s : Text} {c : UInt8} {r : Text} (h : off [c] s = some r) : s = c :: r := off_eq h
section
variable {P : Program} {w : World} {K : PySem.W.Frag} {mg : Str → Option Value} {base : Heap}
theorem ok_read_name_token (T : Facts K mg) : OkFn P w K mg base (L2.CX P w) 4 (He.ga K "read_name_token") 2 (spReadTok K rdNameTok fun _ => True) := by
  refine mk_fn T.d_read_name_token sc_read_name_token (fun _ _ _ _ _ _ us hl => match us, hl with | [_, _], _ => rfl) (fun vs H Q E h => ?_) (fun cdv A outer s H vs Q E hr h => ?_)
  · obtain ⟨_, _, _, _, rfl, _⟩ := h
    rfl
  · obtain ⟨F, a, t, i, rfl, sF, hF, hi, -, q1, q2⟩ := h
    have ha : TextAt H a t := sF _ _ hF
    refine ⟨_, (pss_cons (ps_asg (c_fn (ok_read_name T) (hr.mono (by decide)) rfl T.g_read_name (pX (takes_of rfl rfl rfl rfl)) (pa_cons (pv 0) (pa_cons (pv 1) pa_nil))) (pg_tup rfl (pgs_cons (pg_name (i := 2) sc_read_name_token.nd rfl (.inl rfl)) (pgs_cons (pg_name (i := 3) sc_read_name_token.nd rfl (.inl rfl)) pgs_nil))))
      (pss_cons (ps_set (i := 3) sc_read_name_token.nd rfl (.inl rfl) (c_fn (ok_behind T) (hr.mono (by decide)) rfl T.g_behind (pX (takes_of rfl rfl rfl rfl)) (pa_cons (pv 0) (pa_cons (pv 3) (pa_cons pe_str pa_nil)))))
      (pss_one (ps_ret (pe_tup (pa_cons (c_make T.k_Token (ok_Token_init T) (hr.mono (by decide)) rfl T.g_Token pass0 (pa_cons (pe_num rfl T.i_NAME) (pa_cons (pe_slice sl_list (pv 0) (po_some (pv 1)) (po_some (pv 3))) (pa_cons pe_non (pa_cons (pv 2) pa_nil))))) (pa_cons (pv 3) pa_nil))))))), ?_⟩
    walk_at "v"
    refine ⟨F, a, t, i, rfl, sF, hF, hi, fun n r hn H1 p b e s1 hp hb hd he => ?_, fun hno H1 s1 => q2 (by unfold rdNameTok; rw [hno]; rfl) H1 s1⟩
    refine ⟨p, _, rfl, SqT.of hp, rfl, ?_⟩
    walk_at "v"
    refine ⟨a, t, e, _, [58], rfl, s1 _ _ ha, rfl, by decide, he, fun r2 hr2 H2 s2 => ?_, fun hno H2 s2 => ?_⟩
    rotate_left
    · refine q2 ?_ _ (s1.trans s2)
      unfold rdNameTok
      rw [hn]
      rw [hd] at hno
      simp [hno]
    rw [hd] at hr2
    obtain ⟨hs, hname⟩ := rdName_sound hn
    have hs2 := off_eq hr2
    have hd2 : t.drop (e + 1) = r2 := by
      rw [← List.drop_drop, hd, hs2]
      rfl
    have hel : e + 1 ≤ t.length := by
      have := congrArg List.length hd
      rw [hs2] at this
      simp at this
      omega
    obtain ⟨c1, c2, c3⟩ := cut_of (u := n ++ [58]) (r := r2) (by rw [hs, hs2, List.append_assoc]) hi hd2 hel
    walk_at "v"
    refine ⟨a, bs t, rfl, SqL.of (s2 _ _ (s1 _ _ ha)), fun tx htx => ?_⟩
    have ecut : cutV (bs t) (some (i : Int)) (some ((e + 1 : Nat) : Int)) = bs (n ++ [58]) := by rw [cutV_bs t i (e + 1) hi hel, c2]
    rw [show (([58] : Text).length) = 1 from rfl, ecut]
    walk_at "v"
    intro x dx hx hdx hne
    refine ⟨x, dx, _, _, _, _, rfl, upd_same, fun H3 hi3 k3 => ⟨rfl, ?_⟩⟩
    have s3 := upd_same_of (o := HO.lst (bs (n ++ [58]))) htx
    have s4 : Same _ H3 := Same.made hx hdx k3
    walk_at "v"
    refine ⟨by show 2 ≤ sizeLine; decide, fun p2 hp2 => ?_⟩
    have s5 := upd_same_of (o := HO.tup [V.ref x, V.int ((e + 1 : Nat) : Int)]) hp2
    have sa := s1.trans s2
    refine q1 (.name n) r2 (by unfold rdNameTok; rw [hn]; simp [hr2]) _ p2 x (e + 1) (sa.trans (s3.trans (s4.trans s5))) upd_same ?_ hd2 hel
    refine tok_new (kv := .non) (nv := .ref b) (tx := tx) ((sa.trans s3).free hx) (s5 _ _ hi3) ?_ rfl ⟨b, rfl, ?_⟩
    · show Gr _ _ _ tx = _
      rw [Gr.new (sa.free htx)]
      exact s5 _ _ (s4 _ _ upd_same)
    · exact Gr.more (s2.trans (s3.trans (s4.trans s5))) _ _ hb
theorem cut_one {t : Text} {i : Nat} {c : UInt8} (hi : i ≤ t.length) (h : ([c] : Text).isPrefixOf (t.drop i) = true) : i + 1 ≤ t.length ∧ cutV (bs t) (some (i : Int)) (some ((i : Int) + 1)) = bs [c] ∧ off [c] (t.drop i) = some (t.drop (i + 1)) := by
  have h1 := off_some h
  have h2 := off_eq h1
  have h3 := congrArg List.length h2
  simp at h3
  have hl : i + 1 ≤ t.length := by omega
  refine ⟨hl, ?_, ?_⟩
  · have := cutV_bs t i (i + 1) hi hl
    rw [show ((i : Int) + 1) = ((i + 1 : Nat) : Int) by omega, this, h2, show i + 1 - i = 1 by omega]
    rfl
  · rw [h1, List.drop_drop]
    rfl
theorem ok_read_head (T : Facts K mg) : OkFn P w K mg base (L2.CX P w) 6 (He.ga K "read_head") 2 (spReadTok K rdHead fun _ => True) := by
  refine mk_fn T.d_read_head sc_read_head (fun _ _ _ _ _ _ us hl => match us, hl with | [_, _], _ => rfl) (fun vs H Q E h => ?_) (fun cdv A outer s H vs Q E hr h => ?_)
  · obtain ⟨_, _, _, _, rfl, _⟩ := h
    rfl
  · obtain ⟨F, a, t, i, rfl, sF, hF, hi, -, q1, q2⟩ := h
    have ha : TextAt H a t := sF _ _ hF
    refine ⟨_, (pss_cons (ps_if (pt_val (c_fn (ok_starts T) (hr.mono (by decide)) rfl T.g_starts pass0 (pa_cons (pv 0) (pa_cons (pv 1) (pa_cons pe_str pa_nil)))))
        (pss_one (ps_ret (pe_tup (pa_cons (c_make T.k_Token (ok_Token_init T) (hr.mono (by decide)) rfl T.g_Token pass0 (pa_cons (pe_num rfl T.i_LIST) (pa_cons (pe_slice sl_list (pv 0) (po_some (pv 1)) (po_some (pe_op op_add (pv 1) pe_int))) (pa_cons (pe_tup (pa_cons (pe_num rfl T.i_LIST_RANK) (pa_cons pe_int pa_nil))) (pa_cons pe_non pa_nil))))) (pa_cons (pe_op op_add (pv 1) pe_int) pa_nil)))))
        pss_nil)
      (pss_cons (ps_if (pt_val (c_fn (ok_starts T) (hr.mono (by decide)) rfl T.g_starts pass0 (pa_cons (pv 0) (pa_cons (pv 1) (pa_cons pe_str pa_nil)))))
        (pss_one (ps_ret (pe_tup (pa_cons (c_make T.k_Token (ok_Token_init T) (hr.mono (by decide)) rfl T.g_Token pass0 (pa_cons (pe_num rfl T.i_RECORD) (pa_cons (pe_slice sl_list (pv 0) (po_some (pv 1)) (po_some (pe_op op_add (pv 1) pe_int))) (pa_cons (pe_tup (pa_cons (pe_num rfl T.i_RECORD_RANK) (pa_cons pe_int pa_nil))) (pa_cons pe_non pa_nil))))) (pa_cons (pe_op op_add (pv 1) pe_int) pa_nil)))))
        pss_nil)
      (pss_cons (ps_asg (c_fn (ok_read_leaf T) (hr.mono (by decide)) rfl T.g_read_leaf (pX (takes_of rfl rfl rfl rfl)) (pa_cons (pv 0) (pa_cons (pv 1) pa_nil))) (pg_tup rfl (pgs_cons (pg_name (i := 2) sc_read_head.nd rfl (.inl rfl)) (pgs_cons (pg_name (i := 3) sc_read_head.nd rfl (.inl rfl)) pgs_nil))))
      (pss_one (ps_ret (pe_tup (pa_cons (c_make T.k_Token (ok_Token_init T) (hr.mono (by decide)) rfl T.g_Token pass0 (pa_cons (pe_num rfl T.i_LEAF) (pa_cons (pe_slice sl_list (pv 0) (po_some (pv 1)) (po_some (pv 3))) (pa_cons (pv 2) (pa_cons pe_non pa_nil))))) (pa_cons (pv 3) pa_nil)))))))), ?_⟩
    walk_at "v"
    refine ⟨a, t, i, _, [91], rfl, ha, rfl, by decide, hi, fun H1 s1 => ?_⟩
    walk_at "v"
    unfold rdHead at q1 q2
    cases h1 : ([91] : Text).isPrefixOf (t.drop i) with
    | true =>
      obtain ⟨hl, hcut, hoff⟩ := cut_one hi h1
      rw [hoff] at q1
      walk_at "v"
      refine ⟨a, bs t, rfl, SqL.of (s1 _ _ ha), fun tx htx => ?_⟩
      rw [hcut]
      walk_at "v"
      refine ⟨by show 2 ≤ sizeLine; decide, fun k hk => ?_⟩
      intro x dx hx hdx hne
      refine ⟨x, dx, _, _, _, _, rfl, upd_same, fun H3 hi3 k3 => ⟨rfl, ?_⟩⟩
      have s3 := upd_same_of (o := HO.lst (bs [91])) htx
      have sk := upd_same_of (o := HO.tup [V.int 5, V.int 0]) hk
      have s4 : Same _ H3 := Same.made hx hdx k3
      walk_at "v"
      refine ⟨by show 2 ≤ sizeLine; decide, fun p2 hp2 => ?_⟩
      have s5 := upd_same_of (o := HO.tup [V.ref x, V.int ((i : Int) + 1)]) hp2
      refine q1 .openList (t.drop (i + 1)) rfl _ p2 x (i + 1) (s1.trans (s3.trans (sk.trans (s4.trans s5)))) ?_ ?_ rfl hl
      · rw [show ((i + 1 : Nat) : Int) = (i : Int) + 1 by omega]
        exact upd_same
      · refine tok_new (kv := .ref k) (nv := .non) (tx := tx) ((s1.trans (s3.trans sk)).free hx) (s5 _ _ hi3) ?_ ⟨k, rfl, .int 0, ?_, rfl⟩ rfl
        · show Gr _ _ _ tx = _
          rw [Gr.new (s1.free htx)]
          exact s5 _ _ (s4 _ _ (sk _ _ upd_same))
        · rw [Gr.new ((s1.trans s3).free hk)]
          exact s5 _ _ (s4 _ _ upd_same)
    | false =>
      rw [off_none h1] at q1 q2
      refine iteF ?_
      walk_at "v"
      refine ⟨a, t, i, _, [123], rfl, s1 _ _ ha, rfl, by decide, hi, fun H2 s2 => ?_⟩
      walk_at "v"
      cases h2 : ([123] : Text).isPrefixOf (t.drop i) with
      | true =>
        obtain ⟨hl, hcut, hoff⟩ := cut_one hi h2
        rw [hoff] at q1
        walk_at "v"
        refine ⟨a, bs t, rfl, SqL.of (s2 _ _ (s1 _ _ ha)), fun tx htx => ?_⟩
        rw [hcut]
        walk_at "v"
        refine ⟨by show 2 ≤ sizeLine; decide, fun k hk => ?_⟩
        intro x dx hx hdx hne
        refine ⟨x, dx, _, _, _, _, rfl, upd_same, fun H3 hi3 k3 => ⟨rfl, ?_⟩⟩
        have s3 := upd_same_of (o := HO.lst (bs [123])) htx
        have sk := upd_same_of (o := HO.tup [V.int 6, V.int 0]) hk
        have s4 : Same _ H3 := Same.made hx hdx k3
        walk_at "v"
        refine ⟨by show 2 ≤ sizeLine; decide, fun p2 hp2 => ?_⟩
        have s5 := upd_same_of (o := HO.tup [V.ref x, V.int ((i : Int) + 1)]) hp2
        have s0 := s1.trans s2
        refine q1 .openRecord (t.drop (i + 1)) rfl _ p2 x (i + 1) (s0.trans (s3.trans (sk.trans (s4.trans s5)))) ?_ ?_ rfl hl
        · rw [show ((i + 1 : Nat) : Int) = (i : Int) + 1 by omega]
          exact upd_same
        · refine tok_new (kv := .ref k) (nv := .non) (tx := tx) ((s0.trans (s3.trans sk)).free hx) (s5 _ _ hi3) ?_ ⟨k, rfl, .int 0, ?_, rfl⟩ rfl
          · show Gr _ _ _ tx = _
            rw [Gr.new (s0.free htx)]
            exact s5 _ _ (s4 _ _ (sk _ _ upd_same))
          · rw [Gr.new ((s0.trans s3).free hk)]
            exact s5 _ _ (s4 _ _ upd_same)
      | false =>
        rw [off_none h2] at q1 q2
        refine iteF ?_
        walk_at "v"
        have s0 := s1.trans s2
        refine ⟨Gr H F H2, a, t, i, rfl, Gr.down' sF s0, Gr.up sF _ _ _ hF, hi, fun v r hv H3 p k e s3 hp hk hd he => ?_, fun hno H3 s3 => q2 (by rw [hno]; rfl) H3 (s0.trans s3)⟩
        refine ⟨p, _, rfl, SqT.of hp, rfl, ?_⟩
        obtain ⟨hsv, hleaf⟩ := rdLeaf_sound hv
        obtain ⟨c1, c2, c3⟩ := cut_of hsv hi hd he
        walk_at "v"
        refine ⟨a, bs t, rfl, SqL.of (s3 _ _ (s0 _ _ ha)), fun tx htx => ?_⟩
        rw [cutV_bs t i e hi he, c2]
        walk_at "v"
        intro x dx hx hdx hne
        refine ⟨x, dx, _, _, _, _, rfl, upd_same, fun H4 hi4 k4 => ⟨rfl, ?_⟩⟩
        have s5 := upd_same_of (o := HO.lst (bs (Vapaqa.treeText v))) htx
        have s6 : Same _ H4 := Same.made hx hdx k4
        walk_at "v"
        refine ⟨by show 2 ≤ sizeLine; decide, fun p2 hp2 => ?_⟩
        have s7 := upd_same_of (o := HO.tup [V.ref x, V.int (e : Int)]) hp2
        have sa := s0.trans s3
        refine q1 (.leaf v) r (by rw [hv]; rfl) _ p2 x e (sa.trans (s5.trans (s6.trans s7))) upd_same ?_ hd he
        refine tok_new (kv := .ref k) (nv := .non) (tx := tx) ((sa.trans s5).free hx) (s7 _ _ hi4) ?_ ⟨k, rfl, ?_⟩ rfl
        · show Gr _ _ _ tx = _
          rw [Gr.new (sa.free htx)]
          exact s7 _ _ (s6 _ _ upd_same)
        · exact (hk.mono (Gr.trans' s0 s3)).mono (Gr.more (s5.trans (s6.trans s7)))
end
end TS
end
section
set_option Elab.async false
set_option linter.all false
set_option maxRecDepth 100000
set_option maxHeartbeats 4000000
namespace TS
open PySem PySem.Spec PyProof.Rows L2
open Vapaqa (Text Name off isSmall isDigit isSign tText tNum tNull tBool)
open Vapaqf (Head Token tokenText)
local macro_rules | `(tactic| walk_at "v") => `(tactic| repeat (first | refine ⟨_, rfl, ?_⟩ | refine ⟨_, _, rfl, rfl, ?_⟩ | refine ⟨_, _, rfl, ?_⟩))
def spTokenOf (K : PySem.W.Frag) : Sp := fun vs H Q E => ∃ (F : Hp) (a : Addr) (t : Text), vs = [.ref a] ∧ Same F H ∧ TextAt F a t ∧
  (∀ v, tokOf t = some v → ∀ (H' : Hp) (k : Addr), Same H H' → TokAt K (Gr H F H') k v → Q (.ref k) H') ∧
  (tokOf t = none → ∀ H', Same H H' → E (CW K) none H')
theorem last_at {t : Text} (h : t ≠ []) : ∃ u c, t = u ++ [c] ∧ t.getLast? = some c ∧ atI (bs t) (-1) = some (V.int (c.toNat : Int)) := by
  rcases List.eq_nil_or_concat t with rfl | ⟨u, c, rfl⟩
  · exact absurd rfl h
  · rw [List.concat_eq_append]
    refine ⟨u, c, rfl, by simp, ?_⟩
    have : bs (u ++ [c]) = bs u ++ [V.int (c.toNat : Int)] := by simp [bs]
    rw [this]
    exact atI_last _ _
theorem dec_byte {c : UInt8} {n : Nat} (hn : n < 256) : decide (V.int (c.toNat : Int) = V.int (n : Int)) = (some c == some (UInt8.ofNat n)) := by
  by_cases h : c = UInt8.ofNat n
  · subst h
    have : (UInt8.ofNat n).toNat = n := by simp; omega
    rw [this]
    simp
  · have h2 : c.toNat ≠ n := toNat_ne hn h
    have h3 : ¬ (V.int (c.toNat : Int) = V.int (n : Int)) := fun z => h2 (by have := V.int.inj z; omega)
    rw [decide_eq_false h3]
    simp [h]
section
variable {P : Program} {w : World} {K : PySem.W.Frag} {mg : Str → Option Value} {base : Heap}
theorem ok_read_end (T : Facts K mg) : OkFn P w K mg base CX0 3 (He.ga K "read_end") 2 (spReadTok K (fun s => some (rdEnd s)) fun s => seesEnd s = true) := by
  refine mk_fn T.d_read_end sc_read_end (fun _ _ _ _ _ _ us hl => match us, hl with | [_, _], _ => rfl) (fun vs H Q E h => ?_) (fun cdv A outer s H vs Q E hr h => ?_)
  · obtain ⟨_, _, _, _, rfl, _⟩ := h
    rfl
  · obtain ⟨F, a, t, i, rfl, sF, hF, hi, hok, q1, -⟩ := h
    have ha : TextAt H a t := sF _ _ hF
    refine ⟨_, PSs.nox (pss_cons (ps_set (i := 2) sc_read_end.nd rfl (.inl rfl) (pe_ifExp (pt_val (c_fn (ok_starts T) (hr.mono (by decide)) rfl T.g_starts pass0 (pa_cons (pv 0) (pa_cons (pv 1) (pa_cons pe_str pa_nil))))) (pe_num rfl T.i_LIST_END) (pe_num rfl T.i_RECORD_END)))
      (pss_one (ps_ret (pe_tup (pa_cons (c_make T.k_Token (ok_Token_init T) (hr.mono (by decide)) rfl T.g_Token pass0 (pa_cons (pv 2) (pa_cons (pe_slice sl_list (pv 0) (po_some (pv 1)) (po_some (pe_op op_add (pv 1) pe_int))) (pa_cons pe_non (pa_cons pe_non pa_nil))))) (pa_cons (pe_op op_add (pv 1) pe_int) pa_nil)))))), ?_⟩
    refine seq_cut (R := fun σ' H' => Same H H' ∧ σ' = [some (.ref a), some (.int i), some (.int (if (off [93] (t.drop i)).isSome = true then 4 else 5))]) (fun nx k => ?_) ?_
    · walk_at "v"
      refine ⟨a, t, i, _, [93], rfl, ha, rfl, by decide, hi, fun H1 s1 => ?_⟩
      walk_at "v"
      rw [off_isSome] at k
      cases h1 : ([93] : Text).isPrefixOf (t.drop i) with
      | true =>
        rw [h1] at k
        exact k _ _ ⟨s1, rfl⟩
      | false =>
        rw [h1] at k
        exact k _ _ ⟨s1, rfl⟩
    rintro _ H1 ⟨s1, rfl⟩
    walk_at "v"
    refine ⟨a, bs t, rfl, SqL.of (s1 _ _ ha), fun tx htx => ?_⟩
    have hh : ∃ c : UInt8, ([c] : Text).isPrefixOf (t.drop i) = true ∧ tokenText (rdEnd (t.drop i)).1 = [c] := by
      unfold seesEnd at hok
      rw [off_isSome, off_isSome] at hok
      unfold rdEnd
      rw [off_isSome]
      cases h1 : ([93] : Text).isPrefixOf (t.drop i) with
      | true => exact ⟨93, h1, rfl⟩
      | false =>
        rw [h1, Bool.false_or] at hok
        exact ⟨125, hok, rfl⟩
    obtain ⟨c, hc, htt⟩ := hh
    obtain ⟨hl, hcut, hoff⟩ := cut_one hi hc
    rw [hcut, ← htt]
    walk_at "v"
    intro x dx hx hdx hne
    refine ⟨x, dx, _, _, _, _, rfl, upd_same, fun H3 hi3 k3 => ⟨rfl, ?_⟩⟩
    have s3 := upd_same_of (o := HO.lst (bs (tokenText (rdEnd (t.drop i)).1))) htx
    have s4 : Same _ H3 := Same.made hx hdx k3
    walk_at "v"
    refine ⟨by show 2 ≤ sizeLine; decide, fun p2 hp2 => ?_⟩
    have s5 := upd_same_of (o := HO.tup [V.ref x, V.int ((i : Int) + 1)]) hp2
    refine q1 (rdEnd (t.drop i)).1 (rdEnd (t.drop i)).2 rfl _ p2 x (i + 1) (s1.trans (s3.trans (s4.trans s5))) ?_ ?_ ?_ hl
    · rw [show ((i + 1 : Nat) : Int) = (i : Int) + 1 by omega]
      exact upd_same
    · refine tok_new (dx := dx) (kv := .non) (nv := .non) (tx := tx) ((s1.trans s3).free hx) (s5 _ _ ?_) ?_ ?_ ?_
      · rw [hi3]
        have : kindN (rdEnd (t.drop i)).1 = (if (off [93] (t.drop i)).isSome = true then 4 else 5) := by
          unfold rdEnd
          cases (off [93] (t.drop i)).isSome <;> rfl
        unfold tokF
        rw [this]
        rfl
      · show Gr _ _ _ tx = _
        rw [Gr.new (s1.free htx)]
        exact s5 _ _ (s4 _ _ upd_same)
      · rfl
      · rfl
    · unfold rdEnd
      rw [List.tail_drop]
theorem ok_token_of (T : Facts K mg) : OkFn P w K mg base (L2.CX P w) 7 (He.ga K "token_of") 1 (spTokenOf K) := by
  refine mk_fn T.d_token_of sc_token_of (fun _ _ _ _ _ _ us hl => match us, hl with | [_], _ => rfl) (fun vs H Q E h => ?_) (fun cdv A outer s H vs Q E hr h => ?_)
  · obtain ⟨_, _, _, rfl, _⟩ := h
    rfl
  · obtain ⟨F, a, t, rfl, sF, hF, q1, q2⟩ := h
    have ha : TextAt H a t := sF _ _ hF
    refine ⟨_, (pss_cons (ps_if (PW.pt (pw_and (pt_val (c_fn (ok_small T) (hr.mono (by decide)) rfl T.g_is_small_letter pass0 (pa_cons (c_fn (ok_byte_at T) (hr.mono (by decide)) rfl T.g_byte_at pass0 (pa_cons (pv 0) (pa_cons pe_int pa_nil))) pa_nil))) (pw_and1 (pt_cmpR op_eq (pe_ix ix_list (pv 0) (pe_un un_neg pe_int) (fun _ _ => rfl)) (pe_num rfl T.i_COLON) (nomark _)))))
        (pss_one (ps_asg (c_fn (ok_read_name_token T) (hr.mono (by decide)) rfl T.g_read_name_token (pX (takes_of rfl rfl rfl rfl)) (pa_cons (pv 0) (pa_cons pe_int pa_nil))) (pg_tup rfl (pgs_cons (pg_name (i := 1) sc_token_of.nd rfl (.inl rfl)) (pgs_cons (pg_name (i := 2) sc_token_of.nd rfl (.inl rfl)) pgs_nil)))))
        (pss_one (ps_if (pt_val (c_fn (ok_sees_end T) (hr.mono (by decide)) rfl T.g_sees_end pass0 (pa_cons (pv 0) (pa_cons pe_int pa_nil))))
          (pss_one (ps_asg (c_fn (ok_read_end T) (hr.mono (by decide)) rfl T.g_read_end pass0 (pa_cons (pv 0) (pa_cons pe_int pa_nil))) (pg_tup rfl (pgs_cons (pg_name (i := 1) sc_token_of.nd rfl (.inl rfl)) (pgs_cons (pg_name (i := 2) sc_token_of.nd rfl (.inl rfl)) pgs_nil)))))
          (pss_one (ps_asg (c_fn (ok_read_head T) (hr.mono (by decide)) rfl T.g_read_head (pX (takes_of rfl rfl rfl rfl)) (pa_cons (pv 0) (pa_cons pe_int pa_nil))) (pg_tup rfl (pgs_cons (pg_name (i := 1) sc_token_of.nd rfl (.inl rfl)) (pgs_cons (pg_name (i := 2) sc_token_of.nd rfl (.inl rfl)) pgs_nil))))))))
      (pss_cons (ps_if (pt_cmpR op_ne (pv 2) (pe_callB call_len_seq (by rfl) T.f_len boot_len (pa_cons (pv 0) pa_nil)) (nomark _))
        (pss_one (rz_W T rfl rfl (takes_of rfl rfl rfl rfl)))
        pss_nil)
      (pss_one (ps_ret (pv 1))))), ?_⟩
    refine seq_cut (R := fun σ' H' => Same H H' ∧ ∃ (k : Addr) (e : Nat) (v : Token) (r : Text), σ' = [some (.ref a), some (.ref k), some (.int (e : Nat))] ∧ TokAt K (Gr H F H') k v ∧ t.drop e = r ∧ e ≤ t.length ∧ tokOf t = if r = [] then some v else none) (fun nx kx => ?_) ?_
    · refine if_cut (R := fun b H1 => H1 = H ∧ b = (t.head?.any isSmall && t.getLast? == some 58)) (fun Q' k => ?_) ?_ ?_
      · walk_at "v"
        refine ⟨a, t, 0, rfl, ha, ?_⟩
        walk_at "v"
        rw [smallI_at]
        cases hs : (t.drop 0).head?.any isSmall with
        | false =>
          have hs' : t.head?.any isSmall = false := hs
          exact k false H ⟨rfl, by rw [hs']; rfl⟩
        | true =>
          have hs' : t.head?.any isSmall = true := hs
          have hne : t ≠ [] := by rintro rfl; cases hs'
          obtain ⟨u, c, hu, hlast, hat⟩ := last_at hne
          walk_at "v"
          refine ⟨a, bs t, _, _, rfl, rfl, SqL.of ha, hat, ?_⟩
          walk_at "v"
          refine ⟨rfl, ?_⟩
          walk_at "v"
          refine k _ H ⟨rfl, ?_⟩
          rw [hs', hlast, Bool.true_and]
          exact dec_byte (n := 58) (by omega)
      · rintro H ⟨rfl, hb⟩
        walk_at "v"
        refine ⟨F, a, t, 0, rfl, sF, hF, Nat.zero_le _, trivial, fun v r hv H1 p k e s1 hp hk hd he => ?_, fun hno H1 s1 => q2 ?_ H1 s1⟩
        · refine ⟨p, _, rfl, SqT.of hp, rfl, ?_⟩
          refine ⟨_, _, rfl, _, _, rfl, rfl, kx _ _ ⟨s1, k, e, v, r, rfl, hk, hd, he, ?_⟩⟩
          unfold tokOf
          rw [if_pos hb.symm, show rdNameTok t = some (v, r) from hv]
          rfl
        · unfold tokOf
          rw [if_pos hb.symm, show rdNameTok t = none from hno]
          rfl
      · rintro H ⟨rfl, hb⟩
        refine if_cut (R := fun b H1 => Same H H1 ∧ b = seesEnd t) (fun Q' k => ?_) ?_ ?_
        · walk_at "v"
          exact ⟨a, t, 0, rfl, ha, Nat.zero_le _, fun H1 s1 => ⟨_, rfl, k _ H1 ⟨s1, rfl⟩⟩⟩
        · rintro H1 ⟨s1, hse⟩
          walk_at "v"
          refine ⟨Gr H F H1, a, t, 0, rfl, Gr.down' sF s1, Gr.up sF _ _ _ hF, Nat.zero_le _, hse.symm, fun v r hv H2 p k e s2 hp hk hd he => ?_, fun hno H2 s2 => (nomatch hno)⟩
          refine ⟨p, _, rfl, SqT.of hp, rfl, ?_⟩
          refine ⟨_, _, rfl, _, _, rfl, rfl, kx _ _ ⟨s1.trans s2, k, e, v, r, rfl, hk.mono (Gr.trans' s1 s2), hd, he, ?_⟩⟩
          unfold tokOf
          rw [if_neg (by rw [← hb]; exact Bool.false_ne_true), if_pos hse.symm, show some (rdEnd t) = some (v, r) from hv]
          rfl
        · rintro H1 ⟨s1, hse⟩
          have htok : tokOf t = (rdHead t).bind fun x => if x.2 = [] then some x.1 else none := by
            unfold tokOf
            rw [if_neg (by rw [← hb]; exact Bool.false_ne_true), if_neg (by rw [← hse]; exact Bool.false_ne_true)]
          walk_at "v"
          refine ⟨Gr H F H1, a, t, 0, rfl, Gr.down' sF s1, Gr.up sF _ _ _ hF, Nat.zero_le _, trivial, fun v r hv H2 p k e s2 hp hk hd he => ?_, fun hno H2 s2 => q2 ?_ _ (s1.trans s2)⟩
          · refine ⟨p, _, rfl, SqT.of hp, rfl, ?_⟩
            refine ⟨_, _, rfl, _, _, rfl, rfl, kx _ _ ⟨s1.trans s2, k, e, v, r, rfl, hk.mono (Gr.trans' s1 s2), hd, he, ?_⟩⟩
            rw [htok, show rdHead t = some (v, r) from hv]
            rfl
          · rw [htok, show rdHead t = none from hno]
            rfl
    rintro _ H1 ⟨s1, k, e, v, r, rfl, hk, hd, he, htok⟩
    walk_at "v"
    refine ⟨a, bs t, rfl, .inl (SqL.of (s1 _ _ ha)), ?_⟩
    walk_at "v"
    refine ⟨rfl, ?_⟩
    walk_at "v"
    rw [bs_length]
    have hlen := drop_len hd he
    by_cases hr : r = []
    · rw [if_pos hr] at htok
      have : e = t.length := by rw [hr] at hlen; simpa using hlen
      refine if_neg_of (by simp [this]) ?_
      exact ⟨_, rfl, q1 v htok _ k s1 hk⟩
    · rw [if_neg hr] at htok
      have : e ≠ t.length := by
        have := List.length_pos_iff.mpr hr
        have hl2 := congrArg List.length hd
        simp at hl2
        omega
      refine if_pos_of ?_ (q2 htok _ s1)
      have : ¬ (V.int (e : Int) = V.int (t.length : Int)) := fun z => this (by have := V.int.inj z; omega)
      simp [this]
end
end TS
end
section
set_option Elab.async false
set_option linter.all false
set_option maxRecDepth 100000
set_option maxHeartbeats 4000000
/-! ### < of pairs whose first numbers differ -/
namespace TS
open PySem PySem.SeqAt
open PySem.AutoSeq1 (wpAny_loadPart')
open PySem.MeetsSeq PySem.MeetsSeq2 PySem.MeetsSeq3 PySem.SeqRoads2
theorem pair_lt_first (p q : Addr) (xs ys : Array Value) (n1 n2 : Nat) (d1 d2 : Option Addr) (s1 s2 : Array (Option Value)) (i j : Int) (t u : Tok) (l1 l2 : List Value) (ex : xs.toList = .int i t :: l1) (ey : ys.toList = .int j u :: l2) (hij : i ≠ j) :
    Meets (Builtin.«tuple.__lt__» ⟨[.ref p, .ref q], []⟩)
      (fun _ R st => st.heap.get? p = some { cls := .type "tuple", dict := d1, data := .seq xs n1, slots := s1 } ∧ st.heap.get? q = some { cls := .type "tuple", dict := d2, data := .seq ys n2, slots := s2 } ∧ R (.ok (.ret (.bool (decide (i < j))))) st) :=
  .of_wp fun pr wo ar R st hyp => by
    obtain ⟨hh, ga, dr, to, os⟩ := st
    obtain ⟨g1, g2, g3⟩ := hyp
    have sb := AutoSeq1.sub_tuple_tuple
    wp_walk using wpAny_loadPart' g1, wpAny_loadPart' g2, wpAny_forIn_list _ (fun rest z st' => z.1 = none ∧ st' = ⟨hh, ga, dr, to, os⟩ ∧ rest = xs.toList.zip ys.toList) _
    case turn =>
      rintro ⟨y, x⟩ rest z st' ⟨hz1, rfl, hz⟩
      rw [ex, ey, List.zip_cons_cons] at hz
      injection hz with e1 e2
      injection e1 with e3 e4
      subst e3 e4
      refine wpAny_bind (EqAt.int_int _ _ _ _ pr wo _ _ ?_)
      have eb : (i == j) = false := beq_eq_false_iff_ne.mpr hij
      rw [eb]
      have lt1 := HT.rcLt_int ar.in1 ⟨hh, ga, dr, to, os⟩ i t j u pr wo
      wp_walk using lt1
      exact ⟨_, rfl, g3⟩
    case fin =>
      rintro ⟨z1, z2⟩ st' ⟨hz1, rfl, hz⟩
      rw [ex, ey, List.zip_cons_cons] at hz
      cases hz
    case h => exact ⟨rfl, rfl, rfl⟩

theorem eq_false_of {α : Type} [BEq α] [LawfulBEq α] {a b : α} (h : a ≠ b) : (a == b) = false := beq_eq_false_iff_ne.mpr h
end TS
namespace TS
open PySem PySem.Spec PyProof.Rows L2
open Vapaqf (Head)
section
variable {X : Cx} {pins : List (Addr × Obj)} {σ : L2.St} {H : Hp} {s : Shared}
/-- pairs of a number and a datum -/
def rLtKey (K : PySem.W.Frag) : R2 := fun x y H Q => ∃ (a b : Addr) (i j : Int) (x1 y1 : V) (d e : PyData), x = .ref a ∧ y = .ref b ∧ SqT K H a [.int i, x1] ∧ SqT K H b [.int j, y1] ∧
  ((i ≠ j ∧ Q (.bl (decide (i < j))) H) ∨ (i = j ∧ Dp K H x1 d ∧ Dp K H y1 e ∧ PySem.W.alike d e = true ∧ d ≠ .none ∧ d.depth ≤ 8 ∧ Q (.bl (PySem.W.dataLt (.tuple [.int i, d]) (.tuple [.int j, e]))) H))
theorem op_ltKey (hu : X.A.units + 64 < cLine) : OpR X (compareOp .Lt) (rLtKey X.K) := by
  intro pins s σ H x y v u Q I rx ry h
  obtain ⟨a, b, i, j, x1, y1, d, e, rfl, rfl, ha, hb, h⟩ := h
  rcases h with ⟨hij, q⟩ | ⟨hij, h1, h2, h3, h4, h5, q⟩
  · cases rx
    cases ry
    obtain ⟨its, r1, ⟨⟨c1, e1, dt1, sl1⟩, g1, k1, n1, z1⟩, _⟩ := I.tuple ha
    obtain ⟨its2, r2, ⟨⟨c2, e2, dt2, sl2⟩, g2, k2, n2, z2⟩, _⟩ := I.tuple hb
    simp only at k1 z1 k2 z2
    subst k1 z1 k2 z2
    cases r1 with
    | @cons _ u1 _ m1 ra _ =>
      cases r2 with
      | @cons _ u2 _ m2 rb _ =>
        obtain ⟨t1, rfl⟩ := ra
        obtain ⟨t2, rfl⟩ := rb
        have M := pair_lt_first a b (Value.int i t1 :: m1).toArray (Value.int j t2 :: m2).toArray n1 n2 e1 e2 sl1 sl2 i j t1 t2 m1 m2 rfl rfl hij
        refine PySem.richCompare_meets_room (op := .Lt) ⟨_, g1, rfl⟩ ⟨_, g2, rfl⟩ PySem.F.slot_tuple_lt PySem.F.entry_tuple_lt (PySem.F.args_tuple_lt_2 _ _) M ?_ (by omega)
        exact ⟨g1, g2, fun z => (nomatch z), ⟨.bl _, H, I, rfl, q⟩⟩
  · subst hij
    obtain ⟨as, q1⟩ := Dp.reads I (.tuple [.int i, d]) _ _ (.tup ha (.cons (.int i) (.cons h1 .nil))) rx
    obtain ⟨bs, q2⟩ := Dp.reads I (.tuple [.int i, e]) _ _ (.tup hb (.cons (.int i) (.cons h2 .nil))) ry
    have al : PySem.W.alike (.tuple [.int i, d]) (.tuple [.int i, e]) = true := by simp [PySem.W.alike, PySem.W.alikeAll, h3]
    have dp : (PyData.tuple [PyData.int i, d]).depth ≤ 10 := by simp [PyData.depth, PyData.depthAll]; omega
    exact PySem.W.rcLt_alike _ _ X.A s _ _ as bs q1 q2 al (by simp) (by omega) X.prog X.w X.xe (EP X pins σ Q) ⟨.bl _, H, I, rfl, q⟩
end
end TS
end
section
set_option Elab.async false
set_option linter.all false
set_option maxRecDepth 100000
set_option maxHeartbeats 4000000
/-! ### keys compared: as the trees -/
namespace TS
open PySem PySem.Spec PyProof.Rows L2
open Vapaqa (Text Name off isSmall isDigit isSign tText tNum tNull tBool textBefore)
open Vapaqf (Head Token tokenText)
open PySem.W (keyToks keyToksAll dataLt alike alikeAll)
theorem toks_nil : keyToksAll [] = [.inl 0] := by rw [keyToksAll]
theorem toks_cons (x : PyData) (xs : List PyData) : keyToksAll (x :: xs) = .inl 1 :: (keyToks x ++ keyToksAll xs) := by rw [keyToksAll]
theorem toks_int (i : Int) : keyToks (.int i) = [.inl i] := by rw [keyToks]
theorem blt_inl (i j : Int) : itemOrd.blt (.inl i) (.inl j) = decide (i < j) := rfl
theorem lex_texts : ∀ (t u : Text) (r1 r2 : List (Int ⊕ List Nat)), PyProof.Rows.lexLt itemOrd (keyToksAll (dB t) ++ r1) (keyToksAll (dB u) ++ r2) = if t = u then PyProof.Rows.lexLt itemOrd r1 r2 else textBefore t u
  | [], [], r1, r2 => by
    rw [if_pos rfl]
    show PyProof.Rows.lexLt itemOrd (keyToksAll [] ++ r1) (keyToksAll [] ++ r2) = _
    rw [toks_nil]
    exact PyProof.Rows.lex_self (O := itemOrd) _ _ _
  | [], b :: u, r1, r2 => by
    rw [if_neg (by simp)]
    show PyProof.Rows.lexLt itemOrd (keyToksAll [] ++ r1) (keyToksAll (PyData.int _ :: dB u) ++ r2) = _
    rw [toks_nil, toks_cons]
    exact PyProof.Rows.lex_diff (O := itemOrd) (x := .inl 0) (y := .inl 1) (by simp)
  | a :: t, [], r1, r2 => by
    rw [if_neg (by simp)]
    show PyProof.Rows.lexLt itemOrd (keyToksAll (PyData.int _ :: dB t) ++ r1) (keyToksAll [] ++ r2) = _
    rw [toks_nil, toks_cons]
    exact PyProof.Rows.lex_diff (O := itemOrd) (x := .inl 1) (y := .inl 0) (by simp)
  | a :: t, b :: u, r1, r2 => by
    show PyProof.Rows.lexLt itemOrd (keyToksAll (PyData.int a.toNat :: dB t) ++ r1) (keyToksAll (PyData.int b.toNat :: dB u) ++ r2) = _
    rw [toks_cons, toks_cons, toks_int, toks_int]
    have e1 := PyProof.Rows.lex_self (O := itemOrd) (.inl 1) (.inl (a.toNat : Int) :: (keyToksAll (dB t) ++ r1)) (.inl (b.toNat : Int) :: (keyToksAll (dB u) ++ r2))
    refine Eq.trans e1 ?_
    by_cases hab : a = b
    · subst hab
      have e2 := PyProof.Rows.lex_self (O := itemOrd) (.inl (a.toNat : Int)) (keyToksAll (dB t) ++ r1) (keyToksAll (dB u) ++ r2)
      rw [e2, lex_texts t u r1 r2]
      have hb : textBefore (a :: t) (a :: u) = textBefore t u := by
        show (decide (a < a) || (a == a && textBefore t u)) = textBefore t u
        have : ¬ a < a := by rw [UInt8.lt_iff_toNat_lt]; omega
        simp [this]
      rw [hb]
      by_cases h : t = u <;> simp [h]
    · have hn : (.inl (a.toNat : Int) : Int ⊕ List Nat) ≠ .inl (b.toNat : Int) := by
        intro z
        have := Sum.inl.inj z
        exact hab (UInt8.toNat_inj.mp (by omega))
      have e2 := PyProof.Rows.lex_diff (O := itemOrd) (r := keyToksAll (dB t) ++ r1) (t := keyToksAll (dB u) ++ r2) hn
      rw [e2, if_neg (by simp [hab]), blt_inl]
      show _ = (decide (a < b) || (a == b && textBefore t u))
      have : (a == b) = false := by simp [hab]
      rw [this, Bool.false_and, Bool.or_false]
      by_cases h : a < b
      · rw [decide_eq_true h, decide_eq_true (by rw [UInt8.lt_iff_toNat_lt] at h; omega)]
      · rw [decide_eq_false h, decide_eq_false (by rw [UInt8.lt_iff_toNat_lt] at h; omega)]
theorem dataLt_pair (i : Int) (d e : PyData) : dataLt (.tuple [.int i, d]) (.tuple [.int i, e]) = PyProof.Rows.lexLt itemOrd (keyToks d ++ [.inl 0]) (keyToks e ++ [.inl 0]) := by
  unfold dataLt
  rw [keyToks, keyToks, toks_cons, toks_cons, toks_cons, toks_cons, toks_int, toks_nil]
  have e1 := PyProof.Rows.lex_self (O := itemOrd) (.inl 1) (.inl i :: .inl 1 :: (keyToks d ++ [.inl 0])) (.inl i :: .inl 1 :: (keyToks e ++ [.inl 0]))
  have e2 := PyProof.Rows.lex_self (O := itemOrd) (.inl i) (.inl 1 :: (keyToks d ++ [.inl 0])) (.inl 1 :: (keyToks e ++ [.inl 0]))
  have e3 := PyProof.Rows.lex_self (O := itemOrd) (.inl 1) (keyToks d ++ [.inl 0]) (keyToks e ++ [.inl 0])
  exact e1.trans (e2.trans e3)
theorem dataLt_ints (i x y : Int) : dataLt (.tuple [.int i, .int x]) (.tuple [.int i, .int y]) = decide (x < y) := by
  rw [dataLt_pair, toks_int, toks_int]
  by_cases h : x = y
  · subst h
    have e1 := PyProof.Rows.lex_self (O := itemOrd) (.inl x) [.inl 0] [.inl 0]
    refine Eq.trans e1 ?_
    have e2 := PyProof.Rows.lex_self (O := itemOrd) (.inl 0) [] []
    refine Eq.trans e2 ?_
    simp [PyProof.Rows.lexLt]
  · have e1 := PyProof.Rows.lex_diff (O := itemOrd) (x := .inl x) (y := .inl y) (r := [.inl 0]) (t := [.inl 0]) (by simp [h])
    exact e1
theorem textBefore_irr : ∀ t : Text, textBefore t t = false
  | [] => rfl
  | a :: t => by
    show (decide (a < a) || (a == a && textBefore t t)) = false
    have : ¬ a < a := by rw [UInt8.lt_iff_toNat_lt]; omega
    rw [textBefore_irr t]
    simp [this]
theorem dataLt_texts (i : Int) (t u : Text) : dataLt (.tuple [.int i, .list (dB t)]) (.tuple [.int i, .list (dB u)]) = textBefore t u := by
  rw [dataLt_pair, keyToks, keyToks, lex_texts]
  by_cases h : t = u
  · subst h
    rw [if_pos rfl, textBefore_irr]
    have e2 := PyProof.Rows.lex_self (O := itemOrd) (.inl 0) [] []
    refine Eq.trans e2 ?_
    simp [PyProof.Rows.lexLt]
  · rw [if_neg h]
/-! ### the datum of a head -/
def keyD : Head → PyData
  | .leaf (.num _ z _) => .int z
  | .leaf (.text _ t _) => .list (dB t)
  | _ => .int 0
def keyT (h : Head) : PyData := .tuple [.int (rankH h), keyD h]
theorem dp_val {K : PySem.W.Frag} {H : Hp} {h : Head} {v : V} (k : keyVal H h v) : Dp K H v (keyD h) := by
  rcases h with (_ | _ | _ | _ | _ | _) | _ | _ <;> first | (rw [show v = V.int _ from k]; exact .int _) | (obtain ⟨b, rfl, t⟩ := k; exact .lst (SqL.of t) (dp_bs _))
theorem dp_key {K : PySem.W.Frag} {H : Hp} {h : Head} {k : Addr} (e : KeyAt H k h) : Dp K H (.ref k) (keyT h) := by
  obtain ⟨v, e1, e2⟩ := e
  exact .tup (SqT.of e1) (.cons (.int _) (.cons (dp_val e2) .nil))
theorem shaped_keyT (h : Head) : SeqAt.shaped (keyT h) = true := by
  have h1 : (keyD h).canLay0 = true := by
    rcases h with (_ | _ | _ | _ | _ | _) | _ | _ <;> simp [keyD, PyData.canLay0, canLay_dB]
  have h2 : (keyD h).depth ≤ 2 := by
    rcases h with (_ | _ | _ | _ | _ | _) | _ | _ <;> simp [keyD, PyData.depth]
    rename_i n t r
    have := depth_dB t
    omega
  unfold SeqAt.shaped keyT
  simp [PyData.canLay0, PyData.canLayAll0, h1, PyData.depth, PyData.depthAll]
  omega
def HeadOk : Head → Prop
  | .leaf v => LeafOk v
  | _ => True
theorem leaf_cases {v : Vapaqa.Tree} (h : LeafOk v) : v = tNull ∨ (∃ b, v = tBool b) ∨ (∃ z, v = tNum z ∧ z.natAbs ≤ 1000000000) ∨ ∃ u, v = tText u ∧ u.length ≤ 20 ∧ u.all isSign = true := by
  obtain ⟨h1, h2⟩ := h
  unfold Vapaqa.isTree at h2
  simp only [Bool.and_eq_true, beq_iff_eq] at h2
  obtain ⟨e1, e2, -⟩ := h2
  cases v with
  | nil => cases h1
  | null n r =>
    simp only [Vapaqa.entries, List.length_cons] at e1
    simp only [Vapaqa.isRow, Vapaqa.nameRight, Bool.and_eq_true, Bool.false_eq_true, if_false, List.isEmpty_iff] at e2
    have hr : r = .nil := by cases r <;> simp_all [Vapaqa.entries]
    rw [hr, e2.1]
    exact .inl rfl
  | bool n b r =>
    simp only [Vapaqa.entries, List.length_cons] at e1
    simp only [Vapaqa.isRow, Vapaqa.nameRight, Bool.and_eq_true, Bool.false_eq_true, if_false, List.isEmpty_iff] at e2
    have hr : r = .nil := by cases r <;> simp_all [Vapaqa.entries]
    rw [hr, e2.1]
    exact .inr (.inl ⟨b, rfl⟩)
  | num n z r =>
    simp only [Vapaqa.entries, List.length_cons] at e1
    simp only [Vapaqa.isRow, Vapaqa.nameRight, Bool.and_eq_true, Bool.false_eq_true, if_false, List.isEmpty_iff, decide_eq_true_eq] at e2
    have hr : r = .nil := by cases r <;> simp_all [Vapaqa.entries]
    rw [hr, e2.1]
    exact .inr (.inr (.inl ⟨z, rfl, e2.2.1⟩))
  | text n t r =>
    simp only [Vapaqa.entries, List.length_cons] at e1
    simp only [Vapaqa.isRow, Vapaqa.nameRight, Bool.and_eq_true, Bool.false_eq_true, if_false, List.isEmpty_iff, Vapaqa.isText, decide_eq_true_eq] at e2
    have hr : r = .nil := by cases r <;> simp_all [Vapaqa.entries]
    rw [hr, e2.1]
    exact .inr (.inr (.inr ⟨t, rfl, e2.2.1.1, e2.2.1.2⟩))
  | sub n l k r => cases h1
/-- == of keys -/
theorem eqv_key {h : Head} {v : Vapaqa.Tree} (hh : HeadOk h) (hv : LeafOk v) : PyData.eqv (keyT h) (keyT (.leaf v)) = (h == .leaf v) := by
  have lists : ∀ r : Int, (r = 5 ∨ r = 6) → PyData.eqv (.tuple [.int r, .int 0]) (keyT (.leaf v)) = false := by
    intro r hr
    rcases leaf_cases hv with rfl | ⟨b, rfl⟩ | ⟨z, rfl, _⟩ | ⟨u, rfl, _⟩ <;> rcases hr with rfl | rfl <;> first | (simp [keyT, rankH, keyD, PyData.eqv, PyData.eqvAll, Vapaqa.rank, tNull, tNum, tText]; done) | (cases b <;> simp [keyT, rankH, keyD, PyData.eqv, PyData.eqvAll, Vapaqa.rank, tBool])
  cases h with
  | list => exact (lists 5 (.inl rfl)).trans (by simp)
  | record => exact (lists 6 (.inr rfl)).trans (by simp)
  | leaf w =>
    have hw : LeafOk w := hh
    have goal : ∀ c : Bool, (c = true ↔ w = v) → c = (Head.leaf w == Head.leaf v) := by
      intro c hc
      by_cases e : w = v
      · rw [hc.mpr e, e]
        simp
      · have : c = false := by cases c with | false => rfl | true => exact absurd (hc.mp rfl) e
        rw [this]
        simp [e]
    refine goal _ ?_
    rcases leaf_cases hw with rfl | ⟨b, rfl⟩ | ⟨z, rfl, _⟩ | ⟨u, rfl, _⟩ <;> rcases leaf_cases hv with rfl | ⟨b2, rfl⟩ | ⟨z2, rfl, _⟩ | ⟨u2, rfl, _⟩ <;>
      first
        | (simp [keyT, rankH, keyD, PyData.eqv, PyData.eqvAll, Vapaqa.rank, tNull, tNum, tText, eqvAll_dB]; done)
        | (cases b <;> cases b2 <;> simp [keyT, rankH, keyD, PyData.eqv, PyData.eqvAll, Vapaqa.rank, tBool, tNull, tNum, tText]; done)
        | (cases b <;> simp [keyT, rankH, keyD, PyData.eqv, PyData.eqvAll, Vapaqa.rank, tBool, tNull, tNum, tText]; done)
        | (cases b2 <;> simp [keyT, rankH, keyD, PyData.eqv, PyData.eqvAll, Vapaqa.rank, tBool, tNull, tNum, tText]; done)

/-- < of keys gives r -/
def KeyLt (h1 h2 : Head) (r : Bool) : Prop := (rankH h1 ≠ rankH h2 ∧ r = decide (rankH h1 < rankH h2)) ∨ (rankH h1 = rankH h2 ∧ alike (keyD h1) (keyD h2) = true ∧ keyD h1 ≠ .none ∧ (keyD h1).depth ≤ 8 ∧ r = dataLt (keyT h1) (keyT h2))
theorem alike_dB : ∀ t u : Text, alikeAll (dB t) (dB u) = true
  | [], _ => by show alikeAll [] _ = true; rw [alikeAll]
  | _ :: _, [] => by show alikeAll (_ :: _) [] = true; rw [alikeAll]
  | a :: t, b :: u => by
    show alikeAll (PyData.int _ :: dB t) (PyData.int _ :: dB u) = true
    rw [alikeAll, alike_dB t u]
    simp [alike]
theorem isLess_leaf {w v : Vapaqa.Tree} (hw : LeafOk w) (hv : LeafOk v) : KeyLt (.leaf w) (.leaf v) (Vapaqa.isLess w v) := by
  rcases leaf_cases hw with rfl | ⟨b, rfl⟩ | ⟨z, rfl, _⟩ | ⟨u, rfl, _⟩ <;> rcases leaf_cases hv with rfl | ⟨b2, rfl⟩ | ⟨z2, rfl, _⟩ | ⟨u2, rfl, _⟩
  case inl.inl => exact .inr ⟨rfl, by simp [keyD, tNull, alike], by simp [keyD, tNull], by simp [keyD, tNull, PyData.depth], by simp only [keyT, keyD, tNull]; rw [dataLt_ints]; decide⟩
  case inr.inl.inr.inl =>
    cases b <;> cases b2
    · exact .inr ⟨rfl, by simp [keyD, tBool, alike], by simp [keyD, tBool], by simp [keyD, tBool, PyData.depth], by simp only [keyT, keyD, tBool]; rw [dataLt_ints]; decide⟩
    · exact .inl ⟨by decide, by decide⟩
    · exact .inl ⟨by decide, by decide⟩
    · exact .inr ⟨rfl, by simp [keyD, tBool, alike], by simp [keyD, tBool], by simp [keyD, tBool, PyData.depth], by simp only [keyT, keyD, tBool]; rw [dataLt_ints]; decide⟩
  case inr.inr.inl.inr.inr.inl =>
    refine .inr ⟨rfl, by simp [keyD, tNum, alike], by simp [keyD, tNum], by simp [keyD, tNum, PyData.depth], ?_⟩
    simp only [keyT, keyD, tNum]
    have : rankH (.leaf (Vapaqa.Row.num [] z .nil)) = rankH (.leaf (Vapaqa.Row.num [] z2 .nil)) := rfl
    rw [this, dataLt_ints]
    simp only [Vapaqa.isLess, Vapaqa.rowOrder, Vapaqa.textOrder, Vapaqa.then_, Vapaqa.intOrder]
    by_cases h1 : z < z2
    · simp [h1, Vapaqa.textBefore]
    · by_cases h2 : z = z2 <;> simp [h1, h2, Vapaqa.textBefore]
  case inr.inr.inr.inr.inr.inr =>
    refine .inr ⟨rfl, by simp [keyD, tText, alike, alike_dB], by simp [keyD, tText], by have := depth_dB u; simp [keyD, tText, PyData.depth]; omega, ?_⟩
    simp only [keyT, keyD, tText]
    have : rankH (.leaf (Vapaqa.Row.text [] u .nil)) = rankH (.leaf (Vapaqa.Row.text [] u2 .nil)) := rfl
    rw [this, dataLt_texts]
    simp only [Vapaqa.isLess, Vapaqa.rowOrder, Vapaqa.textOrder, Vapaqa.then_]
    by_cases h1 : textBefore u u2 = true
    · simp [h1, Vapaqa.textBefore]
    · by_cases h2 : u = u2 <;> simp [h1, h2, Vapaqa.textBefore, textBefore_irr]
  all_goals first
    | (cases b <;> exact .inl ⟨by simp [rankH, Vapaqa.rank, tNull, tNum, tText, tBool], by simp [rankH, Vapaqa.rank, tNull, tNum, tText, tBool, Vapaqa.isLess, Vapaqa.rowOrder, Vapaqa.textOrder, Vapaqa.then_, Vapaqa.intOrder, Vapaqa.textBefore, Vapaqa.nameOf]⟩)
    | (cases b2 <;> exact .inl ⟨by simp [rankH, Vapaqa.rank, tNull, tNum, tText, tBool], by simp [rankH, Vapaqa.rank, tNull, tNum, tText, tBool, Vapaqa.isLess, Vapaqa.rowOrder, Vapaqa.textOrder, Vapaqa.then_, Vapaqa.intOrder, Vapaqa.textBefore, Vapaqa.nameOf]⟩)
    | exact .inl ⟨by simp [rankH, Vapaqa.rank, tNull, tNum, tText], by simp [rankH, Vapaqa.rank, tNull, tNum, tText, Vapaqa.isLess, Vapaqa.rowOrder, Vapaqa.textOrder, Vapaqa.then_, Vapaqa.intOrder, Vapaqa.textBefore, Vapaqa.nameOf]⟩
theorem leaf_rank {v : Vapaqa.Tree} (h : LeafOk v) : rankH (.leaf v) < 5 := by
  rcases leaf_cases h with rfl | ⟨b, rfl⟩ | ⟨z, rfl, _⟩ | ⟨u, rfl, _⟩ <;> first | (cases b <;> decide) | (simp [rankH, Vapaqa.rank, tNull, tNum, tText]; done)
theorem lt_before {h : Head} {v : Vapaqa.Tree} (hh : HeadOk h) (hv : LeafOk v) : KeyLt h (.leaf v) (Vapaqf.holds (.less v) h) := by
  have := leaf_rank hv
  cases h with
  | leaf w => exact isLess_leaf hh hv
  | list => exact .inl ⟨fun z => by have z2 : (5 : Int) = rankH (.leaf v) := z; omega, (decide_eq_false (fun z => by have z2 : (5 : Int) < rankH (.leaf v) := z; omega)).symm⟩
  | record => exact .inl ⟨fun z => by have z2 : (6 : Int) = rankH (.leaf v) := z; omega, (decide_eq_false (fun z => by have z2 : (6 : Int) < rankH (.leaf v) := z; omega)).symm⟩
theorem lt_behind {h : Head} {v : Vapaqa.Tree} (hh : HeadOk h) (hv : LeafOk v) : KeyLt (.leaf v) h (Vapaqf.holds (.more v) h) := by
  have := leaf_rank hv
  cases h with
  | leaf w => exact isLess_leaf hv hh
  | list => exact .inl ⟨fun z => by have z2 : rankH (.leaf v) = (5 : Int) := z; omega, (decide_eq_true (by show rankH (.leaf v) < (5 : Int); omega)).symm⟩
  | record => exact .inl ⟨fun z => by have z2 : rankH (.leaf v) = (6 : Int) := z; omega, (decide_eq_true (by show rankH (.leaf v) < (6 : Int); omega)).symm⟩
/-- the rule's question, answered -/
theorem lt_keys {K : PySem.W.Frag} {H : Hp} {Q : VK} {a b : Addr} {h1 h2 : Head} {r : Bool} (k1 : KeyAt H a h1) (k2 : KeyAt H b h2) (l : KeyLt h1 h2 r) (q : Q (.bl r) H) : rLtKey K (.ref a) (.ref b) H Q := by
  obtain ⟨v1, e1, w1⟩ := k1
  obtain ⟨v2, e2, w2⟩ := k2
  refine ⟨a, b, rankH h1, rankH h2, v1, v2, keyD h1, keyD h2, rfl, rfl, SqT.of e1, SqT.of e2, ?_⟩
  rcases l with ⟨l1, l2⟩ | ⟨l1, l2, l3, l4, l5⟩
  · exact .inl ⟨l1, by rw [← l2]; exact q⟩
  · refine .inr ⟨l1, dp_val w1, dp_val w2, l2, l3, l4, ?_⟩
    rw [show dataLt (.tuple [.int (rankH h1), keyD h1]) (.tuple [.int (rankH h2), keyD h2]) = r from l5.symm]
    exact q
end TS
end
section
set_option Elab.async false
set_option linter.all false
set_option maxRecDepth 100000
set_option maxHeartbeats 4000000
namespace TS
open PySem PySem.Spec PyProof.Rows L2
open Vapaqf (Head Test Token holds)
local macro_rules | `(tactic| walk_at "v") => `(tactic| repeat (first | refine ⟨_, rfl, ?_⟩ | refine ⟨_, _, rfl, rfl, ?_⟩ | refine ⟨_, _, rfl, ?_⟩))
local macro_rules | `(tactic| walk_at "few") => `(tactic| first | decide | (show 0 < 1000; decide) | (show 1 < 1000; decide) | (show 2 < 1000; decide) | (show 3 < 1000; decide) | (show 4 < 1000; decide) | (show 5 < 1000; decide) | (show 6 < 1000; decide))
/-! ### a method of an object whose class is told by the reading -/
section
variable {X : Cx} {CX : CXT} {k : Nat} {E : XK} {apos pos : Pos} {e o : Expr} {es : List Expr} {t : TA} {ta : TE} {m : Str} {pl : Sem Bool}
def tMethD (X : Cx) (CX : CXT) (k : Nat) (m : Str) (E : XK) (ta : TE) (t : TA) : TE := fun σ H Q => ta σ H fun x H1 => ∃ (a C dx : Addr) (fs : List (Str × V)) (f : Addr) (n : Nat) (sp : Sp), x = .ref a ∧ H1 a = some (.ins C dx fs) ∧ fs.lookup m = none ∧ Cls X.K C ∧ Meth X.K C m f ∧
  OkFn X.prog X.w X.K X.mg X.base CX k f n sp ∧ t σ H1 fun vs H2 => sp (x :: vs) H2 Q E
theorem c_methD (he : PE X o ta) (hr : Room k X.A) (hx : Passes CX X E) (ha : PA X (e :: es) t)
    (hst : starEach (e :: es) X.env = (false, eval e X.env) :: starEach es X.env := by rfl) (hpl : (backTo pos (starEach es X.env)).any (·.1) = false := by rfl)
    (ht : eval (.Call (.Attribute o m apos) (e :: es) [] pos) X.env = (do
      let ov ← eval o X.env
      standAt apos.atName
      let (f, first) ← holding [ov] (getMethod ov m pl)
      callWith pos f first (backTo pos (starEach (e :: es) X.env)) (backToKw pos (keywordEach [] X.env))) := by rfl) :
    PE X (.Call (.Attribute o m apos) (e :: es) [] pos) (tMethD X CX k m E ta t) := by
  constructor
  intro pins s σ H Q I hyp
  refine PySem.W.methodCall_KW (pl := pl) (thn (he.run pins s σ H _ I hyp) ?_) ht
  rintro u s1 ⟨x, H1, I1, rx, a, C, dx, fs, f, n, sp, rfl, ea, l, c, hm, F, q⟩
  cases rx
  obtain ⟨fd, ps, F, b, kp, -⟩ := F.ex
  refine getmeth_ok I1 ea c hm l (PySem.W.callWith_K (first := [.ref a]) (h₀ := X.base) I.ok.mod.kin hm.kp (thn (ha.run pos pins s1 σ H1 _ I1 q) ?_) hst hpl)
  rintro us s2 ⟨vs, H2, I2, r, q2⟩
  have q3 : sp (.ref a :: (vs ++ [])) H2 Q E := by rw [List.append_nil]; exact q2
  exact ⟨I2.kIn, run_fn (us := .ref a :: us) (vs := .ref a :: vs) F hr b .nil hx I2 (.cons rfl r) q3⟩
end
/-! ### conditions in the heap -/
def TestAt (K : PySem.W.Frag) (F : Hp) : Addr → Test → Prop
  | a, .same v => ∃ k, InsAt K F "SameAs" a [("leaf", .ref k)] ∧ KeyAt F k (.leaf v) ∧ LeafOk v
  | a, .less v => ∃ k, InsAt K F "BeforeLeaf" a [("leaf", .ref k)] ∧ KeyAt F k (.leaf v) ∧ LeafOk v
  | a, .more v => ∃ k, InsAt K F "BehindLeaf" a [("leaf", .ref k)] ∧ KeyAt F k (.leaf v) ∧ LeafOk v
  | a, .not_ t => ∃ b, InsAt K F "Negation" a [("part", .ref b)] ∧ TestAt K F b t
  | a, .and_ t u => ∃ b c, InsAt K F "BothOf" a [("one", .ref b), ("other", .ref c)] ∧ TestAt K F b t ∧ TestAt K F c u
  | a, .or_ t u => ∃ b c, InsAt K F "EitherOf" a [("one", .ref b), ("other", .ref c)] ∧ TestAt K F b t ∧ TestAt K F c u
theorem TestAt.mono {K : PySem.W.Frag} {F F' : Hp} (s : Same F F') : ∀ {t : Test} {a : Addr}, TestAt K F a t → TestAt K F' a t
  | .same v, a, ⟨k, i, ka, lo⟩ => ⟨k, i.mono s, ka.mono s, lo⟩
  | .less v, a, ⟨k, i, ka, lo⟩ => ⟨k, i.mono s, ka.mono s, lo⟩
  | .more v, a, ⟨k, i, ka, lo⟩ => ⟨k, i.mono s, ka.mono s, lo⟩
  | .not_ t, a, ⟨b, i, tb⟩ => ⟨b, i.mono s, TestAt.mono s tb⟩
  | .and_ t u, a, ⟨b, c, i, tb, tc⟩ => ⟨b, c, i.mono s, TestAt.mono s tb, TestAt.mono s tc⟩
  | .or_ t u, a, ⟨b, c, i, tb, tc⟩ => ⟨b, c, i.mono s, TestAt.mono s tb, TestAt.mono s tc⟩
def clsT : Test → Str
  | .same _ => "SameAs"
  | .less _ => "BeforeLeaf"
  | .more _ => "BehindLeaf"
  | .not_ _ => "Negation"
  | .and_ _ _ => "BothOf"
  | .or_ _ _ => "EitherOf"
def tdepth : Test → Nat
  | .not_ t => tdepth t + 1
  | .and_ t u => max (tdepth t) (tdepth u) + 1
  | .or_ t u => max (tdepth t) (tdepth u) + 1
  | _ => 0
/-- the object of a test has no attribute of a method's name -/
theorem TestAt.ins {K : PySem.W.Frag} {F : Hp} {a : Addr} {t : Test} (h : TestAt K F a t) : ∃ dx fs, F a = some (.ins (He.ga K (clsT t)) dx fs) ∧ fs.lookup ("holds" : Str) = none := by
  cases t with
  | same v => obtain ⟨k, ⟨dx, i⟩, -⟩ := h; exact ⟨dx, _, i, rfl⟩
  | less v => obtain ⟨k, ⟨dx, i⟩, -⟩ := h; exact ⟨dx, _, i, rfl⟩
  | more v => obtain ⟨k, ⟨dx, i⟩, -⟩ := h; exact ⟨dx, _, i, rfl⟩
  | not_ t => obtain ⟨k, ⟨dx, i⟩, -⟩ := h; exact ⟨dx, _, i, rfl⟩
  | and_ t u => obtain ⟨b, c, ⟨dx, i⟩, -⟩ := h; exact ⟨dx, _, i, rfl⟩
  | or_ t u => obtain ⟨b, c, ⟨dx, i⟩, -⟩ := h; exact ⟨dx, _, i, rfl⟩
def spHolds (K : PySem.W.Frag) (t : Test) : Sp := fun vs H Q _ => ∃ (F : Hp) (a k : Addr) (h : Head), vs = [.ref a, .ref k] ∧ Same F H ∧ TestAt K F a t ∧ KeyAt F k h ∧ HeadOk h ∧ ∀ H', Same H H' → Q (.bl (holds t h)) H'
def spInit1 (K : PySem.W.Frag) (C f : Str) : Sp := fun vs H Q _ => ∃ (p dx : Addr) (x : V), vs = [.ref p, x] ∧ H p = some (.ins (He.ga K C) dx []) ∧
  ∀ H' : Hp, H' p = some (.ins (He.ga K C) dx [(f, x)]) → (∀ b o, H b = some o → b ≠ p → H' b = some o) → Q .non H'
def spInit2 (K : PySem.W.Frag) (C f g : Str) : Sp := fun vs H Q _ => ∃ (p dx : Addr) (x y : V), vs = [.ref p, x, y] ∧ H p = some (.ins (He.ga K C) dx []) ∧
  ∀ H' : Hp, H' p = some (.ins (He.ga K C) dx [(f, x), (g, y)]) → (∀ b o, H b = some o → b ≠ p → H' b = some o) → Q .non H'
section
variable {P : Program} {w : World} {K : PySem.W.Frag} {mg : Str → Option Value} {base : Heap}
theorem ok_SameAs_init (T : Facts K mg) : OkFn P w K mg base CX0 1 (He.ma K (He.ga K "SameAs") "__init__") 2 (spInit1 K "SameAs" "leaf") := by
  refine mk_fn T.d_SameAs_init sc_SameAs_init (fun _ _ _ _ _ _ us hl => match us, hl with | [_, _], _ => rfl) (fun vs H Q E h => ?_) (fun cdv A outer s H vs Q E hr h => ?_)
  · obtain ⟨_, _, _, rfl, _⟩ := h
    rfl
  · obtain ⟨p, dx, x, rfl, hp, q⟩ := h
    refine ⟨_, PSs.nox (pss_one (ps_fld (pv 0) (pv 1) rfl)), ?_⟩
    refine ⟨_, rfl, _, rfl, _, _, _, _, rfl, hp, T.c_SameAs, T.n_SameAs_leaf, by walk_at "few", ?_⟩
    exact q _ upd_same fun b o e hb => by
      rw [upd_ne hb]
      exact e
theorem ok_BeforeLeaf_init (T : Facts K mg) : OkFn P w K mg base CX0 1 (He.ma K (He.ga K "BeforeLeaf") "__init__") 2 (spInit1 K "BeforeLeaf" "leaf") := by
  refine mk_fn T.d_BeforeLeaf_init sc_BeforeLeaf_init (fun _ _ _ _ _ _ us hl => match us, hl with | [_, _], _ => rfl) (fun vs H Q E h => ?_) (fun cdv A outer s H vs Q E hr h => ?_)
  · obtain ⟨_, _, _, rfl, _⟩ := h
    rfl
  · obtain ⟨p, dx, x, rfl, hp, q⟩ := h
    refine ⟨_, PSs.nox (pss_one (ps_fld (pv 0) (pv 1) rfl)), ?_⟩
    refine ⟨_, rfl, _, rfl, _, _, _, _, rfl, hp, T.c_BeforeLeaf, T.n_BeforeLeaf_leaf, by walk_at "few", ?_⟩
    exact q _ upd_same fun b o e hb => by
      rw [upd_ne hb]
      exact e
theorem ok_BehindLeaf_init (T : Facts K mg) : OkFn P w K mg base CX0 1 (He.ma K (He.ga K "BehindLeaf") "__init__") 2 (spInit1 K "BehindLeaf" "leaf") := by
  refine mk_fn T.d_BehindLeaf_init sc_BehindLeaf_init (fun _ _ _ _ _ _ us hl => match us, hl with | [_, _], _ => rfl) (fun vs H Q E h => ?_) (fun cdv A outer s H vs Q E hr h => ?_)
  · obtain ⟨_, _, _, rfl, _⟩ := h
    rfl
  · obtain ⟨p, dx, x, rfl, hp, q⟩ := h
    refine ⟨_, PSs.nox (pss_one (ps_fld (pv 0) (pv 1) rfl)), ?_⟩
    refine ⟨_, rfl, _, rfl, _, _, _, _, rfl, hp, T.c_BehindLeaf, T.n_BehindLeaf_leaf, by walk_at "few", ?_⟩
    exact q _ upd_same fun b o e hb => by
      rw [upd_ne hb]
      exact e
theorem ok_Negation_init (T : Facts K mg) : OkFn P w K mg base CX0 1 (He.ma K (He.ga K "Negation") "__init__") 2 (spInit1 K "Negation" "part") := by
  refine mk_fn T.d_Negation_init sc_Negation_init (fun _ _ _ _ _ _ us hl => match us, hl with | [_, _], _ => rfl) (fun vs H Q E h => ?_) (fun cdv A outer s H vs Q E hr h => ?_)
  · obtain ⟨_, _, _, rfl, _⟩ := h
    rfl
  · obtain ⟨p, dx, x, rfl, hp, q⟩ := h
    refine ⟨_, PSs.nox (pss_one (ps_fld (pv 0) (pv 1) rfl)), ?_⟩
    refine ⟨_, rfl, _, rfl, _, _, _, _, rfl, hp, T.c_Negation, T.n_Negation_part, by walk_at "few", ?_⟩
    exact q _ upd_same fun b o e hb => by
      rw [upd_ne hb]
      exact e
theorem ok_FieldStep_init (T : Facts K mg) : OkFn P w K mg base CX0 1 (He.ma K (He.ga K "FieldStep") "__init__") 2 (spInit1 K "FieldStep" "name") := by
  refine mk_fn T.d_FieldStep_init sc_FieldStep_init (fun _ _ _ _ _ _ us hl => match us, hl with | [_, _], _ => rfl) (fun vs H Q E h => ?_) (fun cdv A outer s H vs Q E hr h => ?_)
  · obtain ⟨_, _, _, rfl, _⟩ := h
    rfl
  · obtain ⟨p, dx, x, rfl, hp, q⟩ := h
    refine ⟨_, PSs.nox (pss_one (ps_fld (pv 0) (pv 1) rfl)), ?_⟩
    refine ⟨_, rfl, _, rfl, _, _, _, _, rfl, hp, T.c_FieldStep, T.n_FieldStep_name, by walk_at "few", ?_⟩
    exact q _ upd_same fun b o e hb => by
      rw [upd_ne hb]
      exact e
theorem ok_BothOf_init (T : Facts K mg) : OkFn P w K mg base CX0 1 (He.ma K (He.ga K "BothOf") "__init__") 3 (spInit2 K "BothOf" "one" "other") := by
  refine mk_fn T.d_BothOf_init sc_BothOf_init (fun _ _ _ _ _ _ us hl => match us, hl with | [_, _, _], _ => rfl) (fun vs H Q E h => ?_) (fun cdv A outer s H vs Q E hr h => ?_)
  · obtain ⟨_, _, _, _, rfl, _⟩ := h
    rfl
  · obtain ⟨p, dx, x, y, rfl, hp, q⟩ := h
    refine ⟨_, PSs.nox (pss_cons (ps_fld (pv 0) (pv 1) rfl)
      (pss_one (ps_fld (pv 0) (pv 2) rfl))), ?_⟩
    refine ⟨_, rfl, _, rfl, _, _, _, _, rfl, hp, T.c_BothOf, T.n_BothOf_one, by walk_at "few", ?_⟩
    refine ⟨_, rfl, _, rfl, _, _, _, _, rfl, upd_same, T.c_BothOf, T.n_BothOf_other, by walk_at "few", ?_⟩
    exact q _ upd_same fun b o e hb => by
      rw [upd_ne hb, upd_ne hb]
      exact e
theorem ok_EitherOf_init (T : Facts K mg) : OkFn P w K mg base CX0 1 (He.ma K (He.ga K "EitherOf") "__init__") 3 (spInit2 K "EitherOf" "one" "other") := by
  refine mk_fn T.d_EitherOf_init sc_EitherOf_init (fun _ _ _ _ _ _ us hl => match us, hl with | [_, _, _], _ => rfl) (fun vs H Q E h => ?_) (fun cdv A outer s H vs Q E hr h => ?_)
  · obtain ⟨_, _, _, _, rfl, _⟩ := h
    rfl
  · obtain ⟨p, dx, x, y, rfl, hp, q⟩ := h
    refine ⟨_, PSs.nox (pss_cons (ps_fld (pv 0) (pv 1) rfl)
      (pss_one (ps_fld (pv 0) (pv 2) rfl))), ?_⟩
    refine ⟨_, rfl, _, rfl, _, _, _, _, rfl, hp, T.c_EitherOf, T.n_EitherOf_one, by walk_at "few", ?_⟩
    refine ⟨_, rfl, _, rfl, _, _, _, _, rfl, upd_same, T.c_EitherOf, T.n_EitherOf_other, by walk_at "few", ?_⟩
    exact q _ upd_same fun b o e hb => by
      rw [upd_ne hb, upd_ne hb]
      exact e
theorem ok_ItemsStep_init (T : Facts K mg) : OkFn P w K mg base CX0 1 (He.ma K (He.ga K "ItemsStep") "__init__") 3 (spInit2 K "ItemsStep" "low" "high") := by
  refine mk_fn T.d_ItemsStep_init sc_ItemsStep_init (fun _ _ _ _ _ _ us hl => match us, hl with | [_, _, _], _ => rfl) (fun vs H Q E h => ?_) (fun cdv A outer s H vs Q E hr h => ?_)
  · obtain ⟨_, _, _, _, rfl, _⟩ := h
    rfl
  · obtain ⟨p, dx, x, y, rfl, hp, q⟩ := h
    refine ⟨_, PSs.nox (pss_cons (ps_fld (pv 0) (pv 1) rfl)
      (pss_one (ps_fld (pv 0) (pv 2) rfl))), ?_⟩
    refine ⟨_, rfl, _, rfl, _, _, _, _, rfl, hp, T.c_ItemsStep, T.n_ItemsStep_low, by walk_at "few", ?_⟩
    refine ⟨_, rfl, _, rfl, _, _, _, _, rfl, upd_same, T.c_ItemsStep, T.n_ItemsStep_high, by walk_at "few", ?_⟩
    exact q _ upd_same fun b o e hb => by
      rw [upd_ne hb, upd_ne hb]
      exact e
theorem ok_SameAs_holds (T : Facts K mg) {v : Vapaqa.Tree} : OkFn P w K mg base CX0 1 (He.ma K (He.ga K "SameAs") "holds") 2 (spHolds K (.same v)) := by
  refine mk_fn T.d_SameAs_holds sc_SameAs_holds (fun _ _ _ _ _ _ us hl => match us, hl with | [_, _], _ => rfl) (fun vs H Q E h => ?_) (fun cdv A outer s H vs Q E hr h => ?_)
  · obtain ⟨_, _, _, _, rfl, _⟩ := h
    rfl
  · obtain ⟨F, a, k, h, rfl, sF, ⟨l, ⟨dx, hi⟩, hl, hv⟩, hk, hh, q⟩ := h
    refine ⟨_, PSs.nox (pss_one (ps_ret (pe_cmpR (op_eqD hr.units) (pv 1) (pe_fld (pv 0) rfl) (nomark _)))), ?_⟩
    refine ⟨_, rfl, _, rfl, _, _, _, _, _, rfl, sF _ _ hi, T.c_SameAs, T.n_SameAs_leaf, rfl, ?_⟩
    refine ⟨keyT h, keyT (.leaf v), dp_key (hk.mono sF), dp_key (hl.mono sF), shaped_keyT _, shaped_keyT _, ?_⟩
    rw [eqv_key hh hv]
    exact q _ (Same.refl _)
theorem ok_BeforeLeaf_holds (T : Facts K mg) {v : Vapaqa.Tree} : OkFn P w K mg base CX0 1 (He.ma K (He.ga K "BeforeLeaf") "holds") 2 (spHolds K (.less v)) := by
  refine mk_fn T.d_BeforeLeaf_holds sc_BeforeLeaf_holds (fun _ _ _ _ _ _ us hl => match us, hl with | [_, _], _ => rfl) (fun vs H Q E h => ?_) (fun cdv A outer s H vs Q E hr h => ?_)
  · obtain ⟨_, _, _, _, rfl, _⟩ := h
    rfl
  · obtain ⟨F, a, k, h, rfl, sF, ⟨l, ⟨dx, hi⟩, hl, hv⟩, hk, hh, q⟩ := h
    refine ⟨_, PSs.nox (pss_one (ps_ret (pe_cmpR (op_ltKey hr.units) (pv 1) (pe_fld (pv 0) rfl) (nomark _)))), ?_⟩
    refine ⟨_, rfl, _, rfl, _, _, _, _, _, rfl, sF _ _ hi, T.c_BeforeLeaf, T.n_BeforeLeaf_leaf, rfl, ?_⟩
    exact lt_keys (hk.mono sF) (hl.mono sF) (lt_before hh hv) (q _ (Same.refl _))
theorem ok_BehindLeaf_holds (T : Facts K mg) {v : Vapaqa.Tree} : OkFn P w K mg base CX0 1 (He.ma K (He.ga K "BehindLeaf") "holds") 2 (spHolds K (.more v)) := by
  refine mk_fn T.d_BehindLeaf_holds sc_BehindLeaf_holds (fun _ _ _ _ _ _ us hl => match us, hl with | [_, _], _ => rfl) (fun vs H Q E h => ?_) (fun cdv A outer s H vs Q E hr h => ?_)
  · obtain ⟨_, _, _, _, rfl, _⟩ := h
    rfl
  · obtain ⟨F, a, k, h, rfl, sF, ⟨l, ⟨dx, hi⟩, hl, hv⟩, hk, hh, q⟩ := h
    refine ⟨_, PSs.nox (pss_one (ps_ret (pe_cmpR (op_ltKey hr.units) (pe_fld (pv 0) rfl) (pv 1) (nomark _)))), ?_⟩
    refine ⟨_, rfl, _, _, _, _, _, rfl, sF _ _ hi, T.c_BehindLeaf, T.n_BehindLeaf_leaf, rfl, _, rfl, ?_⟩
    exact lt_keys (hl.mono sF) (hk.mono sF) (lt_behind hh hv) (q _ (Same.refl _))
theorem cls_of (T : Facts K mg) (t : Test) : Cls K (He.ga K (clsT t)) ∧ Meth K (He.ga K (clsT t)) "holds" (He.ma K (He.ga K (clsT t)) "holds") := by
  cases t with
  | same v => exact ⟨T.c_SameAs, T.m_SameAs_holds⟩
  | less v => exact ⟨T.c_BeforeLeaf, T.m_BeforeLeaf_holds⟩
  | more v => exact ⟨T.c_BehindLeaf, T.m_BehindLeaf_holds⟩
  | not_ t => exact ⟨T.c_Negation, T.m_Negation_holds⟩
  | and_ t u => exact ⟨T.c_BothOf, T.m_BothOf_holds⟩
  | or_ t u => exact ⟨T.c_EitherOf, T.m_EitherOf_holds⟩
abbrev HoldsOk (P : Program) (w : World) (K : PySem.W.Frag) (mg : Str → Option Value) (base : Heap) (j : Nat) (t : Test) : Prop := OkFn P w K mg base CX0 j (He.ma K (He.ga K (clsT t)) "holds") 2 (spHolds K t)
/-- the call o.holds(key), the test's promise in hand -/
theorem call_holds (T : Facts K mg) {j : Nat} {t : Test} (G : HoldsOk P w K mg base j t) {F H : Hp} {b : Addr} (sF : Same F H) (ht : TestAt K F b t) {R : Addr → Addr → Addr → List (Str × V) → Addr → Nat → Sp → Prop}
    (h : ∀ dx fs, H b = some (.ins (He.ga K (clsT t)) dx fs) → fs.lookup ("holds" : Str) = none → R b (He.ga K (clsT t)) dx fs (He.ma K (He.ga K (clsT t)) "holds") 2 (spHolds K t)) : ∃ dx fs, R b (He.ga K (clsT t)) dx fs (He.ma K (He.ga K (clsT t)) "holds") 2 (spHolds K t) := by
  obtain ⟨dx, fs, e, l⟩ := ht.ins
  exact ⟨dx, fs, h dx fs (sF _ _ e) l⟩
theorem ok_Negation_holds (T : Facts K mg) {t : Test} {j : Nat} (G : HoldsOk P w K mg base j t) : OkFn P w K mg base CX0 (j+1) (He.ma K (He.ga K "Negation") "holds") 2 (spHolds K (.not_ t)) := by
  refine mk_fn T.d_Negation_holds sc_Negation_holds (fun _ _ _ _ _ _ us hl => match us, hl with | [_, _], _ => rfl) (fun vs H Q E h => ?_) (fun cdv A outer s H vs Q E hr h => ?_)
  · obtain ⟨_, _, _, _, rfl, _⟩ := h
    rfl
  · obtain ⟨F, a, k, h, rfl, sF, ⟨b, ⟨dx, hi⟩, hb⟩, hk, hh, q⟩ := h
    refine ⟨_, PSs.nox (pss_one (ps_ret (pe_not (c_methD (pe_fld (pv 0) rfl) hr pass0 (pa_cons (pv 1) pa_nil))))), ?_⟩
    obtain ⟨dx2, fs2, e2, l2⟩ := hb.ins
    refine ⟨_, rfl, _, _, _, _, _, rfl, sF _ _ hi, T.c_Negation, T.n_Negation_part, rfl, ?_⟩
    refine ⟨b, _, dx2, fs2, _, _, _, rfl, sF _ _ e2, l2, (cls_of T t).1, (cls_of T t).2, G, ?_⟩
    walk_at "v"
    exact ⟨F, b, k, h, rfl, sF, hb, hk, hh, fun H1 s1 => ⟨_, rfl, q _ s1⟩⟩
theorem ok_BothOf_holds (T : Facts K mg) {t u : Test} {j : Nat} (G1 : HoldsOk P w K mg base j t) (G2 : HoldsOk P w K mg base j u) : OkFn P w K mg base CX0 (j+1) (He.ma K (He.ga K "BothOf") "holds") 2 (spHolds K (.and_ t u)) := by
  refine mk_fn T.d_BothOf_holds sc_BothOf_holds (fun _ _ _ _ _ _ us hl => match us, hl with | [_, _], _ => rfl) (fun vs H Q E h => ?_) (fun cdv A outer s H vs Q E hr h => ?_)
  · obtain ⟨_, _, _, _, rfl, _⟩ := h
    rfl
  · obtain ⟨F, a, k, h, rfl, sF, ⟨b, c, ⟨dx, hi⟩, hb, hc⟩, hk, hh, q⟩ := h
    refine ⟨_, PSs.nox (pss_one (ps_ret (pe_and (c_methD (pe_fld (pv 0) rfl) hr pass0 (pa_cons (pv 1) pa_nil)) (pe_one (c_methD (pe_fld (pv 0) rfl) hr pass0 (pa_cons (pv 1) pa_nil)))))), ?_⟩
    obtain ⟨dx2, fs2, e2, l2⟩ := hb.ins
    obtain ⟨dx3, fs3, e3, l3⟩ := hc.ins
    refine ⟨_, rfl, _, _, _, _, _, rfl, sF _ _ hi, T.c_BothOf, T.n_BothOf_one, rfl, ?_⟩
    refine ⟨b, _, dx2, fs2, _, _, _, rfl, sF _ _ e2, l2, (cls_of T t).1, (cls_of T t).2, G1, ?_⟩
    walk_at "v"
    refine ⟨F, b, k, h, rfl, sF, hb, hk, hh, fun H1 s1 => ⟨_, rfl, ?_⟩⟩
    have q' : ∀ H', Same H H' → Q (.bl (holds t h && holds u h)) H' := q
    cases h1 : holds t h with
    | false =>
      rw [h1] at q'
      exact q' _ s1
    | true =>
      rw [h1, Bool.true_and] at q'
      have s2 := sF.trans s1
      refine ⟨_, rfl, _, _, _, _, _, rfl, s2 _ _ hi, T.c_BothOf, T.n_BothOf_other, rfl, ?_⟩
      refine ⟨c, _, dx3, fs3, _, _, _, rfl, s2 _ _ e3, l3, (cls_of T u).1, (cls_of T u).2, G2, ?_⟩
      walk_at "v"
      exact ⟨F, c, k, h, rfl, s2, hc, hk, hh, fun H2 s3 => q' _ (s1.trans s3)⟩
theorem ok_EitherOf_holds (T : Facts K mg) {t u : Test} {j : Nat} (G1 : HoldsOk P w K mg base j t) (G2 : HoldsOk P w K mg base j u) : OkFn P w K mg base CX0 (j+1) (He.ma K (He.ga K "EitherOf") "holds") 2 (spHolds K (.or_ t u)) := by
  refine mk_fn T.d_EitherOf_holds sc_EitherOf_holds (fun _ _ _ _ _ _ us hl => match us, hl with | [_, _], _ => rfl) (fun vs H Q E h => ?_) (fun cdv A outer s H vs Q E hr h => ?_)
  · obtain ⟨_, _, _, _, rfl, _⟩ := h
    rfl
  · obtain ⟨F, a, k, h, rfl, sF, ⟨b, c, ⟨dx, hi⟩, hb, hc⟩, hk, hh, q⟩ := h
    refine ⟨_, PSs.nox (pss_one (ps_ret (pe_or (c_methD (pe_fld (pv 0) rfl) hr pass0 (pa_cons (pv 1) pa_nil)) (pe_one (c_methD (pe_fld (pv 0) rfl) hr pass0 (pa_cons (pv 1) pa_nil)))))), ?_⟩
    obtain ⟨dx2, fs2, e2, l2⟩ := hb.ins
    obtain ⟨dx3, fs3, e3, l3⟩ := hc.ins
    refine ⟨_, rfl, _, _, _, _, _, rfl, sF _ _ hi, T.c_EitherOf, T.n_EitherOf_one, rfl, ?_⟩
    refine ⟨b, _, dx2, fs2, _, _, _, rfl, sF _ _ e2, l2, (cls_of T t).1, (cls_of T t).2, G1, ?_⟩
    walk_at "v"
    refine ⟨F, b, k, h, rfl, sF, hb, hk, hh, fun H1 s1 => ⟨_, rfl, ?_⟩⟩
    have q' : ∀ H', Same H H' → Q (.bl (holds t h || holds u h)) H' := q
    cases h1 : holds t h with
    | true =>
      rw [h1] at q'
      exact q' _ s1
    | false =>
      rw [h1, Bool.false_or] at q'
      have s2 := sF.trans s1
      refine ⟨_, rfl, _, _, _, _, _, rfl, s2 _ _ hi, T.c_EitherOf, T.n_EitherOf_other, rfl, ?_⟩
      refine ⟨c, _, dx3, fs3, _, _, _, rfl, s2 _ _ e3, l3, (cls_of T u).1, (cls_of T u).2, G2, ?_⟩
      walk_at "v"
      exact ⟨F, c, k, h, rfl, s2, hc, hk, hh, fun H2 s3 => q' _ (s1.trans s3)⟩
theorem ok_holds (T : Facts K mg) : ∀ t : Test, HoldsOk P w K mg base (tdepth t + 1) t
  | .same v => ok_SameAs_holds T
  | .less v => ok_BeforeLeaf_holds T
  | .more v => ok_BehindLeaf_holds T
  | .not_ t => ok_Negation_holds T (ok_holds T t)
  | .and_ t u => ok_BothOf_holds T ((ok_holds T t).mono (Nat.succ_le_succ (Nat.le_max_left _ _))) ((ok_holds T u).mono (Nat.succ_le_succ (Nat.le_max_right _ _)))
  | .or_ t u => ok_EitherOf_holds T ((ok_holds T t).mono (Nat.succ_le_succ (Nat.le_max_left _ _))) ((ok_holds T u).mono (Nat.succ_le_succ (Nat.le_max_right _ _)))
end
end TS
end
section
set_option Elab.async false
set_option linter.all false
set_option maxRecDepth 100000
set_option maxHeartbeats 4000000
namespace TS
open PySem PySem.Spec PyProof.Rows L2
open Vapaqf (Head Way Token matches_ faultOf)
open Vapaqa (Text Name)
local macro_rules | `(tactic| walk_at "v") => `(tactic| repeat (first | refine ⟨_, rfl, ?_⟩ | refine ⟨_, _, rfl, rfl, ?_⟩ | refine ⟨_, _, rfl, ?_⟩))
/-! ### C(), a class whose __init__ is object's -/
def tBare (C : Addr) : TE := fun _ H Q => ∀ y dx, H y = none → H dx = none → dx ≠ y → Q (.ref y) (upd (upd H dx (.own y)) y (.ins C dx []))
theorem c_bare {X : Cx} {x : Str} {p pos : Pos} {C : Addr} (hm : PySem.W.makesIn X.K C = true) (hi : PySem.W.findIn X.K (.ref C) "__init__" = some (some (.builtin "object.__init__"))) (kp : PySem.W.keepIn X.K (.ref C) = true)
    (hg : Gl X x) (hmg : X.mg x = some (.ref C)) (hdb : (x == ("__debug__" : Str)) = false := by decide) : PE X (.Call (.Name x p) [] [] pos) (tBare C) := by
  refine ⟨fun pins s σ H Q I h => wpAny_Call_Name_kw (ld_glob I hg hmg (PySem.W.callWith_K0 I.kIn kp (wpAny_call (make_map0 I.kIn hm hi (fun self => PySem.W.Looks.of_pure (PySem.W.oi_bind self)) ?_))) hdb)⟩
  have hq := h (s.heap.objs.size + 1) s.heap.objs.size (I.hok.fresh (Nat.le_succ _)) (I.hok.fresh (Nat.le_refl _)) (Nat.ne_of_lt (Nat.lt_succ_self _))
  have I2 := Inv.made (C := C) I
  have e2 : ((s.heap.push PySem.W.emptyDict).push (PySem.W.instObj C s.heap.objs.size)).get? (s.heap.objs.size + 1) = some (PySem.W.instObj C s.heap.objs.size) := by
    have z := Heap.get?_push_size (s.heap.push PySem.W.emptyDict) (o := PySem.W.instObj C s.heap.objs.size) rfl
    rw [Heap.size_push] at z
    exact z
  have Y := PySem.W.makes_of (M := model X.prog X.w) I.kIn hm
  have ty : PySem.W.Looks (model X.prog X.w) ((s.heap.push PySem.W.emptyDict).push (PySem.W.instObj C s.heap.objs.size)) (typeOf (.ref (s.heap.objs.size + 1))) (.ref C) := (PySem.W.Looks.ld e2).andThen .now
  have top : PySem.W.Looks (model X.prog X.w) ((s.heap.push PySem.W.emptyDict).push (PySem.W.instObj C s.heap.objs.size)) (isInstance (.ref (s.heap.objs.size + 1)) (.type "object")) true := ty.andThen (Y.top.keeps fun b o e => Heap.get?_push_of_some _ (Heap.get?_push_of_some _ e))
  refine PySem.codeAny_call_builtin PySem.W.oi_plain PySem.W.entry_oi (@PySem.W.check_slot (model X.prog X.w) _ _ _ "object.__init__" "object" "__init__" (.ref (s.heap.objs.size + 1)) [] [] _ PySem.W.oi_kind PySem.W.oi_split top (PySem.W.oi_args _) ?_)
  rw [PySem.W.oi_run]
  exact wpAny_pure ⟨rfl, V.ref (s.heap.objs.size + 1), _, I2, rfl, hq⟩
theorem pe_each {X : Cx} {p pos : Pos} (T : Facts X.K X.mg) (hg : Gl X "EachStep") : PE X (.Call (.Name "EachStep" p) [] [] pos) (tBare (He.ga X.K "EachStep")) := by
  obtain ⟨-, x⟩ := He.ba T.xt
  obtain ⟨-, x⟩ := He.ba x
  obtain ⟨x1, x⟩ := He.ba x
  obtain ⟨x2, x3⟩ := He.ba x
  exact c_bare x1 (He.eqO_ok x2) x3 hg T.g_EachStep
/-! ### steps in the heap -/
def highV : Option Nat → V
  | none => .non
  | some k => .int (k : Int)
def StepAt (K : PySem.W.Frag) (F : Hp) (a : Addr) : Way → Prop
  | .field n => ∃ b, InsAt K F "FieldStep" a [("name", .ref b)] ∧ TextAt F b n
  | .items lo hi => InsAt K F "ItemsStep" a [("low", .int (lo : Int)), ("high", highV hi)]
  | .each => InsAt K F "EachStep" a []
theorem StepAt.mono {K : PySem.W.Frag} {F F' : Hp} {a : Addr} {w : Way} (s : Same F F') (h : StepAt K F a w) : StepAt K F' a w := by
  cases w with
  | field n => obtain ⟨b, i, t⟩ := h; exact ⟨b, i.mono s, s _ _ t⟩
  | items lo hi => exact InsAt.mono s h
  | each => exact InsAt.mono s h
def clsW : Way → Str
  | .field _ => "FieldStep"
  | .items _ _ => "ItemsStep"
  | .each => "EachStep"
theorem StepAt.ins {K : PySem.W.Frag} {F : Hp} {a : Addr} {w : Way} (h : StepAt K F a w) : ∃ dx fs, F a = some (.ins (He.ga K (clsW w)) dx fs) ∧ fs.lookup ("fault_in" : Str) = none ∧ fs.lookup ("picks" : Str) = none := by
  cases w with
  | field n => obtain ⟨b, ⟨dx, i⟩, t⟩ := h; exact ⟨dx, _, i, rfl, rfl⟩
  | items lo hi => obtain ⟨dx, i⟩ := h; exact ⟨dx, _, i, rfl, rfl⟩
  | each => obtain ⟨dx, i⟩ := h; exact ⟨dx, _, i, rfl, rfl⟩
theorem clsW_of {K : PySem.W.Frag} {mg : Str → Option Value} (T : Facts K mg) (w : Way) : Cls K (He.ga K (clsW w)) ∧ Meth K (He.ga K (clsW w)) "fault_in" (He.ma K (He.ga K (clsW w)) "fault_in") ∧ Meth K (He.ga K (clsW w)) "picks" (He.ma K (He.ga K (clsW w)) "picks") := by
  cases w with
  | field n => exact ⟨T.c_FieldStep, T.m_FieldStep_fault_in, T.m_FieldStep_picks⟩
  | items lo hi => exact ⟨T.c_ItemsStep, T.m_ItemsStep_fault_in, T.m_ItemsStep_picks⟩
  | each => exact ⟨T.c_EachStep, T.m_EachStep_fault_in, T.m_EachStep_picks⟩
def kindH : Head → Int
  | .leaf _ => 0
  | .list => 1
  | .record => 2
def spFault (K : PySem.W.Frag) (wy : Way) : Sp := fun vs H Q _ => ∃ (a : Addr) (h : Head), vs = [.ref a, .int (kindH h)] ∧ StepAt K H a wy ∧ Q (.int (faultN wy h)) H
/-- the step of a place, as a value -/
def WayV (F : Hp) (v : V) : Vapaqa.Step → Prop
  | .item i => v = .int (i : Int)
  | .name n => ∃ b, v = .ref b ∧ TextAt F b n
theorem WayV.mono {F F' : Hp} {v : V} {s : Vapaqa.Step} (e : Same F F') (h : WayV F v s) : WayV F' v s := by
  cases s with
  | item i => exact h
  | name n => obtain ⟨b, e1, t⟩ := h; exact ⟨b, e1, e _ _ t⟩
def spPicks (K : PySem.W.Frag) (wy : Way) : Sp := fun vs H Q _ => ∃ (a : Addr) (v : V) (s : Vapaqa.Step), vs = [.ref a, v] ∧ StepAt K H a wy ∧ WayV H v s ∧ (match wy, s with
    | .items _ _, .name _ => False
    | _, _ => True) ∧ Q (.bl (matches_ wy s)) H
section
variable {P : Program} {w : World} {K : PySem.W.Frag} {mg : Str → Option Value} {base : Heap}
theorem ok_FieldStep_fault_in (T : Facts K mg) {n : Name} : OkFn P w K mg base CX0 1 (He.ma K (He.ga K "FieldStep") "fault_in") 2 (spFault K (.field n)) := by
  refine mk_fn T.d_FieldStep_fault_in sc_FieldStep_fault_in (fun _ _ _ _ _ _ us hl => match us, hl with | [_, _], _ => rfl) (fun vs H Q E h => ?_) (fun cdv A outer s H vs Q E hr h => ?_)
  · obtain ⟨_, _, rfl, _⟩ := h
    rfl
  · obtain ⟨a, h, rfl, ⟨b, ⟨dx, hi⟩, ht⟩, q⟩ := h
    refine ⟨_, PSs.nox (pss_cons (ps_if (pt_cmpR op_eq (pv 1) (pe_num rfl T.i_RECORD) (nomark _))
        (pss_one (ps_ret (pe_num rfl T.i_NO_FAULT)))
        pss_nil)
      (pss_one (ps_ret (pe_num rfl T.i_NO_RECORD)))), ?_⟩
    refine ⟨_, rfl, rfl, ?_⟩
    cases h <;> exact ⟨_, rfl, q⟩
theorem ok_ItemsStep_fault_in (T : Facts K mg) {lo : Nat} {hi : Option Nat} : OkFn P w K mg base CX0 1 (He.ma K (He.ga K "ItemsStep") "fault_in") 2 (spFault K (.items lo hi)) := by
  refine mk_fn T.d_ItemsStep_fault_in sc_ItemsStep_fault_in (fun _ _ _ _ _ _ us hl => match us, hl with | [_, _], _ => rfl) (fun vs H Q E h => ?_) (fun cdv A outer s H vs Q E hr h => ?_)
  · obtain ⟨_, _, rfl, _⟩ := h
    rfl
  · obtain ⟨a, h, rfl, ⟨dx, hi⟩, q⟩ := h
    refine ⟨_, PSs.nox (pss_cons (ps_if (pt_cmpR op_eq (pv 1) (pe_num rfl T.i_LIST) (nomark _))
        (pss_one (ps_ret (pe_num rfl T.i_NO_FAULT)))
        pss_nil)
      (pss_one (ps_ret (pe_num rfl T.i_NO_LIST)))), ?_⟩
    refine ⟨_, rfl, rfl, ?_⟩
    cases h <;> exact ⟨_, rfl, q⟩
theorem ok_EachStep_fault_in (T : Facts K mg) : OkFn P w K mg base CX0 1 (He.ma K (He.ga K "EachStep") "fault_in") 2 (spFault K .each) := by
  refine mk_fn T.d_EachStep_fault_in sc_EachStep_fault_in (fun _ _ _ _ _ _ us hl => match us, hl with | [_, _], _ => rfl) (fun vs H Q E h => ?_) (fun cdv A outer s H vs Q E hr h => ?_)
  · obtain ⟨_, _, rfl, _⟩ := h
    rfl
  · obtain ⟨a, h, rfl, ⟨dx, hi⟩, q⟩ := h
    refine ⟨_, PSs.nox (pss_cons (ps_if (pt_cmpR op_eq (pv 1) (pe_num rfl T.i_LEAF) (nomark _))
        (pss_one (ps_ret (pe_num rfl T.i_ONLY_LEAF)))
        pss_nil)
      (pss_one (ps_ret (pe_num rfl T.i_NO_FAULT)))), ?_⟩
    refine ⟨_, rfl, rfl, ?_⟩
    cases h <;> exact ⟨_, rfl, q⟩
theorem ok_EachStep_picks (T : Facts K mg) : OkFn P w K mg base CX0 1 (He.ma K (He.ga K "EachStep") "picks") 2 (spPicks K .each) := by
  refine mk_fn T.d_EachStep_picks sc_EachStep_picks (fun _ _ _ _ _ _ us hl => match us, hl with | [_, _], _ => rfl) (fun vs H Q E h => ?_) (fun cdv A outer s H vs Q E hr h => ?_)
  · obtain ⟨_, _, _, rfl, _⟩ := h
    rfl
  · obtain ⟨a, v, st, rfl, ⟨dx, hi⟩, hv, -, q⟩ := h
    refine ⟨_, PSs.nox (pss_one (ps_ret pe_bl)), ?_⟩
    exact q
theorem dp_text {K : PySem.W.Frag} {H : Hp} {b : Addr} {t : Text} (h : TextAt H b t) : Dp K H (.ref b) (.list (dB t)) := .lst (SqL.of h) (dp_bs t)
theorem beq_comm_text (a b : Text) : decide (a = b) = (b == a) := by
  by_cases h : a = b
  · subst h; simp
  · have : ¬ b = a := fun z => h z.symm
    simp [h, this]
theorem ok_FieldStep_picks (T : Facts K mg) {n : Name} : OkFn P w K mg base CX0 1 (He.ma K (He.ga K "FieldStep") "picks") 2 (spPicks K (.field n)) := by
  refine mk_fn T.d_FieldStep_picks sc_FieldStep_picks (fun _ _ _ _ _ _ us hl => match us, hl with | [_, _], _ => rfl) (fun vs H Q E h => ?_) (fun cdv A outer s H vs Q E hr h => ?_)
  · obtain ⟨_, _, _, rfl, _⟩ := h
    rfl
  · obtain ⟨a, v, st, rfl, ⟨b, ⟨dx, hi⟩, ht⟩, hv, -, q⟩ := h
    refine ⟨_, PSs.nox (pss_one (ps_ret (pe_cmpR (op_eqD hr.units) (pv 1) (pe_fld (pv 0) rfl) (nomark _)))), ?_⟩
    refine ⟨_, rfl, _, rfl, _, _, _, _, _, rfl, hi, T.c_FieldStep, T.n_FieldStep_name, rfl, ?_⟩
    cases st with
    | item i =>
      have hv' : v = .int (i : Int) := hv
      subst hv'
      refine ⟨.int i, .list (dB n), .int _, dp_text ht, by simp [SeqAt.shaped, PyData.canLay0, PyData.depth], shaped_dB n, ?_⟩
      exact q
    | name m =>
      obtain ⟨c, rfl, hc⟩ := hv
      refine ⟨.list (dB m), .list (dB n), dp_text hc, dp_text ht, shaped_dB m, shaped_dB n, ?_⟩
      rw [PyData.eqv, eqvAll_dB, beq_comm_text]
      exact q
theorem ok_ItemsStep_picks (T : Facts K mg) {lo : Nat} {hi : Option Nat} : OkFn P w K mg base CX0 1 (He.ma K (He.ga K "ItemsStep") "picks") 2 (spPicks K (.items lo hi)) := by
  refine mk_fn T.d_ItemsStep_picks sc_ItemsStep_picks (fun _ _ _ _ _ _ us hl => match us, hl with | [_, _], _ => rfl) (fun vs H Q E h => ?_) (fun cdv A outer s H vs Q E hr h => ?_)
  · obtain ⟨_, _, _, rfl, _⟩ := h
    rfl
  · obtain ⟨a, v, st, rfl, ⟨dx, hi⟩, hv, hty, q⟩ := h
    refine ⟨_, PSs.nox (pss_one (ps_ret (pe_and (pe_cmpR op_le (pe_fld (pv 0) rfl) (pv 1) (nomark _)) (pe_one (pe_or (pe_cmpR op_isN (pe_fld (pv 0) rfl) pe_non (nomark _)) (pe_one (pe_cmpR op_lt (pv 1) (pe_fld (pv 0) rfl) (nomark _)))))))), ?_⟩
    cases st with
    | name m => exact hty.elim
    | item i =>
      have hv' : v = .int (i : Int) := hv
      subst hv'
      have q' : Q (.bl (decide (lo ≤ i) && Option.all (fun k => decide (i < k)) _)) H := q
      refine ⟨_, rfl, _, _, _, _, _, rfl, hi, T.c_ItemsStep, T.n_ItemsStep_low, rfl, ?_⟩
      walk_at "v"
      have e1 : decide ((lo : Int) ≤ (i : Int)) = decide (lo ≤ i) := by simp
      rw [e1]
      by_cases hlo : lo ≤ i
      · rw [decide_eq_true hlo, Bool.true_and] at q'
        refine if_pos_of (decide_eq_true hlo) ?_
        refine ⟨_, rfl, _, _, _, _, _, rfl, hi, T.c_ItemsStep, T.n_ItemsStep_high, rfl, rfl, ?_⟩
        rename_i hh
        cases hh with
        | none => exact ⟨_, rfl, q'⟩
        | some k =>
          refine ⟨_, rfl, ?_⟩
          refine ⟨_, rfl, _, rfl, _, _, _, _, _, rfl, hi, T.c_ItemsStep, T.n_ItemsStep_high, rfl, ?_⟩
          have e2 : decide ((i : Int) < (k : Int)) = decide (i < k) := by simp
          refine ⟨_, _, rfl, rfl, ?_⟩
          show Q (.bl (decide ((i : Int) < (k : Int)))) H
          rw [e2]
          exact q'
      · rw [decide_eq_false hlo, Bool.false_and] at q'
        refine if_neg_of (decide_eq_false hlo) ?_
        exact q'
theorem ok_fault (T : Facts K mg) (wy : Way) : OkFn P w K mg base CX0 1 (He.ma K (He.ga K (clsW wy)) "fault_in") 2 (spFault K wy) := by
  cases wy with
  | field n => exact ok_FieldStep_fault_in T
  | items lo hi => exact ok_ItemsStep_fault_in T
  | each => exact ok_EachStep_fault_in T
theorem ok_picks (T : Facts K mg) (wy : Way) : OkFn P w K mg base CX0 1 (He.ma K (He.ga K (clsW wy)) "picks") 2 (spPicks K wy) := by
  cases wy with
  | field n => exact ok_FieldStep_picks T
  | items lo hi => exact ok_ItemsStep_picks T
  | each => exact ok_EachStep_picks T
end
end TS
end
section
set_option Elab.async false
set_option linter.all false
set_option maxRecDepth 100000
set_option maxHeartbeats 4000000
namespace TS
open PySem PySem.Spec PyProof.Rows L2
open Vapaqf (Head Way Token matches_ faultOf Plan)
open Vapaqa (Text Name stepText placeText)
abbrev Pl := Vapaqa.Place
local macro_rules | `(tactic| walk_at "v") => `(tactic| repeat (first | refine ⟨_, rfl, ?_⟩ | refine ⟨_, _, rfl, rfl, ?_⟩ | refine ⟨_, _, rfl, ?_⟩))
/-! ### places in the heap -/
def WaysV (F : Hp) : List V → Pl → Prop
  | [], [] => True
  | v :: vs, s :: q => WayV F v s ∧ WaysV F vs q
  | _, _ => False
theorem WaysV.mono {F F' : Hp} (e : Same F F') : ∀ {vs : List V} {q : Pl}, WaysV F vs q → WaysV F' vs q
  | [], [], _ => trivial
  | _ :: _, _ :: _, h => ⟨h.1.mono e, WaysV.mono e h.2⟩
  | [], _ :: _, h => h.elim
  | _ :: _, [], h => h.elim
theorem WaysV.length {F : Hp} : ∀ {vs : List V} {q : Pl}, WaysV F vs q → vs.length = q.length
  | [], [], _ => rfl
  | _ :: _, _ :: _, h => congrArg Nat.succ (WaysV.length h.2)
  | [], _ :: _, h => h.elim
  | _ :: _, [], h => h.elim
theorem WaysV.get {F : Hp} : ∀ {vs : List V} {q : Pl} {i : Nat} {v : V}, WaysV F vs q → vs[i]? = some v → ∃ s, q[i]? = some s ∧ WayV F v s
  | [], [], i, v, _, e => by simp at e
  | w :: _, s :: _, 0, v, h, e => ⟨s, rfl, (Option.some.inj e) ▸ h.1⟩
  | _ :: vs, _ :: q, i + 1, v, h, e => WaysV.get (vs := vs) (q := q) (i := i) h.2 e
  | [], _ :: _, _, _, h, _ => h.elim
  | _ :: _, [], _, _, h, _ => h.elim
def PlaceAt (F : Hp) (a : Addr) (q : Pl) : Prop := ∃ vs, F a = some (.lst vs) ∧ WaysV F vs q
theorem PlaceAt.mono {F F' : Hp} {a : Addr} {q : Pl} (e : Same F F') (h : PlaceAt F a q) : PlaceAt F' a q := by
  obtain ⟨vs, e1, w⟩ := h
  exact ⟨vs, e _ _ e1, w.mono e⟩
/-- places as they are in trees -/
def PlaceOk (q : Pl) : Prop := q.length ≤ 6 ∧ ∀ s ∈ q, match s with
  | Vapaqa.Step.item i => i < 10
  | Vapaqa.Step.name n => n.length ≤ 10
def slashed (q : Pl) : Text := q.flatMap fun s => 47 :: stepText s
theorem slashed_take {q : Pl} {i : Nat} {s : Vapaqa.Step} (h : q[i]? = some s) : slashed (q.take (i + 1)) = slashed (q.take i) ++ 47 :: stepText s := by
  unfold slashed
  rw [List.take_add_one, h, List.flatMap_append]
  simp
theorem step_short {q : Pl} (ok : PlaceOk q) {s : Vapaqa.Step} (h : s ∈ q) : (stepText s).length ≤ 10 := by
  have := ok.2 s h
  cases s with
  | name n => exact this
  | item i =>
    have h9 : i < 10 := this
    show (Vapaqa.decimal i).length ≤ 10
    rw [decimal_small h9]
    simp
theorem slashed_short {q : Pl} (ok : PlaceOk q) : ∀ i, (slashed (q.take i)).length ≤ 11 * i
  | 0 => by simp [slashed]
  | i + 1 => by
    cases h : q[i]? with
    | none =>
      have h1 : q.length ≤ i := List.getElem?_eq_none_iff.mp h
      have := slashed_short ok i
      rw [List.take_of_length_le h1] at this
      rw [List.take_of_length_le (by omega)]
      omega
    | some s =>
      have h1 := slashed_short ok i
      have h2 := step_short ok (List.mem_of_getElem? h)
      rw [slashed_take h]
      simp
      omega
theorem str_small : ∀ i : Nat, i < 10 → IsW (toString (i : Int)) (Vapaqa.decimal i)
  | 0, _ => by unfold IsW; decide +kernel
  | 1, _ => by unfold IsW; decide +kernel
  | 2, _ => by unfold IsW; decide +kernel
  | 3, _ => by unfold IsW; decide +kernel
  | 4, _ => by unfold IsW; decide +kernel
  | 5, _ => by unfold IsW; decide +kernel
  | 6, _ => by unfold IsW; decide +kernel
  | 7, _ => by unfold IsW; decide +kernel
  | 8, _ => by unfold IsW; decide +kernel
  | 9, _ => by unfold IsW; decide +kernel
  | i + 10, h => by omega
def spPlaceText : Sp := fun vs H Q _ => ∃ (a : Addr) (q : Pl), vs = [.ref a] ∧ PlaceAt H a q ∧ PlaceOk q ∧ ∀ H' p, Same H H' → H p = none → H' p = some (.lst (bs (placeText q))) → Q (.ref p) H'
section
variable {P : Program} {w : World} {K : PySem.W.Frag} {mg : Str → Option Value} {base : Heap}
theorem ok_place_text (T : Facts K mg) : OkFn P w K mg base CX0 2 (He.ga K "place_text") 1 spPlaceText := by
  refine mk_fn T.d_place_text sc_place_text (fun _ _ _ _ _ _ us hl => match us, hl with | [_], _ => rfl) (fun vs H Q E h => ?_) (fun cdv A outer s H vs Q E hr h => ?_)
  · obtain ⟨_, _, rfl, _⟩ := h
    rfl
  · obtain ⟨a, q, rfl, ⟨vs, ha, hw⟩, ok, k⟩ := h
    refine ⟨_, PSs.nox (pss_cons (ps_if (pt_cmpR op_eq (pe_callB call_len_seq (by rfl) T.f_len boot_len (pa_cons (pv 0) pa_nil)) pe_int (nomark _))
        (pss_one (ps_ret (c_fn (ok_codes T) (hr.mono (by decide)) rfl T.g_codes pass0 (pa_cons pe_str pa_nil))))
        pss_nil)
      (pss_cons (ps_set (i := 1) sc_place_text.nd rfl (.inl rfl) (pe_lst pa_nil))
      (pss_cons (ps_for PassesOwn.never rfl (pi_list (pv 0)) (pg_name (i := 2) sc_place_text.nd rfl (.inl rfl))
        (pss_cons (ps_expr (pe_bm PySem.F.plainAttrs_list PySem.F.slot_list_extend PySem.F.type_list_extend mt_extend (pv 1) (pa_cons (c_fn (ok_codes T) (hr.mono (by decide)) rfl T.g_codes pass0 (pa_cons pe_str pa_nil)) pa_nil)))
        (pss_one (ps_if (pt_val (pe_callB call_isi (by rfl) T.f_isinstance (by decide +kernel) (pa_cons (pv 2) (pa_cons (pe_bltn (v := .ty "int") (by rfl) T.f_int boot_int rfl) pa_nil))))
          (pss_one (ps_expr (pe_bm PySem.F.plainAttrs_list PySem.F.slot_list_extend PySem.F.type_list_extend mt_extend (pv 1) (pa_cons (c_fn (ok_codes T) (hr.mono (by decide)) rfl T.g_codes pass0 (pa_cons (pe_callTy call_str_int (by rfl) T.f_str (by decide +kernel) (pa_cons (pv 2) pa_nil)) pa_nil)) pa_nil))))
          (pss_one (ps_expr (pe_bm PySem.F.plainAttrs_list PySem.F.slot_list_extend PySem.F.type_list_extend mt_extend (pv 1) (pa_cons (pv 2) pa_nil))))))))
      (pss_one (ps_ret (pv 1)))))), ?_⟩
    have hl := hw.length
    walk_at "v"
    refine ⟨a, vs, rfl, .inl (SqL.of ha), ?_⟩
    walk_at "v"
    refine ⟨rfl, ?_⟩
    walk_at "v"
    cases hq : q with
    | nil =>
      have h0 : vs.length = 0 := by rw [hl, hq]; rfl
      refine if_pos_of (by rw [h0]; rfl) ?_
      refine ⟨"/", rfl, by decide, fun H1 p s1 hp h1 => ?_⟩
      exact k H1 p s1 hp (by rw [h1, hq]; rfl)
    | cons s0 q0 =>
      have h0 : ¬ vs.length = 0 := by rw [hl, hq]; simp
      refine if_neg_of (decide_eq_false fun z => h0 (by have := V.int.inj z; omega)) ?_
      refine ⟨by show 0 ≤ sizeLine; exact Nat.zero_le _, fun b hb => ?_⟩
      have hne : b ≠ a := fun z => by rw [z, ha] at hb; cases hb
      walk_at "v"
      refine ⟨⟨vs, SqL.of (upd_same_of hb _ _ ha)⟩, for_list (K := K) (a := a) (xs := vs) (fun i σ H1 => (∀ c o, H c = some o → H1 c = some o) ∧ H1 b = some (.lst (bs (slashed (q.take i)))) ∧ ∃ v : Option V, σ = [some (.ref a), some (.ref b), v]) ⟨upd_same_of hb, upd_same, none, rfl⟩ (fun i σ H1 _ p => SqL.of (p.1 _ _ ha)) ?_ ?_⟩
      · rintro i v σ H1 hv ⟨s1, hb1, u, rfl⟩
        obtain ⟨st, hst, hwv⟩ := hw.get hv
        have hi6 : i < 6 := by
          have := (List.getElem?_eq_some_iff.mp hst).1
          have := ok.1
          omega
        have hshort := slashed_short ok i
        have hss := step_short ok (List.mem_of_getElem? hst)
        have hokst := ok.2 st (List.mem_of_getElem? hst)
        walk_at "v"
        refine ⟨.inl ⟨rfl, _, SqL.of hb1⟩, ?_⟩
        refine ⟨"/", rfl, by decide, fun H2 p2 s2 hp2 h2 => ?_⟩
        have h2' : H2 p2 = some (.lst (bs [47])) := h2
        refine ⟨b, p2, _, _, rfl, rfl, s2 _ _ hb1, h2', by rw [bs_length, bs_length, sizeLine_eq]; simp; omega, ?_⟩
        have hb2 : b ≠ p2 := fun z => by rw [← z, hb1] at hp2; cases hp2
        have e3 : ∀ c o, H c = some o → upd H2 b (HO.lst (bs (slashed (q.take i)) ++ bs [47])) c = some o := fun c o e => by
          rw [upd_ne (fun z => by rw [z, hb] at e; cases e)]
          exact s2 _ _ (s1 _ _ e)
        have ebs : bs (slashed (q.take i)) ++ bs [47] = bs (slashed (q.take i) ++ [47]) := by simp [bs]
        rw [ebs] at e3 ⊢
        cases st with
        | item j =>
          have hv' : v = .int (j : Int) := hwv
          subst hv'
          have hj : j < 10 := hokst
          walk_at "v"
          refine ⟨.int (j : Int), .ty "int", .type "int", .type "int", true, rfl, .ty "int", .base (.int _), kit_ty (by decide +kernel), ?_⟩
          walk_at "v"
          refine ⟨.inl ⟨rfl, _, SqL.of upd_same⟩, ?_⟩
          walk_at "v"
          have hlog : (j : Int).natAbs.log2 < 1920 := by
            have h1 : (j : Int).natAbs = j := by simp
            rw [h1]
            have h2 : j.log2 ≤ j := Nat.log2_le_self j
            omega
          refine ⟨hlog, ?_⟩
          have hsw := str_small j hj
          have hsz := isW_size hsw
          have hd1 : (Vapaqa.decimal j).length = 1 := by rw [decimal_small hj]; rfl
          refine ⟨_, rfl, by rw [hsz, hd1]; omega, fun H3 p3 s3 hp3 h3 => ?_⟩
          rw [isW_codes hsw] at h3
          refine ⟨b, p3, _, _, rfl, rfl, s3 _ _ upd_same, h3, by rw [bs_length, bs_length, sizeLine_eq, hd1]; simp; omega, ?_⟩
          refine ⟨fun c o e => ?_, ?_, _, rfl⟩
          · rw [upd_ne (fun z => by rw [z, hb] at e; cases e)]
            exact s3 _ _ (e3 c o e)
          · rw [upd_same, slashed_take hst]
            simp [bs, stepText]
        | name n =>
          obtain ⟨c, rfl, hc⟩ := hwv
          have hcH : upd H2 b (HO.lst (bs (slashed (q.take i) ++ [47]))) c = some (.lst (bs n)) := e3 _ _ hc
          walk_at "v"
          refine ⟨.ref c, .ty "int", .type "list", .type "int", false, rfl, .ty "int", .base (.lst hcH), kit_ty (by decide +kernel), ?_⟩
          walk_at "v"
          refine ⟨.inl ⟨rfl, _, SqL.of upd_same⟩, ?_⟩
          walk_at "v"
          have hn10 : n.length ≤ 10 := hokst
          refine ⟨b, c, _, _, rfl, rfl, upd_same, hcH, by rw [bs_length, bs_length, sizeLine_eq]; simp; omega, ?_⟩
          refine ⟨fun c o e => ?_, ?_, _, rfl⟩
          · rw [upd_ne (fun z => by rw [z, hb] at e; cases e)]
            exact e3 c o e
          · rw [upd_same, slashed_take hst]
            simp [bs, stepText]
      · rintro σ H1 ⟨s1, hb1, u, rfl⟩
        refine ⟨_, rfl, k H1 b s1 hb ?_⟩
        rw [hb1, hl, List.take_length]
        unfold slashed placeText
        rw [hq]
        rfl
end
end TS
end
section
set_option Elab.async false
set_option linter.all false
set_option maxRecDepth 100000
set_option maxHeartbeats 4000000
namespace TS
open PySem PySem.Spec PyProof.Rows L2
open Vapaqf (Head Way Token Test matches_ faultOf Plan)
open Vapaqa (Text Name stepText placeText)
local macro_rules | `(tactic| walk_at "v") => `(tactic| repeat (first | refine ⟨_, rfl, ?_⟩ | refine ⟨_, _, rfl, rfl, ?_⟩ | refine ⟨_, _, rfl, ?_⟩))
local macro_rules | `(tactic| walk_at "few") => `(tactic| first | decide | (show 0 < 1000; decide) | (show 1 < 1000; decide) | (show 2 < 1000; decide) | (show 3 < 1000; decide) | (show 4 < 1000; decide) | (show 5 < 1000; decide) | (show 6 < 1000; decide))
/-! ### what moves: S moves, all else is kept; F' holds what F held, and of what is new what stands still -/
structure Go (S : List Addr) (H F H' F' : Hp) : Prop where
  keep : ∀ b o, H b = some o → b ∉ S → H' b = some o
  dom : ∀ b, H b ≠ none → H' b ≠ none
  grow : ∀ b, H b ≠ none → F' b = F b
  same : Same F' H'
theorem Go.held {S : List Addr} {H F H' F' : Hp} (g : Go S H F H' F') (s : Same F H) : Same F F' := fun b o e => by
  rw [g.grow b (by rw [s b o e]; intro z; cases z)]
  exact e
theorem Go.trans {S S' : List Addr} {H F H1 F1 H2 F2 : Hp} (g : Go S H F H1 F1) (g2 : Go S' H1 F1 H2 F2) (h : ∀ b ∈ S', H b ≠ none → b ∈ S) : Go S H F H2 F2 :=
  ⟨fun b o e n => g2.keep b o (g.keep b o e n) fun z => n (h b z (by rw [e]; intro z; cases z)), fun b e => g2.dom b (g.dom b e), fun b e => by rw [g2.grow b (g.dom b e), g.grow b e], g2.same⟩
theorem same_dom {H H' : Hp} (s : Same H H') {b : Addr} (e : H b ≠ none) : H' b ≠ none := fun z => by
  cases h : H b with
  | none => exact e h
  | some o => rw [s b o h] at z; cases z
theorem Go.refl {S : List Addr} {H F : Hp} (s : Same F H) : Go S H F H F := ⟨fun _ _ e _ => e, fun _ e => e, fun _ _ => rfl, s⟩
/-- only new things came -/
theorem Go.new {S : List Addr} {H F H' : Hp} (s : Same F H) (s2 : Same H H') : Go S H F H' (Gr H F H') := ⟨fun b o e _ => s2 b o e, fun b e => same_dom s2 e, fun b e => by
  cases h : H b with
  | none => exact absurd h e
  | some o => exact Gr.old h, Gr.down' s s2⟩
/-- only new things came, and none of them is told -/
theorem Go.idle {S : List Addr} {H F H' : Hp} (s : Same F H) (s2 : Same H H') : Go S H F H' F := ⟨fun b o e _ => s2 b o e, fun b e => same_dom s2 e, fun _ _ => rfl, s.trans s2⟩
/-- one of S is written -/
theorem Go.put {S : List Addr} {H F : Hp} {a : Addr} {o : HO} (s : Same F H) (ha : a ∈ S) (hF : F a = none) : Go S H F (upd H a o) F := ⟨fun b u e n => by
  rw [upd_ne (fun z => n (by rw [z]; exact ha))]
  exact e, fun b e z => by
    by_cases h : b = a
    · subst h
      rw [upd_same] at z
      cases z
    · rw [upd_ne h] at z
      exact e z, fun _ _ => rfl, fun b u e => by
    rw [upd_ne (fun z => by rw [z, hF] at e; cases e)]
    exact s b u e⟩
theorem Go.wide {S S' : List Addr} {H F H' F' : Hp} (g : Go S H F H' F') (h : ∀ b ∈ S, b ∈ S') : Go S' H F H' F' := ⟨fun b o e n => g.keep b o e fun z => n (h b z), g.dom, g.grow, g.same⟩
theorem Go.free {S : List Addr} {H F H' F' : Hp} (g : Go S H F H' F') {b : Addr} (h : H b ≠ none) (hF : F b = none) : F' b = none := by rw [g.grow b h]; exact hF
/-! ### questions and the search in the heap -/
def StepsAt (K : PySem.W.Frag) (F : Hp) : List Addr → List Way → Prop
  | [], [] => True
  | a :: as, w :: ws => StepAt K F a w ∧ StepsAt K F as ws
  | _, _ => False
theorem StepsAt.mono {K : PySem.W.Frag} {F F' : Hp} (e : Same F F') : ∀ {as : List Addr} {ws : List Way}, StepsAt K F as ws → StepsAt K F' as ws
  | [], [], _ => trivial
  | _ :: _, _ :: _, h => ⟨h.1.mono e, StepsAt.mono e h.2⟩
  | [], _ :: _, h => h.elim
  | _ :: _, [], h => h.elim
theorem StepsAt.length {K : PySem.W.Frag} {F : Hp} : ∀ {as : List Addr} {ws : List Way}, StepsAt K F as ws → as.length = ws.length
  | [], [], _ => rfl
  | _ :: _, _ :: _, h => congrArg Nat.succ (StepsAt.length h.2)
  | [], _ :: _, h => h.elim
  | _ :: _, [], h => h.elim
theorem StepsAt.get {K : PySem.W.Frag} {F : Hp} : ∀ {as : List Addr} {ws : List Way} {i : Nat} {w : Way}, StepsAt K F as ws → ws[i]? = some w → ∃ a, as[i]? = some a ∧ StepAt K F a w
  | [], [], i, v, _, e => by simp at e
  | a :: _, w :: _, 0, v, h, e => ⟨a, rfl, (Option.some.inj e) ▸ h.1⟩
  | _ :: as, _ :: ws, i + 1, v, h, e => StepsAt.get (as := as) (ws := ws) (i := i) h.2 e
  | [], _ :: _, _, _, h, _ => h.elim
  | _ :: _, [], _, _, h, _ => h.elim
theorem StepsAt.snoc {K : PySem.W.Frag} {F : Hp} {a : Addr} {w : Way} (h2 : StepAt K F a w) : ∀ {as : List Addr} {ws : List Way}, StepsAt K F as ws → StepsAt K F (as ++ [a]) (ws ++ [w])
  | [], [], _ => ⟨h2, trivial⟩
  | _ :: _, _ :: _, h => ⟨h.1, StepsAt.snoc h2 h.2⟩
  | [], _ :: _, h => h.elim
  | _ :: _, [], h => h.elim
def TestV (K : PySem.W.Frag) (F : Hp) (c : V) (o : Option Test) : Prop := match o with
  | none => c = .non
  | some t => ∃ b, c = .ref b ∧ TestAt K F b t ∧ tdepth t ≤ 30
theorem TestV.mono {K : PySem.W.Frag} {F F' : Hp} {c : V} {o : Option Test} (e : Same F F') (h : TestV K F c o) : TestV K F' c o := by
  cases o with
  | none => exact h
  | some t => obtain ⟨b, e1, t1, d⟩ := h; exact ⟨b, e1, t1.mono e, d⟩
def questF (p : Plan) (s : Addr) (c : V) : List (Str × V) := [("fold", .int (p.gather : Int)), ("tried", .bl p.tried), ("limit", highV p.limit), ("steps", .ref s), ("deep", .bl p.deep), ("condition", c)]
def QuestAt (K : PySem.W.Frag) (F : Hp) (a : Addr) (p : Plan) : Prop := ∃ s c as, InsAt K F "Question" a (questF p s c) ∧ F s = some (.lst (as.map V.ref)) ∧ StepsAt K F as p.steps ∧ TestV K F c p.test
theorem QuestAt.mono {K : PySem.W.Frag} {F F' : Hp} {a : Addr} {p : Plan} (e : Same F F') (h : QuestAt K F a p) : QuestAt K F' a p := by
  obtain ⟨s, c, as, h1, h2, h3, h4⟩ := h
  exact ⟨s, c, as, h1.mono e, e _ _ h2, h3.mono e, h4.mono e⟩
def FaultV (F : Hp) (v : V) (x : Option (Nat × Pl)) : Prop := match x with
  | none => v = .non
  | some (n, q) => ∃ b pa, v = .ref b ∧ F b = some (.tup [.int (n : Int), .ref pa]) ∧ PlaceAt F pa q ∧ PlaceOk q
theorem FaultV.mono {F F' : Hp} {v : V} {x : Option (Nat × Pl)} (e : Same F F') (h : FaultV F v x) : FaultV F' v x := by
  cases x with
  | none => exact h
  | some z => obtain ⟨b, pa, e1, e2, e3, e4⟩ := h; exact ⟨b, pa, e1, e _ _ e2, e3.mono e, e4⟩
def seF (q : Addr) (s : Srch) (cv sv : V) : List (Str × V) := [("question", .ref q), ("halted", .bl s.halted), ("results", .int (s.results : Int)), ("total", .int s.total), ("chain_fault", cv), ("sum_fault", sv)]
def SeAt (K : PySem.W.Frag) (F H : Hp) (a : Addr) (p : Plan) (s : Srch) : Prop := F a = none ∧ ∃ q cv sv, InsAt K H "Search" a (seF q s cv sv) ∧ QuestAt K F q p ∧ FaultV F cv s.chain ∧ FaultV F sv (s.odd.map fun q => (4, q))
theorem SeAt.go {K : PySem.W.Frag} {S : List Addr} {H F H' F' : Hp} {a : Addr} {p : Plan} {s : Srch} (g : Go S H F H' F') (sF : Same F H) (n : a ∉ S) (h : SeAt K F H a p s) : SeAt K F' H' a p s := by
  obtain ⟨h0, q, cv, sv, ⟨dx, h1⟩, h2, h3, h4⟩ := h
  have e := g.held sF
  exact ⟨g.free (by rw [h1]; intro z; cases z) h0, q, cv, sv, ⟨dx, g.keep _ _ h1 n⟩, h2.mono e, h3.mono e, h4.mono e⟩
def intsV (xs : List Int) : List V := xs.map V.int
/-- tokens as they come out of texts -/
def TokOk : Token → Prop
  | .leaf v => LeafOk v
  | .name n => n ≠ [] ∧ n.length ≤ 10
  | _ => True
def spSearchInit (K : PySem.W.Frag) : Sp := fun vs H Q _ => ∃ (F : Hp) (c dx q : Addr) (p : Plan), vs = [.ref c, .ref q] ∧ Same F H ∧ F c = none ∧ H c = some (.ins (He.ga K "Search") dx []) ∧ QuestAt K F q p ∧
  ∀ H' : Hp, H' c = some (.ins (He.ga K "Search") dx (seF q (.fresh p) .non .non)) → (∀ b o, H b = some o → b ≠ c → H' b = some o) → Q .non H'
def spReached (K : PySem.W.Frag) : Sp := fun vs H Q _ => ∃ (F : Hp) (c pa : Addr) (p : Plan) (s : Srch) (q : Pl), vs = [.ref c, .ref pa] ∧ Same F H ∧ SeAt K F H c p s ∧ PlaceAt F pa q ∧ typed p.steps q ∧ ∀ H', Same H H' → Q (.bl (reached p.steps q)) H'
/-- what a method of the search gives: the state, and what's told -/
def ToldSe (K : PySem.W.Frag) (F H : Hp) (c : Addr) (p : Plan) (x : Srch × List Int) (Q : VK) : Prop :=
  ∀ (H' F' : Hp) (r : Addr), Go [c] H F H' F' → SeAt K F' H' c p x.1 → F' r = some (.lst (intsV x.2)) → Q (.ref r) H'
def spLook (K : PySem.W.Frag) : Sp := fun vs H Q _ => ∃ (F : Hp) (c pa : Addr) (p : Plan) (s : Srch) (q : Pl) (n : Nat), vs = [.ref c, .int (n : Int), .ref pa] ∧ Same F H ∧ SeAt K F H c p s ∧ PlaceAt F pa q ∧ PlaceOk q ∧ ToldSe K F H c p (s.fault p n q) Q
def spAdd (K : PySem.W.Frag) : Sp := fun vs H Q _ => ∃ (F : Hp) (c pa tk : Addr) (p : Plan) (s : Srch) (q : Pl) (t : Token), vs = [.ref c, .ref pa, .ref tk] ∧ Same F H ∧ SeAt K F H c p s ∧ PlaceAt F pa q ∧ PlaceOk q ∧ TokAt K F tk t ∧ begins t = true ∧ TokOk t ∧
  ToldSe K F H c p (s.result p q (headOf t)) Q
def spMeet (K : PySem.W.Frag) : Sp := fun vs H Q _ => ∃ (F : Hp) (c pa tk : Addr) (p : Plan) (s : Srch) (q : Pl) (t : Token), vs = [.ref c, .ref pa, .ref tk] ∧ Same F H ∧ SeAt K F H c p s ∧ PlaceAt F pa q ∧ PlaceOk q ∧ TokAt K F tk t ∧ begins t = true ∧ TokOk t ∧
  (s.halted = false → typed p.steps q) ∧ ToldSe K F H c p (s.meet p q (headOf t)) Q
def spSumFault (K : PySem.W.Frag) : Sp := fun vs H Q _ => ∃ (F : Hp) (c : Addr) (p : Plan) (s : Srch), vs = [.ref c] ∧ Same F H ∧ SeAt K F H c p s ∧
  ∀ (H' : Hp) (v : V), Same H H' → FaultV (Gr H F H') v (match s.odd with
    | some q => some (4, q)
    | none => if s.total < -1000000000 ∨ 1000000000 < s.total then some (6, []) else none) → Q v H'
def spEnd (K : PySem.W.Frag) : Sp := fun vs H Q _ => ∃ (F : Hp) (c : Addr) (p : Plan) (s : Srch), vs = [.ref c] ∧ Same F H ∧ SeAt K F H c p s ∧
  ∀ (H' : Hp) (r : Addr), Same H H' → H r = none → H' r = some (.lst (intsV (s.finish p))) → Q (.ref r) H'
def limD : Option Nat → PyData
  | none => .none
  | some k => .int (k : Int)
theorem dp_lim {K : PySem.W.Frag} {H : Hp} (o : Option Nat) : Dp K H (highV o) (limD o) := by
  cases o with
  | none => exact .non
  | some k => exact .int _
theorem shaped_lim (o : Option Nat) : SeqAt.shaped (limD o) = true := by cases o <;> simp [limD, SeqAt.shaped, PyData.canLay0, PyData.depth]
theorem eqv_lim (o : Option Nat) (n : Nat) : PyData.eqv (limD o) (.int (n : Int)) = (o == some n) := by
  cases o with
  | none => rfl
  | some k =>
    show ((k : Int) == (n : Int)) = _
    by_cases h : k = n
    · subst h; simp
    · rw [beq_eq_false_iff_ne.mpr (show ¬ (k : Int) = (n : Int) by omega)]
      simp [h]
theorem eqv_lim2 (o : Option Nat) (n : Nat) : PyData.eqv (.int (n : Int)) (limD o) = (o == some n) := by
  cases o with
  | none => rfl
  | some k =>
    show ((n : Int) == (k : Int)) = _
    by_cases h : k = n
    · subst h; simp
    · rw [beq_eq_false_iff_ne.mpr (show ¬ (n : Int) = (k : Int) by omega)]
      simp [h]
theorem placeText_len {q : Pl} (ok : PlaceOk q) : (placeText q).length ≤ 66 := by
  have h := slashed_short ok q.length
  rw [List.take_length] at h
  have h6 := ok.1
  unfold placeText
  split
  · simp
  · have e : (slashed q).length = (q.flatMap fun s => 47 :: stepText s).length := rfl
    omega
theorem told_text (t : Text) : intsV (Vapaqf.toldText t) = V.int ((bs t).length : Nat) :: bs t := by simp [intsV, Vapaqf.toldText, bs]
theorem told_place (a n : Nat) (q : Pl) : [V.int (a : Int), V.int (n : Int)] ++ V.int ((bs (placeText q)).length : Nat) :: bs (placeText q) = intsV ((a : Int) :: (n : Int) :: toldPlace q) := by
  have h := told_text (placeText q)
  unfold toldPlace
  rw [← h]
  rfl
theorem head_num {h : Head} (ok : HeadOk h) : (∃ z, h = .leaf (Vapaqa.tNum z)) ∨ (rankH h ≠ 3 ∧ ∀ (s : Srch) (q : Pl), Srch.add s q h = if s.odd.isNone = true then { s with odd := some q } else s) := by
  cases h with
  | list => exact .inr ⟨by decide, fun _ _ => rfl⟩
  | record => exact .inr ⟨by decide, fun _ _ => rfl⟩
  | leaf v =>
    rcases leaf_cases ok with rfl | ⟨b, rfl⟩ | ⟨z, rfl, _⟩ | ⟨u, rfl, _⟩
    · exact .inr ⟨by decide, fun _ _ => rfl⟩
    · exact .inr ⟨by cases b <;> decide, fun _ _ => rfl⟩
    · exact .inl ⟨z, rfl⟩
    · exact .inr ⟨by show ((5 : Nat) : Int) - 1 ≠ 3; decide, fun _ _ => rfl⟩
theorem tokOk_head {t : Token} (ok : TokOk t) : HeadOk (headOf t) := by
  cases t <;> first | exact ok | trivial
theorem digits_len : ∀ (k f n : Nat), n < 10 ^ (k + 1) → (Vapaqa.digitsFrom f n).length ≤ k + 1
  | _, 0, _, _ => by simp [Vapaqa.digitsFrom]
  | 0, f + 1, n, h => by
    rw [digitsFrom_succ, if_pos (by simpa using h)]
    simp
  | k + 1, f + 1, n, h => by
    rw [digitsFrom_succ]
    by_cases h10 : n < 10
    · rw [if_pos h10]
      simp
    · rw [if_neg h10]
      have h2 : n / 10 < 10 ^ (k + 1) := by
        rw [Nat.pow_succ] at h
        exact Nat.div_lt_of_lt_mul (by omega)
      have := digits_len k f (n / 10) h2
      simp
      omega
theorem decimal_len {n : Nat} (h : n ≤ 1000000000) : (Vapaqa.decimal n).length ≤ 10 := digits_len 9 _ n (by omega)
theorem quoted_len (u : Text) : (Vapaqa.quoted u).length ≤ 2 + 2 * u.length := by
  have h : ∀ u : Text, (u.flatMap fun b => if b = 34 ∨ b = 92 then [92, b] else [b]).length ≤ 2 * u.length := by
    intro u
    induction u with
    | nil => simp
    | cons b r ih =>
      rw [List.flatMap_cons, List.length_append, List.length_cons]
      split <;> simp only [List.length_cons, List.length_nil] <;> omega
  have := h u
  unfold Vapaqa.quoted
  simp only [List.length_cons, List.length_append, List.length_nil]
  first | omega | (simp at this ⊢; omega)
theorem tokenText_len {t : Token} (ok : TokOk t) : (Vapaqf.tokenText t).length ≤ 50 := by
  cases t with
  | openList => decide
  | openRecord => decide
  | close l => cases l <;> decide
  | name n =>
    have h : n.length ≤ 10 := ok.2
    show (n ++ [58]).length ≤ 50
    simp
    omega
  | leaf v =>
    show (Vapaqa.treeText v).length ≤ 50
    rcases leaf_cases ok with rfl | ⟨b, rfl⟩ | ⟨z, rfl, hz⟩ | ⟨u, rfl, hu, -⟩
    · decide
    · cases b <;> decide
    · rw [treeText_num]
      unfold Vapaqa.integer
      split
      · have := decimal_len hz
        simp
        omega
      · have := decimal_len (n := z.toNat) (by omega)
        omega
    · rw [treeText_text]
      have := quoted_len u
      omega
theorem head_text {t : Token} (hb : begins t = true) : Vapaqf.tokenText t = Vapaqf.headText (headOf t) := by
  cases t <;> first | rfl | cases hb
theorem kind_head {t : Token} (hb : begins t = true) : kindN t = kindH (headOf t) := by
  cases t <;> first | rfl | cases hb
section
variable {P : Program} {w : World} {K : PySem.W.Frag} {mg : Str → Option Value} {base : Heap}
theorem ok_Search_init (T : Facts K mg) : OkFn P w K mg base CX0 1 (He.ma K (He.ga K "Search") "__init__") 2 (spSearchInit K) := by
  refine mk_fn T.d_Search_init sc_Search_init (fun _ _ _ _ _ _ us hl => match us, hl with | [_, _], _ => rfl) (fun vs H Q E h => ?_) (fun cdv A outer s H vs Q E hr h => ?_)
  · obtain ⟨_, _, _, _, _, rfl, _⟩ := h
    rfl
  · obtain ⟨F, c, dx, q, p, rfl, sF, hcF, hc, hq, k⟩ := h
    refine ⟨_, PSs.nox (pss_cons (ps_fld (pv 0) (pv 1) rfl)
      (pss_cons (ps_fld (pv 0) (pe_cmpR (op_eqD hr.units) (pe_fld (pv 1) rfl) pe_int (nomark _)) rfl)
      (pss_cons (ps_fld (pv 0) pe_int rfl)
      (pss_cons (ps_fld (pv 0) pe_int rfl)
      (pss_cons (ps_fld (pv 0) pe_non rfl)
      (pss_one (ps_fld (pv 0) pe_non rfl))))))), ?_⟩
    obtain ⟨s, cv, as, ⟨dq, h1⟩, h2, h3, h4⟩ := hq
    have k1 : ∀ {o : HO} {b : Addr} {u : HO}, F b = some u → upd H c o b = some u := fun {o b u} e => by
      rw [upd_ne (fun z => by rw [z, hcF] at e; cases e)]
      exact sF _ _ e
    refine ⟨_, rfl, _, rfl, _, _, _, _, rfl, hc, T.c_Search, T.n_Search_question, by walk_at "few", ?_⟩
    refine ⟨_, rfl, _, _, _, _, _, rfl, k1 h1, T.c_Question, T.n_Question_limit, rfl, ?_⟩
    refine ⟨limD p.limit, .int 0, dp_lim _, .int _, shaped_lim _, by simp [SeqAt.shaped, PyData.canLay0, PyData.depth], ?_⟩
    rw [show PyData.eqv (limD p.limit) (.int 0) = (p.limit == some 0) from eqv_lim p.limit 0]
    refine ⟨_, rfl, _, _, _, _, rfl, upd_same, T.c_Search, T.n_Search_halted, by walk_at "few", ?_⟩
    walk_at "v"
    refine ⟨_, _, _, _, rfl, upd_same, T.c_Search, T.n_Search_results, by walk_at "few", ?_⟩
    walk_at "v"
    refine ⟨_, _, _, _, rfl, upd_same, T.c_Search, T.n_Search_total, by walk_at "few", ?_⟩
    walk_at "v"
    refine ⟨_, _, _, _, rfl, upd_same, T.c_Search, T.n_Search_chain_fault, by walk_at "few", ?_⟩
    walk_at "v"
    refine ⟨_, _, _, _, rfl, upd_same, T.c_Search, T.n_Search_sum_fault, by walk_at "few", ?_⟩
    refine k _ upd_same fun b o e n => ?_
    rw [upd_ne n, upd_ne n, upd_ne n, upd_ne n, upd_ne n, upd_ne n]
    exact e
theorem ok_Search_is_reached (T : Facts K mg) : OkFn P w K mg base CX0 3 (He.ma K (He.ga K "Search") "is_reached") 2 (spReached K) := by
  refine mk_fn T.d_Search_is_reached sc_Search_is_reached (fun _ _ _ _ _ _ us hl => match us, hl with | [_, _], _ => rfl) (fun vs H Q E h => ?_) (fun cdv A outer s H vs Q E hr h => ?_)
  · obtain ⟨_, _, _, _, _, _, rfl, _⟩ := h
    rfl
  · obtain ⟨F, c, pa, p, s, q, rfl, sF, hs, hq, ty, k⟩ := h
    refine ⟨_, PSs.nox (pss_cons (ps_for PassesOwn.never rfl (pi_zip (by rfl) T.f_zip (pa_cons (pe_fld (pe_fld (pv 0) rfl) rfl) (pa_cons (pv 1) pa_nil))) (pg_tup rfl (pgs_cons (pg_name (i := 2) sc_Search_is_reached.nd rfl (.inl rfl)) (pgs_cons (pg_name (i := 3) sc_Search_is_reached.nd rfl (.inl rfl)) pgs_nil)))
        (pss_one (ps_if (pt_not (pt_val (c_methD (pv 2) hr pass0 (pa_cons (pv 3) pa_nil))))
          (pss_one (ps_ret pe_bl))
          pss_nil)))
      (pss_one (ps_ret pe_bl))), ?_⟩
    obtain ⟨hcF, qa, cv, sv, ⟨dx, h1⟩, ⟨sa, tv, as, ⟨dq, hq1⟩, hq2, hq3, hq4⟩, h3, h4⟩ := hs
    obtain ⟨vs, hp, hw⟩ := hq
    refine ⟨_, rfl, _, _, _, _, _, rfl, h1, T.c_Search, T.n_Search_question, rfl, ?_⟩
    refine ⟨_, _, _, _, _, rfl, sF _ _ hq1, T.c_Question, T.n_Question_steps, rfl, ?_⟩
    walk_at "v"
    refine ⟨sa, pa, _, _, rfl, SqL.of (sF _ _ hq2), SqL.of (sF _ _ hp), ?_⟩
    have l1 := hq3.length
    have l2 := hw.length
    refine for_it (walk_zip (n := min (as.map V.ref).length vs.length) rfl) (fun i σ H1 => Same H H1 ∧ reached (p.steps.drop i) (q.drop i) = reached p.steps q ∧ typed (p.steps.drop i) (q.drop i) ∧ ∃ u v, σ = [some (.ref c), some (.ref pa), u, v]) ⟨Same.refl _, rfl, ty, none, none, rfl⟩ (fun i σ H1 _ ⟨s1, _⟩ => ⟨SqL.of (s1 _ _ (sF _ _ hq2)), SqL.of (s1 _ _ (sF _ _ hp))⟩) ?_ ?_
    · rintro i y σ H1 H2 hi ⟨s1, hr1, ty1, u, v, rfl⟩ ⟨Tt, x2, y2, rfl, hTt, rfl, hx2, hy2⟩
      obtain ⟨st, hst, hwv⟩ := hw.get hy2
      have hlen : i < p.steps.length := by
        simp only [List.length_map] at hi
        omega
      obtain ⟨a, ha, hsa⟩ := hq3.get (List.getElem?_eq_getElem hlen)
      have hx2' : x2 = .ref a := by
        have hx : (as.map V.ref)[i]? = some x2 := hx2
        rw [List.getElem?_map, ha] at hx
        exact (Option.some.inj hx).symm
      subst hx2'
      have s2 := upd_same_of (o := HO.tup [V.ref a, y2]) hTt
      have s0 := sF.trans (s1.trans s2)
      have e1 : p.steps.drop i = p.steps[i] :: p.steps.drop (i + 1) := List.drop_eq_getElem_cons hlen
      have hql : i < q.length := (List.getElem?_eq_some_iff.mp hst).1
      have e2 : q.drop i = st :: q.drop (i + 1) := by
        rw [List.drop_eq_getElem_cons hql]
        congr 1
        exact (List.getElem?_eq_some_iff.mp hst).2
      rw [e1, e2] at hr1 ty1
      obtain ⟨dx2, fs2, ei, -, ep⟩ := hsa.ins
      refine ⟨Tt, _, rfl, SqT.of upd_same, rfl, ?_⟩
      walk_at "v"
      refine ⟨a, _, dx2, fs2, _, _, _, rfl, s0 _ _ ei, ep, (clsW_of T _).1, (clsW_of T _).2.2, (ok_picks T _).mono (by decide), ?_⟩
      walk_at "v"
      refine ⟨a, y2, st, rfl, hsa.mono s0, hwv.mono s0, ty1.1, ?_⟩
      walk_at "v"
      cases hm : matches_ p.steps[i] st with
      | false =>
        refine if_pos_of rfl ?_
        have er : reached p.steps q = false := by rw [← hr1]; unfold reached; rw [hm]; rfl
        have k' := k _ (s1.trans s2)
        rw [er] at k'
        exact k'
      | true =>
        refine if_neg_of rfl ?_
        refine ⟨s1.trans s2, ?_, ty1.2 hm, _, _, rfl⟩
        rw [← hr1]
        conv => rhs; unfold reached
        rw [hm, Bool.true_and]
    · rintro σ H1 ⟨s1, hr1, -, u, v, rfl⟩
      have er : reached p.steps q = true := by
        rw [← hr1]
        by_cases hle : p.steps.length ≤ min (as.map V.ref).length vs.length
        · rw [List.drop_eq_nil_of_le hle]
          cases q.drop _ <;> rfl
        · simp only [List.length_map] at hle
          have hle2 : q.length ≤ min (as.map V.ref).length vs.length := by simp only [List.length_map]; omega
          rw [List.drop_eq_nil_of_le hle2]
          cases p.steps.drop _ <;> rfl
      have k' := k _ s1
      rw [er] at k'
      exact k'
theorem ok_Search_look_for_fault (T : Facts K mg) : OkFn P w K mg base CX0 4 (He.ma K (He.ga K "Search") "look_for_fault") 3 (spLook K) := by
  refine mk_fn T.d_Search_look_for_fault sc_Search_look_for_fault (fun _ _ _ _ _ _ us hl => match us, hl with | [_, _, _], _ => rfl) (fun vs H Q E h => ?_) (fun cdv A outer s H vs Q E hr h => ?_)
  · obtain ⟨_, _, _, _, _, _, _, rfl, _⟩ := h
    rfl
  · obtain ⟨F, c, pa, p, s, q, n, rfl, sF, hs, hq, qok, k⟩ := h
    refine ⟨_, PSs.nox (pss_cons (ps_if (pt_cmpR op_eq (pv 1) (pe_num rfl T.i_NO_FAULT) (nomark _))
        (pss_one (ps_ret (pe_lst pa_nil)))
        pss_nil)
      (pss_cons (ps_fld (pv 0) pe_bl rfl)
      (pss_cons (ps_if (pt_val (pe_fld (pe_fld (pv 0) rfl) rfl))
        (pss_one (ps_ret (pe_lst pa_nil)))
        pss_nil)
      (pss_cons (ps_fld (pv 0) (pe_tup (pa_cons (pv 1) (pa_cons (pv 2) pa_nil))) rfl)
      (pss_cons (ps_if (pt_cmpR op_ne (pe_fld (pe_fld (pv 0) rfl) rfl) (pe_num rfl T.i_TELL) (nomark _))
        (pss_one (ps_ret (pe_lst pa_nil)))
        pss_nil)
      (pss_one (ps_ret (pe_op op_cat (pe_lst (pa_cons (pe_num rfl T.i_FAULT) (pa_cons (pv 1) pa_nil))) (c_fn (ok_counted T) (hr.mono (by decide)) rfl T.g_counted pass0 (pa_cons (c_fn (ok_place_text T) (hr.mono (by decide)) rfl T.g_place_text pass0 (pa_cons (pv 2) pa_nil)) pa_nil)))))))))), ?_⟩
    obtain ⟨hcF, qa, cv, sv, ⟨dx, h1⟩, ⟨sa, tv, as, ⟨dq, hq1⟩, hq2, hq3, hq4⟩, h3, h4⟩ := hs
    have hQ : QuestAt K F qa p := ⟨sa, tv, as, ⟨dq, hq1⟩, hq2, hq3, hq4⟩
    have hcn : H c ≠ none := by rw [h1]; intro z; cases z
    walk_at "v"
    unfold Srch.fault at k
    by_cases hn : n = 0
    · rw [if_pos hn] at k
      refine ⟨rfl, _, rfl, ?_⟩
      refine if_pos_of (decide_eq_true (by rw [hn]; rfl)) ?_
      refine ⟨by show 0 ≤ sizeLine; exact Nat.zero_le _, fun r hr2 => ?_⟩
      have s1 := upd_same_of (o := HO.lst []) hr2
      have g : Go [c] H F _ _ := Go.new sF s1
      refine k _ _ r g (SeAt.go (S := []) (Go.new sF s1) sF (by simp) ⟨hcF, qa, cv, sv, ⟨dx, h1⟩, hQ, h3, h4⟩) ?_
      rw [Gr.new hr2]
      exact upd_same
    · rw [if_neg hn] at k
      refine ⟨rfl, _, rfl, ?_⟩
      refine if_neg_of (decide_eq_false fun z => hn (by have := V.int.inj z; omega)) ?_
      walk_at "v"
      refine ⟨_, _, _, _, rfl, h1, T.c_Search, T.n_Search_halted, by walk_at "few", ?_⟩
      have e1 : putF "halted" (.bl true) (seF qa s cv sv) = seF qa { s with halted := true } cv sv := rfl
      rw [e1]
      have g1 : Go [c] H F _ F := Go.put (o := .ins (He.ga K "Search") dx (seF qa { s with halted := true } cv sv)) sF (by simp) hcF
      have hc1 : upd H c (.ins (He.ga K "Search") dx (seF qa { s with halted := true } cv sv)) c = _ := upd_same
      generalize upd H c (.ins (He.ga K "Search") dx (seF qa { s with halted := true } cv sv)) = H1 at g1 hc1 ⊢
      refine ⟨_, rfl, _, _, _, _, _, rfl, hc1, T.c_Search, T.n_Search_question, rfl, ?_⟩
      refine ⟨_, _, _, _, _, rfl, g1.same _ _ hq1, T.c_Question, T.n_Question_tried, rfl, ?_⟩
      walk_at "v"
      by_cases ht : p.tried = true
      · rw [if_pos ht] at k
        refine if_pos_of ht ?_
        refine ⟨by show 0 ≤ sizeLine; exact Nat.zero_le _, fun r hr2 => ?_⟩
        have s1 := upd_same_of (o := HO.lst []) hr2
        have g2 : Go [] H1 F _ _ := Go.new (S := []) g1.same s1
        refine k _ _ r (g1.trans g2 (by simp)) (SeAt.go g2 g1.same (by simp) ⟨hcF, qa, cv, sv, ⟨dx, hc1⟩, hQ, h3, h4⟩) ?_
        rw [Gr.new hr2]
        exact upd_same
      · rw [if_neg ht] at k
        refine if_neg_of (by simpa using ht) ?_
        walk_at "v"
        refine ⟨by show 2 ≤ sizeLine; decide, fun b hb => ?_⟩
        have s2 := upd_same_of (o := HO.tup [V.int (n : Int), V.ref pa]) hb
        have hb2 : upd H1 b (.tup [V.int (n : Int), V.ref pa]) b = _ := upd_same
        generalize upd H1 b (.tup [V.int (n : Int), V.ref pa]) = H2 at s2 hb2 ⊢
        have g2 : Go [] H1 F H2 _ := Go.new (S := []) g1.same s2
        have hbF : Gr H1 F H2 b = some (.tup [V.int (n : Int), V.ref pa]) := by rw [Gr.new hb]; exact hb2
        generalize Gr H1 F H2 = F2 at g2 hbF
        have g12 : Go [c] H F H2 F2 := g1.trans g2 (by simp)
        have eF := g12.held sF
        refine ⟨_, rfl, _, _, _, _, rfl, s2 _ _ hc1, T.c_Search, T.n_Search_chain_fault, by walk_at "few", ?_⟩
        have e2 : putF "chain_fault" (.ref b) (seF qa { s with halted := true } cv sv) = seF qa { s with halted := true, chain := some (n, q) } (.ref b) sv := rfl
        rw [e2]
        have g3 : Go [c] H2 F2 _ F2 := Go.put (o := .ins (He.ga K "Search") dx (seF qa { s with halted := true, chain := some (n, q) } (.ref b) sv)) g2.same (by simp : c ∈ [c]) (g12.free hcn hcF)
        have hc3 : upd H2 c (.ins (He.ga K "Search") dx (seF qa { s with halted := true, chain := some (n, q) } (.ref b) sv)) c = _ := upd_same
        generalize upd H2 c (.ins (He.ga K "Search") dx (seF qa { s with halted := true, chain := some (n, q) } (.ref b) sv)) = H3 at g3 hc3 ⊢
        have g13 : Go [c] H F H3 F2 := g12.trans g3 (by intro b h _; exact h)
        have hS3 : SeAt K F2 H3 c p { s with halted := true, chain := some (n, q) } := ⟨g13.free hcn hcF, qa, .ref b, sv, ⟨dx, hc3⟩, hQ.mono eF, ⟨b, pa, rfl, hbF, hq.mono eF, qok⟩, h4.mono eF⟩
        refine ⟨_, rfl, _, _, _, _, _, rfl, hc3, T.c_Search, T.n_Search_question, rfl, ?_⟩
        refine ⟨_, _, _, _, _, rfl, g3.same _ _ (eF _ _ hq1), T.c_Question, T.n_Question_fold, rfl, ?_⟩
        walk_at "v"
        refine ⟨rfl, _, rfl, ?_⟩
        by_cases hg : p.gather = 0
        · rw [if_pos hg] at k
          refine if_neg_of (by rw [hg]; rfl) ?_
          walk_at "v"
          refine ⟨by show 2 ≤ sizeLine; decide, fun l hl => ?_⟩
          have s4 := upd_same_of (o := HO.lst [V.int 2, V.int (n : Int)]) hl
          have hl4 : upd H3 l (.lst [V.int 2, V.int (n : Int)]) l = _ := upd_same
          generalize upd H3 l (.lst [V.int 2, V.int (n : Int)]) = H4 at s4 hl4 ⊢
          walk_at "v"
          refine ⟨pa, q, rfl, (hq.mono eF).mono (g3.same.trans s4), qok, fun H5 p5 s5 hp5 h5 => ?_⟩
          walk_at "v"
          have hlen := placeText_len qok
          refine ⟨p5, _, rfl, h5, by rw [bs_length, sizeLine_eq]; omega, fun H6 p6 s6 hp6 h6 => ?_⟩
          refine ⟨l, p6, _, _, rfl, rfl, s6 _ _ (s5 _ _ hl4), h6, by simp only [List.length_cons, List.length_nil, bs_length, sizeLine_eq]; omega, fun r hr2 => ?_⟩
          have s7 := upd_same_of (o := HO.lst ([V.int 2, V.int (n : Int)] ++ V.int ((bs (placeText q)).length : Nat) :: bs (placeText q))) hr2
          have s47 := s4.trans (s5.trans (s6.trans s7))
          have g4 : Go [] _ _ _ _ := Go.new (S := []) g3.same s47
          refine k _ _ r (g13.trans g4 (by simp)) (SeAt.go g4 g3.same (by simp) hS3) ?_
          rw [Gr.new ((s4.trans (s5.trans s6)).free hr2), upd_same]
          exact congrArg (fun z => some (HO.lst z)) (told_place 2 n q)
        · rw [if_neg hg] at k
          refine if_pos_of (by simpa using hg) ?_
          refine ⟨by show 0 ≤ sizeLine; exact Nat.zero_le _, fun r hr2 => ?_⟩
          have s4 := upd_same_of (o := HO.lst []) hr2
          have g4 : Go [] _ _ _ _ := Go.new (S := []) g3.same s4
          refine k _ _ r (g13.trans g4 (by simp)) (SeAt.go g4 g3.same (by simp) hS3) ?_
          rw [Gr.new hr2]
          exact upd_same
theorem ok_Search_add_result (T : Facts K mg) : OkFn P w K mg base CX0 4 (He.ma K (He.ga K "Search") "add_result") 3 (spAdd K) := by
  refine mk_fn T.d_Search_add_result sc_Search_add_result (fun _ _ _ _ _ _ us hl => match us, hl with | [_, _, _], _ => rfl) (fun vs H Q E h => ?_) (fun cdv A outer s H vs Q E hr h => ?_)
  · obtain ⟨_, _, _, _, _, _, _, _, rfl, _⟩ := h
    rfl
  · obtain ⟨F, c, pa, tk, p, s, q, t, rfl, sF, hs, hq, qok, ht, hb, tok, k⟩ := h
    refine ⟨_, PSs.nox (pss_cons (ps_fldaug (pv 0) pe_int in_add)
      (pss_cons (ps_fld (pv 0) (pe_cmpR (op_eqD hr.units) (pe_fld (pv 0) rfl) (pe_fld (pe_fld (pv 0) rfl) rfl) (nomark _)) rfl)
      (pss_cons (ps_asg (pe_fld (pv 2) rfl) (pg_tup rfl (pgs_cons (pg_name (i := 3) sc_Search_add_result.nd rfl (.inl rfl)) (pgs_cons (pg_name (i := 4) sc_Search_add_result.nd rfl (.inl rfl)) pgs_nil))))
      (pss_cons (ps_if (pt_cmpR op_eq (pv 3) (pe_num rfl T.i_NUMBER_RANK) (nomark _))
        (pss_one (ps_fldaug (pv 0) (pv 4) in_add))
        (pss_one (ps_if (pt_cmpR op_isN (pe_fld (pv 0) rfl) pe_non (nomark _))
          (pss_one (ps_fld (pv 0) (pe_tup (pa_cons (pe_num rfl T.i_NO_NUMBER) (pa_cons (pv 1) pa_nil))) rfl))
          pss_nil)))
      (pss_cons (ps_if (pt_cmpR op_ne (pe_fld (pe_fld (pv 0) rfl) rfl) (pe_num rfl T.i_TELL) (nomark _))
        (pss_one (ps_ret (pe_lst pa_nil)))
        pss_nil)
      (pss_one (ps_ret (pe_op op_cat (pe_op op_cat (pe_lst (pa_cons (pe_num rfl T.i_RESULT) pa_nil)) (c_fn (ok_counted T) (hr.mono (by decide)) rfl T.g_counted pass0 (pa_cons (c_fn (ok_place_text T) (hr.mono (by decide)) rfl T.g_place_text pass0 (pa_cons (pv 1) pa_nil)) pa_nil))) (c_fn (ok_counted T) (hr.mono (by decide)) rfl T.g_counted pass0 (pa_cons (pe_fld (pv 2) rfl) pa_nil)))))))))), ?_⟩
    obtain ⟨hcF, qa, cv, sv, ⟨dx, h1⟩, ⟨sa, tv, as, ⟨dq, hq1⟩, hq2, hq3, hq4⟩, h3, h4⟩ := hs
    have hQ : QuestAt K F qa p := ⟨sa, tv, as, ⟨dq, hq1⟩, hq2, hq3, hq4⟩
    have hcn : H c ≠ none := by rw [h1]; intro z; cases z
    obtain ⟨tx, kv, nv, ⟨dt, t1⟩, t2, t3, t4⟩ := ht
    unfold KeyV at t3
    rw [if_pos hb] at t3
    obtain ⟨ka, rfl, vv, k1, k2⟩ := t3
    have hok := tokOk_head tok
    refine ⟨_, rfl, _, _, _, _, _, rfl, h1, T.c_Search, T.n_Search_results, rfl, ?_⟩
    refine ⟨_, _, rfl, rfl, _, _, h1, by walk_at "few", ?_⟩
    have e1 : putF "results" (.int ((s.results : Int) + 1)) (seF qa s cv sv) = seF qa { s with results := s.results + 1 } cv sv := rfl
    rw [e1]
    have g1 : Go [c] H F _ F := Go.put (o := .ins (He.ga K "Search") dx (seF qa { s with results := s.results + 1 } cv sv)) sF (by simp) hcF
    have hc1 : upd H c (.ins (He.ga K "Search") dx (seF qa { s with results := s.results + 1 } cv sv)) c = _ := upd_same
    generalize upd H c (.ins (He.ga K "Search") dx (seF qa { s with results := s.results + 1 } cv sv)) = H1 at g1 hc1 ⊢
    refine ⟨_, rfl, _, _, _, _, _, rfl, hc1, T.c_Search, T.n_Search_results, rfl, ?_⟩
    refine ⟨_, rfl, _, _, _, _, _, rfl, hc1, T.c_Search, T.n_Search_question, rfl, ?_⟩
    refine ⟨_, _, _, _, _, rfl, g1.same _ _ hq1, T.c_Question, T.n_Question_limit, rfl, ?_⟩
    refine ⟨.int ((s.results + 1 : Nat) : Int), limD p.limit, .int _, dp_lim _, by simp [SeqAt.shaped, PyData.canLay0, PyData.depth], shaped_lim _, ?_⟩
    rw [eqv_lim2]
    refine ⟨_, rfl, _, _, _, _, rfl, hc1, T.c_Search, T.n_Search_halted, by walk_at "few", ?_⟩
    have e2 : putF "halted" (.bl (p.limit == some (s.results + 1))) (seF qa { s with results := s.results + 1 } cv sv) = seF qa { s with results := s.results + 1, halted := p.limit == some (s.results + 1) } cv sv := rfl
    rw [e2]
    unfold Srch.result at k
    have hch : ({ s with results := s.results + 1, halted := p.limit == some (s.results + 1) } : Srch).chain = s.chain := rfl
    have hod : ({ s with results := s.results + 1, halted := p.limit == some (s.results + 1) } : Srch).odd = s.odd := rfl
    generalize ({ s with results := s.results + 1, halted := p.limit == some (s.results + 1) } : Srch) = s' at k hch hod ⊢
    rw [← hch] at h3
    rw [← hod] at h4
    have g2 : Go [c] H1 F _ F := Go.put (o := .ins (He.ga K "Search") dx (seF qa s' cv sv)) g1.same (by simp) hcF
    have hc2 : upd H1 c (.ins (He.ga K "Search") dx (seF qa s' cv sv)) c = _ := upd_same
    generalize upd H1 c (.ins (He.ga K "Search") dx (seF qa s' cv sv)) = H2 at g2 hc2 ⊢
    have g12 : Go [c] H F H2 F := g1.trans g2 (by intro b h _; exact h)
    have hcn2 : H2 c ≠ none := by rw [hc2]; intro z; cases z
    refine ⟨_, rfl, _, _, _, _, _, rfl, g2.same _ _ t1, T.c_Token, T.n_Token_key, rfl, ?_⟩
    refine ⟨ka, _, rfl, SqT.of (g2.same _ _ k1), rfl, ?_⟩
    refine ⟨_, _, rfl, _, _, rfl, rfl, ?_⟩
    dsimp only [gName]
    refine seq_cut (R := fun σ' H3 => ∃ F3, Go [c] H F H3 F3 ∧ SeAt K F3 H3 c p (Srch.add s' q (headOf t)) ∧ ∃ u v, σ' = [some (.ref c), some (.ref pa), some (.ref tk), u, v]) (fun nx kx => ?_) ?_
    · walk_at "v"
      refine ⟨rfl, _, rfl, ?_⟩
      rcases head_num hok with ⟨z, hz⟩ | ⟨hr3, hadd⟩
      · rw [hz] at k1 k2 kx ⊢
        have k2' : vv = .int z := k2
        subst k2'
        refine if_pos_of rfl ?_
        walk_at "v"
        refine ⟨_, _, _, _, _, rfl, hc2, T.c_Search, T.n_Search_total, rfl, ?_⟩
        walk_at "v"
        refine ⟨_, _, hc2, by walk_at "few", ?_⟩
        have e3 : putF "total" (.int (s'.total + z)) (seF qa s' cv sv) = seF qa { s' with total := s'.total + z } cv sv := rfl
        rw [e3]
        have g3 : Go [c] H2 F _ F := Go.put (o := .ins (He.ga K "Search") dx (seF qa { s' with total := s'.total + z } cv sv)) g2.same (by simp) hcF
        exact kx _ _ ⟨F, g12.trans g3 (by intro b h _; exact h), ⟨hcF, qa, cv, sv, ⟨dx, upd_same⟩, hQ, h3, h4⟩, _, _, rfl⟩
      · refine if_neg_of (decide_eq_false fun z => hr3 (V.int.inj z)) ?_
        walk_at "v"
        refine ⟨_, _, _, _, _, rfl, hc2, T.c_Search, T.n_Search_sum_fault, rfl, ?_⟩
        rw [hadd] at kx
        cases ho : s'.odd with
        | none =>
          rw [ho] at kx h4
          have h4' : sv = .non := h4
          subst h4'
          refine ⟨rfl, _, rfl, ?_⟩
          refine if_pos_of rfl ?_
          walk_at "v"
          refine ⟨by show 2 ≤ sizeLine; decide, fun b hb => ?_⟩
          have s3 := upd_same_of (o := HO.tup [V.int 4, V.ref pa]) hb
          have hb3 : upd H2 b (.tup [V.int 4, V.ref pa]) b = _ := upd_same
          generalize upd H2 b (.tup [V.int 4, V.ref pa]) = H3 at s3 hb3 ⊢
          have g3 : Go [] H2 F H3 _ := Go.new (S := []) g2.same s3
          have hbF : Gr H2 F H3 b = some (.tup [V.int 4, V.ref pa]) := by rw [Gr.new hb]; exact hb3
          generalize Gr H2 F H3 = F3 at g3 hbF
          have g13 : Go [c] H F H3 F3 := g12.trans g3 (by simp)
          have eF := g13.held sF
          refine ⟨_, rfl, _, _, _, _, rfl, s3 _ _ hc2, T.c_Search, T.n_Search_sum_fault, by walk_at "few", ?_⟩
          have e3 : putF "sum_fault" (.ref b) (seF qa s' cv .non) = seF qa { s' with odd := some q } cv (.ref b) := rfl
          rw [e3]
          have hF3 := g13.free hcn hcF
          have g4 : Go [c] H3 F3 _ F3 := Go.put (o := .ins (He.ga K "Search") dx (seF qa { s' with odd := some q } cv (.ref b))) g3.same (by simp : c ∈ [c]) hF3
          exact kx _ _ ⟨F3, g13.trans g4 (by intro b h _; exact h), ⟨hF3, qa, cv, .ref b, ⟨dx, upd_same⟩, hQ.mono eF, h3.mono eF, ⟨b, pa, rfl, hbF, hq.mono eF, qok⟩⟩, _, _, rfl⟩
        | some q0 =>
          have hS : SeAt K F H2 c p s' := ⟨hcF, qa, cv, sv, ⟨dx, hc2⟩, hQ, h3, h4⟩
          rw [ho] at kx h4
          obtain ⟨b0, p0, rfl, -⟩ := h4
          refine ⟨rfl, _, rfl, ?_⟩
          refine if_neg_of rfl ?_
          exact kx _ _ ⟨F, g12, hS, _, _, rfl⟩
    · rintro σ' H3 ⟨F3, g3, hS3, u, v, rfl⟩
      have eF := g3.held sF
      obtain ⟨hcF3, qa3, cv3, sv3, ⟨dx3, hc3⟩, ⟨sa3, tv3, as3, ⟨dq3, hq31⟩, hq32, hq33, hq34⟩, h33, h34⟩ := id hS3
      walk_at "v"
      refine ⟨_, _, _, _, _, rfl, hc3, T.c_Search, T.n_Search_question, rfl, ?_⟩
      refine ⟨_, _, _, _, _, rfl, g3.same _ _ hq31, T.c_Question, T.n_Question_fold, rfl, ?_⟩
      walk_at "v"
      refine ⟨rfl, _, rfl, ?_⟩
      by_cases hg : p.gather = 0
      · rw [if_pos hg] at k
        refine if_neg_of (by rw [hg]; rfl) ?_
        walk_at "v"
        refine ⟨by show 1 ≤ sizeLine; decide, fun l hl => ?_⟩
        have s4 := upd_same_of (o := HO.lst [V.int 1]) hl
        have hl4 : upd H3 l (.lst [V.int 1]) l = _ := upd_same
        generalize upd H3 l (.lst [V.int 1]) = H4 at s4 hl4 ⊢
        walk_at "v"
        refine ⟨pa, q, rfl, (hq.mono eF).mono (g3.same.trans s4), qok, fun H5 p5 s5 hp5 h5 => ?_⟩
        walk_at "v"
        have hlen := placeText_len qok
        have hlen2 := tokenText_len tok
        refine ⟨p5, _, rfl, h5, by rw [bs_length, sizeLine_eq]; omega, fun H6 p6 s6 hp6 h6 => ?_⟩
        refine ⟨l, p6, _, _, rfl, rfl, s6 _ _ (s5 _ _ hl4), h6, by simp only [List.length_cons, List.length_nil, bs_length, sizeLine_eq]; omega, fun l2 hl2 => ?_⟩
        have s7 := upd_same_of (o := HO.lst ([V.int 1] ++ V.int ((bs (placeText q)).length : Nat) :: bs (placeText q))) hl2
        have hl7 : upd H6 l2 (.lst ([V.int 1] ++ V.int ((bs (placeText q)).length : Nat) :: bs (placeText q))) l2 = _ := upd_same
        generalize upd H6 l2 (.lst ([V.int 1] ++ V.int ((bs (placeText q)).length : Nat) :: bs (placeText q))) = H7 at s7 hl7 ⊢
        have s37 := s4.trans (s5.trans (s6.trans s7))
        walk_at "v"
        refine ⟨_, _, _, _, _, rfl, s37 _ _ (g3.same _ _ (eF _ _ t1)), T.c_Token, T.n_Token_text, rfl, ?_⟩
        walk_at "v"
        refine ⟨tx, _, rfl, s37 _ _ (g3.same _ _ (eF _ _ t2)), by rw [bs_length, sizeLine_eq]; omega, fun H8 p8 s8 hp8 h8 => ?_⟩
        refine ⟨l2, p8, _, _, rfl, rfl, s8 _ _ hl7, h8, by simp only [List.length_cons, List.length_nil, List.length_append, bs_length, sizeLine_eq]; omega, fun r hr2 => ?_⟩
        rw [List.append_assoc, List.cons_append, List.nil_append, ← told_text, ← told_text]
        have s9 := upd_same_of (o := HO.lst (V.int 1 :: (intsV (Vapaqf.toldText (placeText q)) ++ intsV (Vapaqf.toldText (Vapaqf.tokenText t))))) hr2
        have s39 := s37.trans (s8.trans s9)
        have g4 : Go [] _ _ _ _ := Go.new (S := []) g3.same s39
        refine k _ _ r (g3.trans g4 (by simp)) (SeAt.go g4 g3.same (by simp) hS3) ?_
        rw [Gr.new ((s37.trans s8).free hr2), upd_same, head_text hb]
        show some (HO.lst _) = some (HO.lst (intsV (1 :: (toldPlace q ++ _))))
        unfold intsV toldPlace
        rw [List.map_cons, List.map_append]
      · rw [if_neg hg] at k
        refine if_pos_of (by simpa using hg) ?_
        refine ⟨by show 0 ≤ sizeLine; exact Nat.zero_le _, fun r hr2 => ?_⟩
        have s4 := upd_same_of (o := HO.lst []) hr2
        have g4 : Go [] _ _ _ _ := Go.new (S := []) g3.same s4
        refine k _ _ r (g3.trans g4 (by simp)) (SeAt.go g4 g3.same (by simp) hS3) ?_
        rw [Gr.new hr2]
        exact upd_same
theorem ok_Search_fault_of_sum (T : Facts K mg) : OkFn P w K mg base CX0 1 (He.ma K (He.ga K "Search") "fault_of_sum") 1 (spSumFault K) := by
  refine mk_fn T.d_Search_fault_of_sum sc_Search_fault_of_sum (fun _ _ _ _ _ _ us hl => match us, hl with | [_], _ => rfl) (fun vs H Q E h => ?_) (fun cdv A outer s H vs Q E hr h => ?_)
  · obtain ⟨_, _, _, _, rfl, _⟩ := h
    rfl
  · obtain ⟨F, c, p, s, rfl, sF, hs, k⟩ := h
    refine ⟨_, PSs.nox (pss_cons (ps_if (PW.pt (pw_and (pt_cmpR op_isN (pe_fld (pv 0) rfl) pe_non (nomark _)) (pw_and1 (PW.pt (pw_or (pt_cmpR op_lt (pe_fld (pv 0) rfl) (pe_un un_neg (pe_num rfl T.i_BIGGEST)) (nomark _)) (pw_or1 (pt_cmpR op_lt (pe_num rfl T.i_BIGGEST) (pe_fld (pv 0) rfl) (nomark _))))))))
        (pss_one (ps_ret (pe_tup (pa_cons (pe_num rfl T.i_SUM_TOO_FAR) (pa_cons (pe_lst pa_nil) pa_nil)))))
        pss_nil)
      (pss_one (ps_ret (pe_fld (pv 0) rfl)))), ?_⟩
    obtain ⟨hcF, qa, cv, sv, ⟨dx, h1⟩, ⟨sa, tv, as, ⟨dq, hq1⟩, hq2, hq3, hq4⟩, h3, h4⟩ := hs
    refine ⟨_, rfl, _, _, _, _, _, rfl, h1, T.c_Search, T.n_Search_sum_fault, rfl, ?_⟩
    cases ho : s.odd with
    | some q =>
      rw [ho] at k h4
      have h4' := h4
      obtain ⟨b0, p0, rfl, -⟩ := h4
      refine ⟨rfl, _, rfl, ?_⟩
      refine if_neg_of rfl ?_
      refine ⟨_, rfl, _, _, _, _, _, rfl, h1, T.c_Search, T.n_Search_sum_fault, rfl, ?_⟩
      exact k H _ (Same.refl _) (h4'.mono (Gr.up sF H))
    | none =>
      rw [ho] at k h4
      have h4' : sv = .non := h4
      subst h4'
      refine ⟨rfl, _, rfl, ?_⟩
      refine if_pos_of rfl ?_
      refine ⟨_, rfl, _, _, _, _, _, rfl, h1, T.c_Search, T.n_Search_total, rfl, ?_⟩
      walk_at "v"
      by_cases h1t : s.total < -1000000000
      · have hd : s.total < -1000000000 ∨ 1000000000 < s.total := .inl h1t
        have k' := k
        simp only [if_pos hd] at k'
        refine if_pos_of (decide_eq_true h1t) ?_
        walk_at "v"
        refine ⟨by show 0 ≤ sizeLine; exact Nat.zero_le _, fun l hl => ?_⟩
        have s1 := upd_same_of (o := HO.lst []) hl
        have hl1 : upd H l (.lst []) l = _ := upd_same
        generalize upd H l (.lst []) = H1 at s1 hl1 ⊢
        walk_at "v"
        refine ⟨by show 2 ≤ sizeLine; decide, fun b hb => ?_⟩
        have s2 := upd_same_of (o := HO.tup [V.int 6, V.ref l]) hb
        exact k' _ _ (s1.trans s2) ⟨b, l, rfl, by rw [Gr.new (s1.free hb)]; exact upd_same, ⟨[], by rw [Gr.new hl]; exact s2 _ _ hl1, trivial⟩, ⟨by simp, fun s h => (nomatch h)⟩⟩
      · refine if_neg_of (decide_eq_false h1t) ?_
        refine ⟨_, rfl, _, _, _, _, _, rfl, h1, T.c_Search, T.n_Search_total, rfl, ?_⟩
        walk_at "v"
        by_cases h2t : 1000000000 < s.total
        · have hd : s.total < -1000000000 ∨ 1000000000 < s.total := .inr h2t
          have k' := k
          simp only [if_pos hd] at k'
          refine if_pos_of (decide_eq_true h2t) ?_
          walk_at "v"
          refine ⟨by show 0 ≤ sizeLine; exact Nat.zero_le _, fun l hl => ?_⟩
          have s1 := upd_same_of (o := HO.lst []) hl
          have hl1 : upd H l (.lst []) l = _ := upd_same
          generalize upd H l (.lst []) = H1 at s1 hl1 ⊢
          walk_at "v"
          refine ⟨by show 2 ≤ sizeLine; decide, fun b hb => ?_⟩
          have s2 := upd_same_of (o := HO.tup [V.int 6, V.ref l]) hb
          exact k' _ _ (s1.trans s2) ⟨b, l, rfl, by rw [Gr.new (s1.free hb)]; exact upd_same, ⟨[], by rw [Gr.new hl]; exact s2 _ _ hl1, trivial⟩, ⟨by simp, fun s h => (nomatch h)⟩⟩
        · have hd : ¬ (s.total < -1000000000 ∨ 1000000000 < s.total) := fun z => z.elim h1t h2t
          have k' := k
          simp only [if_neg hd] at k'
          refine if_neg_of (decide_eq_false h2t) ?_
          refine ⟨_, rfl, _, _, _, _, _, rfl, h1, T.c_Search, T.n_Search_sum_fault, rfl, ?_⟩
          exact k' H _ (Same.refl _) rfl
theorem ok_Search_end (T : Facts K mg) : OkFn P w K mg base CX0 4 (He.ma K (He.ga K "Search") "end") 1 (spEnd K) := by
  refine mk_fn T.d_Search_end sc_Search_end (fun _ _ _ _ _ _ us hl => match us, hl with | [_], _ => rfl) (fun vs H Q E h => ?_) (fun cdv A outer s H vs Q E hr h => ?_)
  · obtain ⟨_, _, _, _, rfl, _⟩ := h
    rfl
  · obtain ⟨F, c, p, s, rfl, sF, hs, k⟩ := h
    refine ⟨_, PSs.nox (pss_cons (ps_set (i := 1) sc_Search_end.nd rfl (.inl rfl) (pe_fld (pv 0) rfl))
      (pss_cons (ps_if (PW.pt (pw_and (pt_cmpR op_isN (pv 1) pe_non (nomark _)) (pw_and1 (pt_cmpR op_eq (pe_fld (pe_fld (pv 0) rfl) rfl) (pe_num rfl T.i_SUM) (nomark _)))))
        (pss_one (ps_set (i := 1) sc_Search_end.nd rfl (.inl rfl) (c_meth0 (pv 0) T.c_Search T.m_Search_fault_of_sum (ok_Search_fault_of_sum T) (hr.mono (by decide)) pass0)))
        pss_nil)
      (pss_cons (ps_if (pt_cmpR op_notN (pv 1) pe_non (nomark _))
        (pss_cons (ps_asg (pv 1) (pg_tup rfl (pgs_cons (pg_name (i := 2) sc_Search_end.nd rfl (.inl rfl)) (pgs_cons (pg_name (i := 3) sc_Search_end.nd rfl (.inl rfl)) pgs_nil))))
        (pss_one (ps_ret (pe_op op_cat (pe_lst (pa_cons (pe_num rfl T.i_END_FAULT) (pa_cons (pv 2) pa_nil))) (c_fn (ok_counted T) (hr.mono (by decide)) rfl T.g_counted pass0 (pa_cons (c_fn (ok_place_text T) (hr.mono (by decide)) rfl T.g_place_text pass0 (pa_cons (pv 3) pa_nil)) pa_nil))))))
        pss_nil)
      (pss_cons (ps_if (pt_cmpR op_eq (pe_fld (pe_fld (pv 0) rfl) rfl) (pe_num rfl T.i_COUNT) (nomark _))
        (pss_one (ps_ret (pe_lst (pa_cons (pe_num rfl T.i_END_NUMBER) (pa_cons (pe_fld (pv 0) rfl) pa_nil)))))
        pss_nil)
      (pss_cons (ps_if (pt_cmpR op_eq (pe_fld (pe_fld (pv 0) rfl) rfl) (pe_num rfl T.i_SUM) (nomark _))
        (pss_one (ps_ret (pe_lst (pa_cons (pe_num rfl T.i_END_NUMBER) (pa_cons (pe_fld (pv 0) rfl) pa_nil)))))
        pss_nil)
      (pss_one (ps_ret (pe_lst (pa_cons (pe_num rfl T.i_END_RESULTS) (pa_cons (pe_fld (pv 0) rfl) pa_nil)))))))))), ?_⟩
    obtain ⟨hcF, qa, cv, sv, ⟨dx, h1⟩, ⟨sa, tv, as, ⟨dq, hq1⟩, hq2, hq3, hq4⟩, h3, h4⟩ := hs
    have hQ : QuestAt K F qa p := ⟨sa, tv, as, ⟨dq, hq1⟩, hq2, hq3, hq4⟩
    refine ⟨_, rfl, _, _, _, _, _, rfl, h1, T.c_Search, T.n_Search_chain_fault, rfl, ?_⟩
    dsimp only [gName]
    refine seq_cut (R := fun σ' H1 => ∃ v u2 u3, Same H H1 ∧ FaultV (Gr H F H1) v (s.endFault p) ∧ σ' = [some (.ref c), some v, u2, u3]) (fun nx kx => ?_) ?_
    · have hS : SeAt K F H c p s := ⟨hcF, qa, cv, sv, ⟨dx, h1⟩, hQ, h3, h4⟩
      unfold Srch.endFault at kx
      cases hch : s.chain with
      | some f =>
        rw [hch] at h3 kx
        have h3' := h3
        obtain ⟨b0, p0, rfl, -⟩ := h3
        refine ⟨_, rfl, ?_⟩
        refine ⟨rfl, _, rfl, ?_⟩
        refine if_neg_of rfl ?_
        exact kx _ _ ⟨_, _, _, Same.refl _, h3'.mono (Gr.up sF H), rfl⟩
      | none =>
        rw [hch] at h3 kx
        have h3' : cv = .non := h3
        subst h3'
        refine ⟨_, rfl, ?_⟩
        refine ⟨rfl, _, rfl, ?_⟩
        refine if_pos_of rfl ?_
        refine ⟨_, rfl, _, _, _, _, _, rfl, h1, T.c_Search, T.n_Search_question, rfl, ?_⟩
        refine ⟨_, _, _, _, _, rfl, sF _ _ hq1, T.c_Question, T.n_Question_fold, rfl, ?_⟩
        walk_at "v"
        refine ⟨rfl, _, rfl, ?_⟩
        by_cases hg : p.gather = 2
        · simp only [if_pos hg] at kx
          refine if_pos_of (by rw [hg]; rfl) ?_
          refine ⟨_, rfl, _, _, _, rfl, h1, rfl, ?_⟩
          exact ⟨F, c, p, s, rfl, sF, hS, fun H1 v s1 hv => kx _ _ ⟨v, _, _, s1, hv, rfl⟩⟩
        · simp only [if_neg hg] at kx
          refine if_neg_of (decide_eq_false fun z => hg (by have := V.int.inj z; omega)) ?_
          exact kx _ _ ⟨_, _, _, Same.refl _, rfl, rfl⟩
    · rintro σ' H1 ⟨v, u2, u3, s1, hv, rfl⟩
      have h1' := s1 _ _ h1
      have hq1' := s1 _ _ (sF _ _ hq1)
      unfold Srch.finish at k
      cases he : s.endFault p with
      | some f =>
        obtain ⟨n, q⟩ := f
        rw [he] at hv k
        obtain ⟨b, pa, rfl, hb, hpa, qok⟩ := hv
        have sG : Same (Gr H F H1) H1 := Gr.down' sF s1
        refine ⟨_, rfl, ?_⟩
        refine ⟨rfl, _, rfl, ?_⟩
        refine if_pos_of rfl ?_
        refine ⟨_, rfl, b, _, rfl, SqT.of (sG _ _ hb), rfl, ?_⟩
        refine ⟨_, _, rfl, _, _, rfl, rfl, ?_⟩
        dsimp only [gName]
        walk_at "v"
        refine ⟨by show 2 ≤ sizeLine; decide, fun l hl => ?_⟩
        have s4 := upd_same_of (o := HO.lst [V.int 2, V.int (n : Int)]) hl
        have hl4 : upd H1 l (.lst [V.int 2, V.int (n : Int)]) l = _ := upd_same
        generalize upd H1 l (.lst [V.int 2, V.int (n : Int)]) = H4 at s4 hl4 ⊢
        walk_at "v"
        refine ⟨pa, q, rfl, hpa.mono (sG.trans s4), qok, fun H5 p5 s5 hp5 h5 => ?_⟩
        walk_at "v"
        have hlen := placeText_len qok
        refine ⟨p5, _, rfl, h5, by rw [bs_length, sizeLine_eq]; omega, fun H6 p6 s6 hp6 h6 => ?_⟩
        refine ⟨l, p6, _, _, rfl, rfl, s6 _ _ (s5 _ _ hl4), h6, by simp only [List.length_cons, List.length_nil, bs_length, sizeLine_eq]; omega, fun r hr2 => ?_⟩
        have s7 := upd_same_of (o := HO.lst ([V.int 2, V.int (n : Int)] ++ V.int ((bs (placeText q)).length : Nat) :: bs (placeText q))) hr2
        refine k _ r (s1.trans (s4.trans (s5.trans (s6.trans s7)))) ((s1.trans (s4.trans (s5.trans s6))).free hr2) ?_
        rw [upd_same]
        exact congrArg (fun z => some (HO.lst z)) (told_place 2 n q)
      | none =>
        rw [he] at hv k
        have hv' : v = .non := hv
        subst hv'
        refine ⟨_, rfl, ?_⟩
        refine ⟨rfl, _, rfl, ?_⟩
        refine if_neg_of rfl ?_
        refine ⟨_, rfl, _, _, _, _, _, rfl, h1', T.c_Search, T.n_Search_question, rfl, ?_⟩
        refine ⟨_, _, _, _, _, rfl, hq1', T.c_Question, T.n_Question_fold, rfl, ?_⟩
        walk_at "v"
        refine ⟨rfl, _, rfl, ?_⟩
        by_cases hg : p.gather = 1
        · simp only [if_pos hg] at k
          refine if_pos_of (by rw [hg]; rfl) ?_
          walk_at "v"
          refine ⟨_, _, _, _, _, rfl, h1', T.c_Search, T.n_Search_results, rfl, ?_⟩
          walk_at "v"
          refine ⟨by show 2 ≤ sizeLine; decide, fun r hr2 => ?_⟩
          exact k _ r (s1.trans (upd_same_of hr2)) (s1.free hr2) upd_same
        · simp only [if_neg hg] at k
          refine if_neg_of (decide_eq_false fun z => hg (by have := V.int.inj z; omega)) ?_
          refine ⟨_, rfl, _, _, _, _, _, rfl, h1', T.c_Search, T.n_Search_question, rfl, ?_⟩
          refine ⟨_, _, _, _, _, rfl, hq1', T.c_Question, T.n_Question_fold, rfl, ?_⟩
          walk_at "v"
          refine ⟨rfl, _, rfl, ?_⟩
          by_cases hg2 : p.gather = 2
          · simp only [if_pos hg2] at k
            refine if_pos_of (by rw [hg2]; rfl) ?_
            walk_at "v"
            refine ⟨_, _, _, _, _, rfl, h1', T.c_Search, T.n_Search_total, rfl, ?_⟩
            walk_at "v"
            refine ⟨by show 2 ≤ sizeLine; decide, fun r hr2 => ?_⟩
            exact k _ r (s1.trans (upd_same_of hr2)) (s1.free hr2) upd_same
          · simp only [if_neg hg2] at k
            refine if_neg_of (decide_eq_false fun z => hg2 (by have := V.int.inj z; omega)) ?_
            walk_at "v"
            refine ⟨_, _, _, _, _, rfl, h1', T.c_Search, T.n_Search_results, rfl, ?_⟩
            walk_at "v"
            refine ⟨by show 2 ≤ sizeLine; decide, fun r hr2 => ?_⟩
            exact k _ r (s1.trans (upd_same_of hr2)) (s1.free hr2) upd_same
theorem ok_Search_meet (T : Facts K mg) : OkFn P w K mg base CX0 36 (He.ma K (He.ga K "Search") "meet") 3 (spMeet K) := by
  refine mk_fn T.d_Search_meet sc_Search_meet (fun _ _ _ _ _ _ us hl => match us, hl with | [_, _, _], _ => rfl) (fun vs H Q E h => ?_) (fun cdv A outer s H vs Q E hr h => ?_)
  · obtain ⟨_, _, _, _, _, _, _, _, rfl, _⟩ := h
    rfl
  · obtain ⟨F, c, pa, tk, p, s, q, t, rfl, sF, hs, hq, qok, ht, hb, tok, ty, k⟩ := h
    refine ⟨_, PSs.nox (pss_cons (ps_set (i := 3) sc_Search_meet.nd rfl (.inl rfl) (pe_fld (pe_fld (pv 0) rfl) rfl))
      (pss_cons (ps_if (PW.pt (pw_or (pt_val (pe_fld (pv 0) rfl)) (pw_or1 (pt_not (pt_val (c_meth (pv 0) T.c_Search T.m_Search_is_reached (ok_Search_is_reached T) (hr.mono (by decide)) pass0 (pa_cons (pv 1) pa_nil)))))))
        (pss_one (ps_ret (pe_lst pa_nil)))
        pss_nil)
      (pss_cons (ps_if (pt_cmpR op_lt (pe_callB call_len_seq (by rfl) T.f_len boot_len (pa_cons (pv 1) pa_nil)) (pe_callB call_len_seq (by rfl) T.f_len boot_len (pa_cons (pv 3) pa_nil)) (nomark _))
        (pss_one (ps_ret (c_meth (pv 0) T.c_Search T.m_Search_look_for_fault (ok_Search_look_for_fault T) (hr.mono (by decide)) pass0 (pa_cons (c_methD (pe_ix ix_list (pv 3) (pe_callB call_len_seq (by rfl) T.f_len boot_len (pa_cons (pv 1) pa_nil)) (fun _ _ => rfl)) hr pass0 (pa_cons (pe_fld (pv 2) rfl) pa_nil)) (pa_cons (pv 1) pa_nil)))))
        pss_nil)
      (pss_cons (ps_if (PW.pt (pw_and (pt_cmpR op_gt (pe_callB call_len_seq (by rfl) T.f_len boot_len (pa_cons (pv 1) pa_nil)) (pe_callB call_len_seq (by rfl) T.f_len boot_len (pa_cons (pv 3) pa_nil)) (nomark _)) (pw_and1 (pt_not (pt_val (pe_fld (pe_fld (pv 0) rfl) rfl))))))
        (pss_one (ps_ret (pe_lst pa_nil)))
        pss_nil)
      (pss_cons (ps_set (i := 4) sc_Search_meet.nd rfl (.inl rfl) (pe_fld (pe_fld (pv 0) rfl) rfl))
      (pss_cons (ps_if (PW.pt (pw_and (pt_cmpR op_notN (pv 4) pe_non (nomark _)) (pw_and1 (pt_not (pt_val (c_methD (pv 4) hr pass0 (pa_cons (pe_fld (pv 2) rfl) pa_nil)))))))
        (pss_one (ps_ret (pe_lst pa_nil)))
        pss_nil)
      (pss_one (ps_ret (c_meth (pv 0) T.c_Search T.m_Search_add_result (ok_Search_add_result T) (hr.mono (by decide)) pass0 (pa_cons (pv 1) (pa_cons (pv 2) pa_nil))))))))))), ?_⟩
    obtain ⟨hcF, qa, cv, sv, ⟨dx, h1⟩, ⟨sa, tv, as, ⟨dq, hq1⟩, hq2, hq3, hq4⟩, h3, h4⟩ := id hs
    have hQ : QuestAt K F qa p := ⟨sa, tv, as, ⟨dq, hq1⟩, hq2, hq3, hq4⟩
    obtain ⟨tx, kv, nv, ⟨dt, t1⟩, t2, t3, t4⟩ := id ht
    unfold KeyV at t3
    rw [if_pos hb] at t3
    obtain ⟨ka, rfl, k1⟩ := t3
    have hok := tokOk_head tok
    obtain ⟨vs, hp, hw⟩ := id hq
    have l1 := hq3.length
    have l2 := hw.length
    have empty : ∀ (H1 : Hp) (r : Addr), Same H H1 → H1 r = none → ToldSe K F H c p (s, []) Q → Q (.ref r) (upd H1 r (.lst [])) := fun H1 r s1 hr2 k => by
      have s2 := s1.trans (upd_same_of (o := HO.lst []) hr2)
      refine k _ _ r (Go.new sF s2) (SeAt.go (S := []) (Go.new sF s2) sF (by simp) hs) ?_
      rw [Gr.new (s1.free hr2)]
      exact upd_same
    refine ⟨_, rfl, _, _, _, _, _, rfl, h1, T.c_Search, T.n_Search_question, rfl, ?_⟩
    refine ⟨_, _, _, _, _, rfl, sF _ _ hq1, T.c_Question, T.n_Question_steps, rfl, ?_⟩
    dsimp only [gName]
    refine ⟨_, rfl, _, _, _, _, _, rfl, h1, T.c_Search, T.n_Search_halted, rfl, ?_⟩
    unfold Srch.meet at k
    cases hh : s.halted with
    | true =>
      rw [hh] at k
      refine ⟨_, rfl, ?_⟩
      refine if_pos_of rfl ?_
      refine ⟨by show 0 ≤ sizeLine; exact Nat.zero_le _, fun r hr2 => ?_⟩
      exact empty H r (Same.refl _) hr2 k
    | false =>
      rw [hh, Bool.false_or] at k
      refine ⟨_, rfl, ?_⟩
      refine if_neg_of rfl ?_
      refine ⟨_, rfl, _, _, _, rfl, h1, rfl, ?_⟩
      walk_at "v"
      refine ⟨F, c, pa, p, s, q, rfl, sF, hs, hq, ty hh, fun H1 s1 => ?_⟩
      walk_at "v"
      cases hre : reached p.steps q with
      | false =>
        rw [hre] at k
        refine if_pos_of rfl ?_
        refine ⟨by show 0 ≤ sizeLine; exact Nat.zero_le _, fun r hr2 => ?_⟩
        exact empty _ r s1 hr2 k
      | true =>
        rw [hre] at k
        simp only [Bool.not_true, Bool.false_eq_true, if_false] at k
        refine if_neg_of rfl ?_
        have sF1 := sF.trans s1
        walk_at "v"
        refine ⟨pa, vs, rfl, .inl (SqL.of (sF1 _ _ hp)), ?_⟩
        walk_at "v"
        refine ⟨sa, _, rfl, .inl (SqL.of (sF1 _ _ hq2)), ?_⟩
        walk_at "v"
        have el : decide (((vs.length : Nat) : Int) < (((as.map V.ref).length : Nat) : Int)) = decide (q.length < p.steps.length) := by
          rw [List.length_map, l1, l2]
          simp
        by_cases hlen : q.length < p.steps.length
        · refine if_pos_of (el.trans (decide_eq_true hlen)) ?_
          have e1 : p.steps[q.length]? = some p.steps[q.length] := List.getElem?_eq_getElem hlen
          rw [e1] at k
          obtain ⟨a, ha, hsa⟩ := hq3.get e1
          obtain ⟨dx2, fs2, ei, ef, -⟩ := hsa.ins
          have eix : atI (as.map V.ref) ((vs.length : Nat) : Int) = some (V.ref a) := by
            refine atI_nat ?_
            rw [List.getElem?_map, l2, ha]
            rfl
          refine ⟨_, rfl, _, _, _, rfl, s1 _ _ h1, rfl, ?_⟩
          walk_at "v"
          refine ⟨pa, vs, rfl, .inl (SqL.of (sF1 _ _ hp)), ?_⟩
          refine ⟨_, _, _, _, rfl, rfl, SqL.of (sF1 _ _ hq2), eix, ?_⟩
          refine ⟨a, _, dx2, fs2, _, _, _, rfl, sF1 _ _ ei, ef, (clsW_of T _).1, (clsW_of T _).2.1, (ok_fault T _).mono (by decide), ?_⟩
          refine ⟨_, rfl, _, _, _, _, _, rfl, sF1 _ _ t1, T.c_Token, T.n_Token_kind, rfl, ?_⟩
          refine ⟨a, headOf t, by rw [kind_head hb], hsa.mono sF1, ?_⟩
          walk_at "v"
          have g1 : Go [] H F H1 F := Go.idle sF s1
          refine ⟨F, c, pa, p, s, q, _, rfl, sF1, SeAt.go g1 sF (by simp) hs, hq, qok, fun H2 F2 r g2 hS2 hr2 => ?_⟩
          exact k H2 F2 r ((g1.wide (by simp) : Go [c] H F H1 F).trans g2 (by intro b h _; exact h)) hS2 hr2
        · refine if_neg_of (el.trans (decide_eq_false hlen)) ?_
          have e1 : p.steps[q.length]? = none := List.getElem?_eq_none (by omega)
          rw [e1] at k
          simp only at k
          have el2 : decide (((as.map V.ref).length : Int) < (vs.length : Int)) = decide (p.steps.length < q.length) := by
            rw [List.length_map, l1, l2]
            simp
          dsimp only [tNext]
          refine seq_if (R := fun b H2 => H2 = H1 ∧ b = (decide (p.steps.length < q.length) && !p.deep)) (fun Q' kq => ?_) ?_ ?_
          · walk_at "v"
            refine ⟨pa, vs, rfl, .inl (SqL.of (sF1 _ _ hp)), ?_⟩
            walk_at "v"
            refine ⟨sa, _, rfl, .inl (SqL.of (sF1 _ _ hq2)), ?_⟩
            walk_at "v"
            cases hl2 : decide (p.steps.length < q.length) with
            | true =>
              rw [hl2] at el2
              refine if_pos_of el2 ?_
              refine ⟨_, rfl, _, _, _, _, _, rfl, s1 _ _ h1, T.c_Search, T.n_Search_question, rfl, ?_⟩
              refine ⟨_, _, _, _, _, rfl, sF1 _ _ hq1, T.c_Question, T.n_Question_deep, rfl, ?_⟩
              exact ⟨_, rfl, kq _ _ ⟨rfl, by rw [hl2, Bool.true_and]⟩⟩
            | false =>
              rw [hl2] at el2
              refine if_neg_of el2 ?_
              exact kq _ _ ⟨rfl, by rw [hl2, Bool.false_and]⟩
          · rintro H2 ⟨rfl, hb2⟩
            rw [← hb2] at k
            refine ⟨by show 0 ≤ sizeLine; exact Nat.zero_le _, fun r hr2 => ?_⟩
            exact empty _ r s1 hr2 k
          · rintro H2 ⟨rfl, hb2⟩
            rw [← hb2] at k
            simp only [Bool.false_eq_true, if_false] at k
            refine ⟨_, rfl, _, _, _, _, _, rfl, s1 _ _ h1, T.c_Search, T.n_Search_question, rfl, ?_⟩
            refine ⟨_, _, _, _, _, rfl, sF1 _ _ hq1, T.c_Question, T.n_Question_condition, rfl, ?_⟩
            dsimp only [gName]
            have g1 : Go [] H F H2 F := Go.idle sF s1
            refine seq_if (R := fun b H3 => Same H2 H3 ∧ b = p.test.any fun t' => !Vapaqf.holds t' (headOf t)) (fun Q' kq => ?_) ?_ ?_
            · cases htest : p.test with
              | none =>
                rw [htest] at hq4 kq
                have e4 : tv = .non := hq4
                subst e4
                refine ⟨_, rfl, ?_⟩
                refine ⟨rfl, _, rfl, ?_⟩
                refine if_neg_of rfl ?_
                exact kq _ _ ⟨Same.refl _, rfl⟩
              | some tt =>
                rw [htest] at hq4 kq
                obtain ⟨b, rfl, hT, hd⟩ := hq4
                obtain ⟨dx2, fs2, ei, ef⟩ := hT.ins
                refine ⟨_, rfl, ?_⟩
                refine ⟨rfl, _, rfl, ?_⟩
                refine if_pos_of rfl ?_
                refine ⟨_, rfl, ?_⟩
                refine ⟨b, _, dx2, fs2, _, _, _, rfl, sF1 _ _ ei, ef, (cls_of T tt).1, (cls_of T tt).2, (ok_holds T tt).mono (by omega), ?_⟩
                refine ⟨_, rfl, _, _, _, _, _, rfl, sF1 _ _ t1, T.c_Token, T.n_Token_key, rfl, ?_⟩
                refine ⟨F, b, ka, headOf t, rfl, sF1, hT, k1, hok, fun H3 s3 => ?_⟩
                exact ⟨_, rfl, kq _ _ ⟨s3, rfl⟩⟩
            · rintro H3 ⟨s3, hb3⟩
              rw [← hb3] at k
              refine ⟨by show 0 ≤ sizeLine; exact Nat.zero_le _, fun r hr2 => ?_⟩
              exact empty _ r (s1.trans s3) hr2 k
            · rintro H3 ⟨s3, hb3⟩
              rw [← hb3] at k
              simp only [Bool.false_eq_true, if_false] at k
              have s13 := s1.trans s3
              have g3 : Go [] H F H3 F := Go.idle sF s13
              refine ⟨_, rfl, _, _, _, rfl, s13 _ _ h1, rfl, ?_⟩
              walk_at "v"
              refine ⟨F, c, pa, tk, p, s, q, t, rfl, sF.trans s13, SeAt.go g3 sF (by simp) hs, hq, qok, ht, hb, tok, fun H4 F4 r g4 hS4 hr4 => ?_⟩
              exact k H4 F4 r ((g3.wide (by simp) : Go [c] H F H3 F).trans g4 (by intro b h _; exact h)) hS4 hr4
end
end TS
end
section
set_option Elab.async false
set_option linter.all false
set_option maxRecDepth 100000
set_option maxHeartbeats 4000000
namespace TS
open PySem PySem.Spec PyProof.Rows L2
open PySem.W (keyToks keyToksAll dataLt alike)
open Vapaqf (Head Way Token Test matches_ faultOf Plan)
open Vapaqa (Text Name stepText placeText textBefore)
local macro_rules | `(tactic| walk_at "v") => `(tactic| repeat (first | refine ⟨_, rfl, ?_⟩ | refine ⟨_, _, rfl, rfl, ?_⟩ | refine ⟨_, _, rfl, ?_⟩))
local macro_rules | `(tactic| walk_at "few") => `(tactic| first | decide | (show 0 < 1000; decide) | (show 1 < 1000; decide) | (show 2 < 1000; decide) | (show 3 < 1000; decide) | (show 4 < 1000; decide) | (show 5 < 1000; decide) | (show 6 < 1000; decide))
/-! ### < of two texts as lists of bytes -/
theorem dataLt_lists (t u : Text) : dataLt (.list (dB t)) (.list (dB u)) = textBefore t u := by
  have h := lex_texts t u [] []
  rw [List.append_nil, List.append_nil] at h
  unfold dataLt
  rw [keyToks, keyToks, h]
  by_cases e : t = u
  · subst e
    rw [if_pos rfl, textBefore_irr]
    simp [PyProof.Rows.lexLt]
  · rw [if_neg e]
def rLtTx : R2 := fun x y H Q => ∃ (a b : Addr) (t u : Text), x = .ref a ∧ y = .ref b ∧ TextAt H a t ∧ TextAt H b u ∧ Q (.bl (textBefore t u)) H
theorem op_ltTx {X : Cx} (hu : X.A.units + 64 < cLine) : OpR X (compareOp .Lt) rLtTx := by
  intro pins s σ H x y v u Q I rx ry h
  obtain ⟨a, b, t, w, rfl, rfl, ha, hb, q⟩ := h
  obtain ⟨as, q1⟩ := Dp.reads I (.list (dB t)) _ _ (dp_text ha) rx
  obtain ⟨bs2, q2⟩ := Dp.reads I (.list (dB w)) _ _ (dp_text hb) ry
  have al : PySem.W.alike (.list (dB t)) (.list (dB w)) = true := by
    rw [PySem.W.alike]
    exact alike_dB t w
  have dp : (PyData.list (dB t)).depth ≤ 10 := by
    have := depth_dB t
    simp only [PyData.depth]
    omega
  refine PySem.W.rcLt_alike _ _ X.A s _ _ as bs2 q1 q2 al (by simp) (by omega) X.prog X.w X.xe (EP X pins σ Q) ⟨.bl _, H, I, rfl, ?_⟩
  rw [dataLt_lists]
  exact q
/-! ### frames in the heap -/
def LastV (F : Hp) (v : V) (n : Name) : Prop := if n = [] then v = .non else ∃ b, v = .ref b ∧ TextAt F b n
theorem LastV.mono {F F' : Hp} {v : V} {n : Name} (e : Same F F') (h : LastV F v n) : LastV F' v n := by
  unfold LastV at h ⊢
  split at h
  · rename_i hn; rw [if_pos hn]; exact h
  · rename_i hn; rw [if_neg hn]; obtain ⟨b, e1, t⟩ := h; exact ⟨b, e1, e _ _ t⟩
def kindF (l : Bool) : Int := if l = true then 1 else 2
def frF (f : Fr) (v : V) : List (Str × V) := [("kind", .int (kindF f.isList)), ("begun", .int (f.begun : Int)), ("last_name", v), ("awaits_tree", .bl f.waits)]
def FrAt (K : PySem.W.Frag) (F H : Hp) (a : Addr) (f : Fr) : Prop := F a = none ∧ ∃ v, InsAt K H "Frame" a (frF f v) ∧ LastV F v f.name
theorem FrAt.go {K : PySem.W.Frag} {S : List Addr} {H F H' F' : Hp} {a : Addr} {f : Fr} (g : Go S H F H' F') (sF : Same F H) (n : a ∉ S) (h : FrAt K F H a f) : FrAt K F' H' a f := by
  obtain ⟨h0, v, ⟨dx, h1⟩, h2⟩ := h
  exact ⟨g.free (by rw [h1]; intro z; cases z) h0, v, ⟨dx, g.keep _ _ h1 n⟩, h2.mono (g.held sF)⟩
theorem FrAt.has {K : PySem.W.Frag} {F H : Hp} {a : Addr} {f : Fr} (h : FrAt K F H a f) : H a ≠ none := by
  obtain ⟨h0, v, ⟨dx, h1⟩, h2⟩ := h
  rw [h1]
  intro z
  cases z
def spFrameInit (K : PySem.W.Frag) : Sp := fun vs H Q _ => ∃ (p dx : Addr) (k : V), vs = [.ref p, k] ∧ H p = some (.ins (He.ga K "Frame") dx []) ∧
  ∀ H' : Hp, H' p = some (.ins (He.ga K "Frame") dx [("kind", k), ("begun", .int 0), ("last_name", .non), ("awaits_tree", .bl false)]) → (∀ b o, H b = some o → b ≠ p → H' b = some o) → Q .non H'
def spFrameTwin (K : PySem.W.Frag) : Sp := fun vs H Q _ => ∃ (F : Hp) (a : Addr) (f : Fr), vs = [.ref a] ∧ Same F H ∧ FrAt K F H a f ∧ ∀ H' r, Same H H' → H r = none → FrAt K F H' r f → Q (.ref r) H'
def spFrameBool (K : PySem.W.Frag) (r : Fr → Bool) : Sp := fun vs H Q _ => ∃ (F : Hp) (a : Addr) (f : Fr), vs = [.ref a] ∧ Same F H ∧ FrAt K F H a f ∧ Q (.bl (r f)) H
def spTakesName (K : PySem.W.Frag) : Sp := fun vs H Q _ => ∃ (F : Hp) (a b : Addr) (f : Fr) (n : Name), vs = [.ref a, .ref b] ∧ Same F H ∧ FrAt K F H a f ∧ TextAt H b n ∧ Q (.bl (f.takesName n)) H
def spTakesEnd (K : PySem.W.Frag) : Sp := fun vs H Q _ => ∃ (F : Hp) (a : Addr) (f : Fr) (l : Bool), vs = [.ref a, .int (if l = true then 4 else 5)] ∧ Same F H ∧ FrAt K F H a f ∧ Q (.bl (f.takesEnd l)) H
def spBeginWithin (K : PySem.W.Frag) : Sp := fun vs H Q _ => ∃ (F : Hp) (a : Addr) (f : Fr), vs = [.ref a] ∧ Same F H ∧ FrAt K F H a f ∧ ∀ H', Go [a] H F H' F → FrAt K F H' a f.beginWithin → Q .non H'
def spBeginField (K : PySem.W.Frag) : Sp := fun vs H Q _ => ∃ (F : Hp) (a b : Addr) (f : Fr) (n : Name), vs = [.ref a, .ref b] ∧ Same F H ∧ FrAt K F H a f ∧ TextAt F b n ∧ n ≠ [] ∧ ∀ H', Go [a] H F H' F → FrAt K F H' a (f.beginField n) → Q .non H'
def spWay (K : PySem.W.Frag) : Sp := fun vs H Q _ => ∃ (F : Hp) (a : Addr) (f : Fr), vs = [.ref a] ∧ Same F H ∧ FrAt K F H a f ∧ FrOk f ∧ 1 ≤ f.begun ∧ ∀ v, WayV F v f.way → Q v H
section
variable {P : Program} {w : World} {K : PySem.W.Frag} {mg : Str → Option Value} {base : Heap}
theorem ok_Frame_init (T : Facts K mg) : OkFn P w K mg base CX0 1 (He.ma K (He.ga K "Frame") "__init__") 2 (spFrameInit K) := by
  refine mk_fn T.d_Frame_init sc_Frame_init (fun _ _ _ _ _ _ us hl => match us, hl with | [_, _], _ => rfl) (fun vs H Q E h => ?_) (fun cdv A outer s H vs Q E hr h => ?_)
  · obtain ⟨_, _, _, rfl, _⟩ := h
    rfl
  · obtain ⟨p, dx, k, rfl, hp, q⟩ := h
    refine ⟨_, PSs.nox (pss_cons (ps_fld (pv 0) (pv 1) rfl)
      (pss_cons (ps_fld (pv 0) pe_int rfl)
      (pss_cons (ps_fld (pv 0) pe_non rfl)
      (pss_one (ps_fld (pv 0) pe_bl rfl))))), ?_⟩
    refine ⟨_, rfl, _, rfl, _, _, _, _, rfl, hp, T.c_Frame, T.n_Frame_kind, by walk_at "few", ?_⟩
    walk_at "v"
    refine ⟨_, _, _, _, rfl, upd_same, T.c_Frame, T.n_Frame_begun, by walk_at "few", ?_⟩
    walk_at "v"
    refine ⟨_, _, _, _, rfl, upd_same, T.c_Frame, T.n_Frame_last_name, by walk_at "few", ?_⟩
    walk_at "v"
    refine ⟨_, _, _, _, rfl, upd_same, T.c_Frame, T.n_Frame_awaits_tree, by walk_at "few", ?_⟩
    refine q _ upd_same fun b o e n => ?_
    rw [upd_ne n, upd_ne n, upd_ne n, upd_ne n]
    exact e
theorem ok_Frame_twin (T : Facts K mg) : OkFn P w K mg base CX0 3 (He.ma K (He.ga K "Frame") "twin") 1 (spFrameTwin K) := by
  refine mk_fn T.d_Frame_twin sc_Frame_twin (fun _ _ _ _ _ _ us hl => match us, hl with | [_], _ => rfl) (fun vs H Q E h => ?_) (fun cdv A outer s H vs Q E hr h => ?_)
  · obtain ⟨_, _, _, rfl, _⟩ := h
    rfl
  · obtain ⟨F, a, f, rfl, sF, ⟨haF, v, ⟨dx, h1⟩, hv⟩, q⟩ := h
    refine ⟨_, PSs.nox (pss_cons (ps_set (i := 1) sc_Frame_twin.nd rfl (.inl rfl) (c_make T.k_Frame (ok_Frame_init T) (hr.mono (by decide)) rfl T.g_Frame pass0 (pa_cons (pe_fld (pv 0) rfl) pa_nil)))
      (pss_cons (ps_fld (pv 1) (pe_fld (pv 0) rfl) rfl)
      (pss_cons (ps_fld (pv 1) (pe_fld (pv 0) rfl) rfl)
      (pss_cons (ps_fld (pv 1) (pe_fld (pv 0) rfl) rfl)
      (pss_one (ps_ret (pv 1))))))), ?_⟩
    refine ⟨_, rfl, _, _, _, _, _, rfl, h1, T.c_Frame, T.n_Frame_kind, rfl, ?_⟩
    walk_at "v"
    intro x dx2 hx hdx hne
    refine ⟨x, dx2, _, rfl, upd_same, fun H1 hi1 k1 => ⟨rfl, ?_⟩⟩
    have s1 : Same H H1 := Same.made hx hdx k1
    have hxa : a ≠ x := fun z => by rw [z, hx] at h1; cases h1
    walk_at "v"
    refine ⟨_, _, _, _, _, rfl, s1 _ _ h1, T.c_Frame, T.n_Frame_begun, rfl, ?_⟩
    refine ⟨_, rfl, _, _, _, _, rfl, hi1, T.c_Frame, T.n_Frame_begun, by walk_at "few", ?_⟩
    refine ⟨_, rfl, _, _, _, _, _, rfl, (upd_ne hxa).trans (s1 _ _ h1), T.c_Frame, T.n_Frame_last_name, rfl, ?_⟩
    refine ⟨_, rfl, _, _, _, _, rfl, upd_same, T.c_Frame, T.n_Frame_last_name, by walk_at "few", ?_⟩
    refine ⟨_, rfl, _, _, _, _, _, rfl, (upd_ne hxa).trans ((upd_ne hxa).trans (s1 _ _ h1)), T.c_Frame, T.n_Frame_awaits_tree, rfl, ?_⟩
    refine ⟨_, rfl, _, _, _, _, rfl, upd_same, T.c_Frame, T.n_Frame_awaits_tree, by walk_at "few", ?_⟩
    have hxF : F x = none := by
      cases z : F x with
      | none => rfl
      | some o => have := sF _ _ z; rw [hx] at this; cases this
    refine ⟨_, rfl, q _ x (fun b o e => ?_) hx ⟨hxF, v, ⟨dx2, upd_same⟩, hv⟩⟩
    have hb : b ≠ x := fun z => by rw [z, hx] at e; cases e
    rw [upd_ne hb, upd_ne hb, upd_ne hb]
    exact s1 _ _ e
theorem ok_Frame_takes_tree (T : Facts K mg) : OkFn P w K mg base CX0 1 (He.ma K (He.ga K "Frame") "takes_tree") 1 (spFrameBool K Fr.takesTree) := by
  refine mk_fn T.d_Frame_takes_tree sc_Frame_takes_tree (fun _ _ _ _ _ _ us hl => match us, hl with | [_], _ => rfl) (fun vs H Q E h => ?_) (fun cdv A outer s H vs Q E hr h => ?_)
  · obtain ⟨_, _, _, rfl, _⟩ := h
    rfl
  · obtain ⟨F, a, f, rfl, sF, ⟨haF, v, ⟨dx, h1⟩, hv⟩, q⟩ := h
    refine ⟨_, PSs.nox (pss_cons (ps_if (pt_cmpR op_eq (pe_fld (pv 0) rfl) (pe_num rfl T.i_LIST) (nomark _))
        (pss_one (ps_ret (pe_cmpR op_lt (pe_fld (pv 0) rfl) (pe_num rfl T.i_MOST_ITEMS) (nomark _))))
        pss_nil)
      (pss_one (ps_ret (pe_fld (pv 0) rfl)))), ?_⟩
    unfold Fr.takesTree at q
    refine ⟨_, rfl, _, _, _, _, _, rfl, h1, T.c_Frame, T.n_Frame_kind, rfl, ?_⟩
    walk_at "v"
    refine ⟨rfl, _, rfl, ?_⟩
    rcases btf f.isList with hl | hl
    · rw [if_pos hl] at q
      refine if_pos_of (by rw [hl]; rfl) ?_
      refine ⟨_, rfl, _, _, _, _, _, rfl, h1, T.c_Frame, T.n_Frame_begun, rfl, ?_⟩
      walk_at "v"
      have e : decide (((f.begun : Nat) : Int) < 10) = decide (f.begun < 10) := decide_eq_decide.mpr (by omega)
      show Q (.bl (decide (((f.begun : Nat) : Int) < 10))) H
      rw [e]
      exact q
    · rw [if_neg (by simp [hl])] at q
      refine if_neg_of (by rw [hl]; rfl) ?_
      refine ⟨_, rfl, _, _, _, _, _, rfl, h1, T.c_Frame, T.n_Frame_awaits_tree, rfl, ?_⟩
      exact q
theorem ok_Frame_takes_name (T : Facts K mg) : OkFn P w K mg base CX0 1 (He.ma K (He.ga K "Frame") "takes_name") 2 (spTakesName K) := by
  refine mk_fn T.d_Frame_takes_name sc_Frame_takes_name (fun _ _ _ _ _ _ us hl => match us, hl with | [_, _], _ => rfl) (fun vs H Q E h => ?_) (fun cdv A outer s H vs Q E hr h => ?_)
  · obtain ⟨_, _, _, _, _, rfl, _⟩ := h
    rfl
  · obtain ⟨F, a, b, f, n, rfl, sF, ⟨haF, v, ⟨dx, h1⟩, hv⟩, hn, q⟩ := h
    refine ⟨_, PSs.nox (pss_cons (ps_if (PW.pt (pw_or (pt_cmpR op_eq (pe_fld (pv 0) rfl) (pe_num rfl T.i_LIST) (nomark _)) (pw_or (pt_val (pe_fld (pv 0) rfl)) (pw_or1 (pt_cmpR op_eq (pe_fld (pv 0) rfl) (pe_num rfl T.i_MOST_FIELDS) (nomark _))))))
        (pss_one (ps_ret pe_bl))
        pss_nil)
      (pss_one (ps_ret (pe_or (pe_cmpR op_isN (pe_fld (pv 0) rfl) pe_non (nomark _)) (pe_one (pe_cmpR (op_ltTx hr.units) (pe_fld (pv 0) rfl) (pv 1) (nomark _))))))), ?_⟩
    unfold Fr.takesName at q
    refine ⟨_, rfl, _, _, _, _, _, rfl, h1, T.c_Frame, T.n_Frame_kind, rfl, ?_⟩
    walk_at "v"
    refine ⟨rfl, _, rfl, ?_⟩
    rcases btf f.isList with hl | hl
    · rw [hl, Bool.true_or, if_pos rfl] at q
      refine if_pos_of (by rw [hl]; rfl) ?_
      exact q
    · rw [hl, Bool.false_or] at q
      refine if_neg_of (by rw [hl]; rfl) ?_
      refine ⟨_, rfl, _, _, _, _, _, rfl, h1, T.c_Frame, T.n_Frame_awaits_tree, rfl, ?_⟩
      rcases btf f.waits with hw | hw
      · rw [hw, Bool.true_or, if_pos rfl] at q
        refine ⟨_, rfl, if_pos_of hw ?_⟩
        exact q
      · rw [hw, Bool.false_or] at q
        refine ⟨_, rfl, if_neg_of hw ?_⟩
        refine ⟨_, rfl, _, _, _, _, _, rfl, h1, T.c_Frame, T.n_Frame_begun, rfl, ?_⟩
        walk_at "v"
        refine ⟨rfl, _, rfl, ?_⟩
        by_cases h8 : f.begun = 8
        · rw [h8] at q
          refine if_pos_of (by rw [h8]; rfl) ?_
          exact q
        · rw [if_neg (by simpa using h8)] at q
          refine if_neg_of (decide_eq_false fun z => h8 (by have := V.int.inj z; omega)) ?_
          refine ⟨_, rfl, _, _, _, _, _, rfl, h1, T.c_Frame, T.n_Frame_last_name, rfl, ?_⟩
          unfold LastV at hv
          by_cases hnm : f.name = []
          · rw [if_pos hnm] at hv
            subst hv
            rw [hnm] at q
            refine ⟨rfl, _, rfl, ?_⟩
            refine if_pos_of rfl ?_
            exact q
          · rw [if_neg hnm] at hv
            obtain ⟨c, rfl, hc⟩ := hv
            have e0 : f.name.isEmpty = false := by cases hq : f.name with | nil => exact absurd hq hnm | cons _ _ => rfl
            rw [e0, Bool.false_or] at q
            refine ⟨rfl, _, rfl, ?_⟩
            refine if_neg_of rfl ?_
            refine ⟨_, rfl, _, _, _, _, _, rfl, h1, T.c_Frame, T.n_Frame_last_name, rfl, ?_⟩
            refine ⟨_, rfl, ?_⟩
            exact ⟨c, b, _, _, rfl, rfl, sF _ _ hc, hn, q⟩
theorem ok_Frame_takes_end (T : Facts K mg) : OkFn P w K mg base CX0 1 (He.ma K (He.ga K "Frame") "takes_end") 2 (spTakesEnd K) := by
  refine mk_fn T.d_Frame_takes_end sc_Frame_takes_end (fun _ _ _ _ _ _ us hl => match us, hl with | [_, _], _ => rfl) (fun vs H Q E h => ?_) (fun cdv A outer s H vs Q E hr h => ?_)
  · obtain ⟨_, _, _, _, rfl, _⟩ := h
    rfl
  · obtain ⟨F, a, f, l, rfl, sF, ⟨haF, v, ⟨dx, h1⟩, hv⟩, q⟩ := h
    refine ⟨_, PSs.nox (pss_cons (ps_if (pt_cmpR op_eq (pe_fld (pv 0) rfl) (pe_num rfl T.i_LIST) (nomark _))
        (pss_one (ps_ret (pe_cmpR op_eq (pv 1) (pe_num rfl T.i_LIST_END) (nomark _))))
        pss_nil)
      (pss_one (ps_ret (pe_and (pe_cmpR op_eq (pv 1) (pe_num rfl T.i_RECORD_END) (nomark _)) (pe_one (pe_not (pe_fld (pv 0) rfl))))))), ?_⟩
    unfold Fr.takesEnd at q
    refine ⟨_, rfl, _, _, _, _, _, rfl, h1, T.c_Frame, T.n_Frame_kind, rfl, ?_⟩
    walk_at "v"
    refine ⟨rfl, _, rfl, ?_⟩
    rcases btf f.isList with hl | hl
    · rw [if_pos hl] at q
      refine if_pos_of (by rw [hl]; rfl) ?_
      walk_at "v"
      refine ⟨rfl, ?_⟩
      cases l <;> exact q
    · rw [if_neg (by simp [hl])] at q
      refine if_neg_of (by rw [hl]; rfl) ?_
      walk_at "v"
      refine ⟨rfl, _, rfl, ?_⟩
      cases l with
      | true =>
        refine if_neg_of rfl ?_
        exact q
      | false =>
        refine if_pos_of rfl ?_
        refine ⟨_, rfl, _, _, _, _, _, rfl, h1, T.c_Frame, T.n_Frame_awaits_tree, rfl, ?_⟩
        exact ⟨_, rfl, q⟩
theorem ok_Frame_begin_within (T : Facts K mg) : OkFn P w K mg base CX0 1 (He.ma K (He.ga K "Frame") "begin_within") 1 (spBeginWithin K) := by
  refine mk_fn T.d_Frame_begin_within sc_Frame_begin_within (fun _ _ _ _ _ _ us hl => match us, hl with | [_], _ => rfl) (fun vs H Q E h => ?_) (fun cdv A outer s H vs Q E hr h => ?_)
  · obtain ⟨_, _, _, rfl, _⟩ := h
    rfl
  · obtain ⟨F, a, f, rfl, sF, ⟨haF, v, ⟨dx, h1⟩, hv⟩, q⟩ := h
    refine ⟨_, PSs.nox (pss_cons (ps_fldaug (pv 0) pe_int in_add)
      (pss_one (ps_fld (pv 0) pe_bl rfl))), ?_⟩
    refine ⟨_, rfl, _, _, _, _, _, rfl, h1, T.c_Frame, T.n_Frame_begun, rfl, ?_⟩
    refine ⟨_, _, rfl, rfl, _, _, h1, by walk_at "few", ?_⟩
    walk_at "v"
    refine ⟨_, _, _, _, rfl, upd_same, T.c_Frame, T.n_Frame_awaits_tree, by walk_at "few", ?_⟩
    have g1 : Go [a] H F _ F := Go.put (o := .ins (He.ga K "Frame") dx (putF "begun" (.int ((f.begun : Int) + 1)) (frF f v))) sF (by simp) haF
    have g2 := Go.put (o := .ins (He.ga K "Frame") dx (putF "awaits_tree" (.bl false) (putF "begun" (.int ((f.begun : Int) + 1)) (frF f v)))) g1.same (by simp : a ∈ [a]) haF
    exact q _ (g1.trans g2 (by intro b h _; exact h)) ⟨haF, v, ⟨dx, upd_same⟩, hv⟩
theorem ok_Frame_begin_field (T : Facts K mg) : OkFn P w K mg base CX0 1 (He.ma K (He.ga K "Frame") "begin_field") 2 (spBeginField K) := by
  refine mk_fn T.d_Frame_begin_field sc_Frame_begin_field (fun _ _ _ _ _ _ us hl => match us, hl with | [_, _], _ => rfl) (fun vs H Q E h => ?_) (fun cdv A outer s H vs Q E hr h => ?_)
  · obtain ⟨_, _, _, _, _, rfl, _⟩ := h
    rfl
  · obtain ⟨F, a, b, f, n, rfl, sF, ⟨haF, v, ⟨dx, h1⟩, hv⟩, hb, hn, q⟩ := h
    refine ⟨_, PSs.nox (pss_cons (ps_fld (pv 0) (pv 1) rfl)
      (pss_one (ps_fld (pv 0) pe_bl rfl))), ?_⟩
    refine ⟨_, rfl, _, rfl, _, _, _, _, rfl, h1, T.c_Frame, T.n_Frame_last_name, by walk_at "few", ?_⟩
    walk_at "v"
    refine ⟨_, _, _, _, rfl, upd_same, T.c_Frame, T.n_Frame_awaits_tree, by walk_at "few", ?_⟩
    have g1 : Go [a] H F _ F := Go.put (o := .ins (He.ga K "Frame") dx (putF "last_name" (.ref b) (frF f v))) sF (by simp) haF
    have g2 := Go.put (o := .ins (He.ga K "Frame") dx (putF "awaits_tree" (.bl true) (putF "last_name" (.ref b) (frF f v)))) g1.same (by simp : a ∈ [a]) haF
    refine q _ (g1.trans g2 (by intro b h _; exact h)) ⟨haF, .ref b, ⟨dx, upd_same⟩, ?_⟩
    show LastV F (.ref b) n
    unfold LastV
    rw [if_neg hn]
    exact ⟨b, rfl, hb⟩
theorem ok_Frame_way (T : Facts K mg) : OkFn P w K mg base CX0 1 (He.ma K (He.ga K "Frame") "way") 1 (spWay K) := by
  refine mk_fn T.d_Frame_way sc_Frame_way (fun _ _ _ _ _ _ us hl => match us, hl with | [_], _ => rfl) (fun vs H Q E h => ?_) (fun cdv A outer s H vs Q E hr h => ?_)
  · obtain ⟨_, _, _, rfl, _⟩ := h
    rfl
  · obtain ⟨F, a, f, rfl, sF, ⟨haF, v, ⟨dx, h1⟩, hv⟩, fo, fb, q⟩ := h
    refine ⟨_, PSs.nox (pss_cons (ps_if (pt_cmpR op_eq (pe_fld (pv 0) rfl) (pe_num rfl T.i_LIST) (nomark _))
        (pss_one (ps_ret (pe_op op_sub (pe_fld (pv 0) rfl) pe_int)))
        pss_nil)
      (pss_one (ps_ret (pe_fld (pv 0) rfl)))), ?_⟩
    refine ⟨_, rfl, _, _, _, _, _, rfl, h1, T.c_Frame, T.n_Frame_kind, rfl, ?_⟩
    walk_at "v"
    refine ⟨rfl, _, rfl, ?_⟩
    unfold FrOk at fo
    unfold Fr.way at q
    rcases btf f.isList with hl | hl
    · rw [if_pos hl] at q
      refine if_pos_of (by rw [hl]; rfl) ?_
      refine ⟨_, rfl, _, _, _, _, _, rfl, h1, T.c_Frame, T.n_Frame_begun, rfl, ?_⟩
      walk_at "v"
      refine q _ ?_
      show V.int ((f.begun : Int) - 1) = V.int ((f.begun - 1 : Nat) : Int)
      congr 1
      omega
    · rw [if_neg (by simp [hl])] at q fo
      refine if_neg_of (by rw [hl]; rfl) ?_
      refine ⟨_, rfl, _, _, _, _, _, rfl, h1, T.c_Frame, T.n_Frame_last_name, rfl, ?_⟩
      refine q _ ?_
      unfold LastV at hv
      rw [if_neg (fun z => by have := (fo.2.1.mp z).1; omega)] at hv
      exact hv
end
end TS
end
section
set_option Elab.async false
set_option linter.all false
set_option maxRecDepth 100000
set_option maxHeartbeats 4000000
namespace TS
open PySem PySem.Spec PyProof.Rows L2
open Vapaqf (Head Way Token Test matches_ faultOf Plan)
open Vapaqa (Text Name stepText placeText textBefore)
local macro_rules | `(tactic| walk_at "v") => `(tactic| repeat (first | refine ⟨_, rfl, ?_⟩ | refine ⟨_, _, rfl, rfl, ?_⟩ | refine ⟨_, _, rfl, ?_⟩))
local macro_rules | `(tactic| walk_at "few") => `(tactic| first | decide | (show 0 < 1000; decide) | (show 1 < 1000; decide) | (show 2 < 1000; decide) | (show 3 < 1000; decide) | (show 4 < 1000; decide) | (show 5 < 1000; decide) | (show 6 < 1000; decide))
/-! ### shapes in the heap: a the shape, l its list, fs its frames, the innermost first -/
def FrsAt (K : PySem.W.Frag) (F H : Hp) : List Addr → List Fr → Prop
  | [], [] => True
  | a :: as, f :: fs => FrAt K F H a f ∧ FrsAt K F H as fs
  | _, _ => False
theorem FrsAt.length {K : PySem.W.Frag} {F H : Hp} : ∀ {as : List Addr} {fs : List Fr}, FrsAt K F H as fs → as.length = fs.length
  | [], [], _ => rfl
  | _ :: _, _ :: _, h => congrArg Nat.succ (FrsAt.length h.2)
  | [], _ :: _, h => h.elim
  | _ :: _, [], h => h.elim
theorem FrsAt.go {K : PySem.W.Frag} {S : List Addr} {H F H' F' : Hp} (g : Go S H F H' F') (sF : Same F H) : ∀ {as : List Addr} {fs : List Fr}, (∀ a ∈ as, a ∉ S) → FrsAt K F H as fs → FrsAt K F' H' as fs
  | [], [], _, _ => trivial
  | _ :: _, _ :: _, n, h => ⟨h.1.go g sF (n _ List.mem_cons_self), FrsAt.go g sF (fun a ha => n a (List.mem_cons_of_mem _ ha)) h.2⟩
  | [], _ :: _, _, h => h.elim
  | _ :: _, [], _, h => h.elim
theorem FrsAt.get {K : PySem.W.Frag} {F H : Hp} : ∀ {as : List Addr} {fs : List Fr} {i : Nat} {a : Addr}, FrsAt K F H as fs → as[i]? = some a → ∃ f, fs[i]? = some f ∧ FrAt K F H a f
  | [], [], i, a, _, e => by simp at e
  | a :: _, f :: _, 0, b, h, e => ⟨f, rfl, (Option.some.inj e) ▸ h.1⟩
  | _ :: as, _ :: fs, i + 1, b, h, e => FrsAt.get (as := as) (fs := fs) (i := i) h.2 e
  | [], _ :: _, _, _, h, _ => h.elim
  | _ :: _, [], _, _, h, _ => h.elim
theorem FrsAt.has {K : PySem.W.Frag} {F H : Hp} : ∀ {as : List Addr} {fs : List Fr}, FrsAt K F H as fs → ∀ a ∈ as, H a ≠ none
  | [], [], _, a, h => (nomatch h)
  | b :: _, f :: _, h, a, ha => by
    rcases List.mem_cons.mp ha with rfl | ha
    · exact h.1.has
    · exact FrsAt.has h.2 a ha
  | [], _ :: _, h, _, _ => h.elim
  | _ :: _, [], h, _, _ => h.elim
def shF (l : Addr) (s : Shp) : List (Str × V) := [("frames", .ref l), ("most_frames", .int (s.most : Int)), ("entries", .int (s.entries : Int))]
structure ShAt (K : PySem.W.Frag) (F H : Hp) (a l : Addr) (fs : List Addr) (sh : Shp) : Prop where
  fa : F a = none
  fl : F l = none
  ins : InsAt K H "Shape" a (shF l sh)
  lst : H l = some (.lst (fs.reverse.map V.ref))
  frs : FrsAt K F H fs sh.frames
  nd : fs.Nodup
  na : a ∉ fs
  nl : l ∉ fs
  al : a ≠ l
theorem ShAt.has {K : PySem.W.Frag} {F H : Hp} {a l : Addr} {fs : List Addr} {sh : Shp} (h : ShAt K F H a l fs sh) : ∀ b ∈ a :: l :: fs, H b ≠ none := fun b hb => by
  rcases List.mem_cons.mp hb with rfl | hb
  · obtain ⟨dx, e⟩ := h.ins
    rw [e]
    intro z
    cases z
  · rcases List.mem_cons.mp hb with rfl | hb
    · rw [h.lst]
      intro z
      cases z
    · exact h.frs.has b hb
theorem ShAt.go {K : PySem.W.Frag} {S : List Addr} {H F H' F' : Hp} {a l : Addr} {fs : List Addr} {sh : Shp} (g : Go S H F H' F') (sF : Same F H) (n : ∀ b ∈ a :: l :: fs, b ∉ S) (h : ShAt K F H a l fs sh) : ShAt K F' H' a l fs sh := by
  have hh := h.has
  obtain ⟨dx, e⟩ := h.ins
  exact ⟨g.free (hh _ (by simp)) h.fa, g.free (hh _ (by simp)) h.fl, ⟨dx, g.keep _ _ e (n _ (by simp))⟩, g.keep _ _ h.lst (n _ (by simp)), h.frs.go g sF (fun b hb => n b (by simp [hb])), h.nd, h.na, h.nl, h.al⟩
theorem ShAt.len {K : PySem.W.Frag} {F H : Hp} {a l : Addr} {fs : List Addr} {sh : Shp} (h : ShAt K F H a l fs sh) : (fs.reverse.map V.ref).length = sh.frames.length := by
  simp [h.frs.length]
/-- the innermost frame -/
theorem ShAt.top {K : PySem.W.Frag} {F H : Hp} {a l : Addr} {fs : List Addr} {sh : Shp} {f : Fr} {r : List Fr} (h : ShAt K F H a l fs sh) (e : sh.frames = f :: r) : ∃ g gs, fs = g :: gs ∧ FrAt K F H g f ∧ FrsAt K F H gs r ∧ atI (fs.reverse.map V.ref) (-1) = some (V.ref g) ∧ fs.reverse.map V.ref = gs.reverse.map V.ref ++ [V.ref g] := by
  have hf := h.frs
  rw [e] at hf
  cases hfs : fs with
  | nil => rw [hfs] at hf; exact hf.elim
  | cons g gs =>
    rw [hfs] at hf
    have e2 : (g :: gs).reverse.map V.ref = gs.reverse.map V.ref ++ [V.ref g] := by simp
    exact ⟨g, gs, rfl, hf.1, hf.2, by rw [e2]; exact atI_last _ _, e2⟩
def spShapeInit (K : PySem.W.Frag) : Sp := fun vs H Q _ => ∃ (a dx : Addr), vs = [.ref a] ∧ H a = some (.ins (He.ga K "Shape") dx []) ∧
  ∀ (H' : Hp) (l : Addr), H' a = some (.ins (He.ga K "Shape") dx (shF l .fresh)) → H l = none → H' l = some (.lst []) → (∀ b o, H b = some o → b ≠ a → H' b = some o) → Q .non H'
def spShapeBool (K : PySem.W.Frag) (r : Shp → Bool) : Sp := fun vs H Q _ => ∃ (F : Hp) (a l : Addr) (fs : List Addr) (sh : Shp), vs = [.ref a] ∧ Same F H ∧ ShAt K F H a l fs sh ∧ Q (.bl (r sh)) H
def spCanCome (K : PySem.W.Frag) : Sp := fun vs H Q _ => ∃ (F : Hp) (a l : Addr) (fs : List Addr) (sh : Shp) (tk : Addr) (t : Token), vs = [.ref a, .ref tk] ∧ Same F H ∧ ShAt K F H a l fs sh ∧ TokAt K F tk t ∧ ∀ H', Same H H' → Q (.bl (sh.canCome t)) H'
section
variable {P : Program} {w : World} {K : PySem.W.Frag} {mg : Str → Option Value} {base : Heap}
theorem ok_Shape_init (T : Facts K mg) : OkFn P w K mg base CX0 1 (He.ma K (He.ga K "Shape") "__init__") 1 (spShapeInit K) := by
  refine mk_fn T.d_Shape_init sc_Shape_init (fun _ _ _ _ _ _ us hl => match us, hl with | [_], _ => rfl) (fun vs H Q E h => ?_) (fun cdv A outer s H vs Q E hr h => ?_)
  · obtain ⟨_, _, rfl, _⟩ := h
    rfl
  · obtain ⟨a, dx, rfl, ha, q⟩ := h
    refine ⟨_, PSs.nox (pss_cons (ps_fld (pv 0) (pe_lst pa_nil) rfl)
      (pss_cons (ps_fld (pv 0) pe_int rfl)
      (pss_one (ps_fld (pv 0) pe_int rfl)))), ?_⟩
    refine ⟨by show 0 ≤ sizeLine; exact Nat.zero_le _, fun l hl => ?_⟩
    have s1 := upd_same_of (o := HO.lst []) hl
    have hla : l ≠ a := fun z => by rw [z, ha] at hl; cases hl
    refine ⟨_, rfl, _, _, _, _, rfl, s1 _ _ ha, T.c_Shape, T.n_Shape_frames, by walk_at "few", ?_⟩
    walk_at "v"
    refine ⟨_, _, _, _, rfl, upd_same, T.c_Shape, T.n_Shape_most_frames, by walk_at "few", ?_⟩
    walk_at "v"
    refine ⟨_, _, _, _, rfl, upd_same, T.c_Shape, T.n_Shape_entries, by walk_at "few", ?_⟩
    refine q _ l upd_same hl ?_ fun b o e n => ?_
    · rw [upd_ne hla, upd_ne hla, upd_ne hla]
      exact upd_same
    · rw [upd_ne n, upd_ne n, upd_ne n]
      exact s1 _ _ e
theorem ok_Shape_is_whole (T : Facts K mg) : OkFn P w K mg base CX0 1 (He.ma K (He.ga K "Shape") "is_whole") 1 (spShapeBool K Shp.isWhole) := by
  refine mk_fn T.d_Shape_is_whole sc_Shape_is_whole (fun _ _ _ _ _ _ us hl => match us, hl with | [_], _ => rfl) (fun vs H Q E h => ?_) (fun cdv A outer s H vs Q E hr h => ?_)
  · obtain ⟨_, _, _, _, _, rfl, _⟩ := h
    rfl
  · obtain ⟨F, a, l, fs, sh, rfl, sF, S, q⟩ := h
    refine ⟨_, PSs.nox (pss_one (ps_ret (pe_and (pe_cmpR op_gt (pe_fld (pv 0) rfl) pe_int (nomark _)) (pe_one (pe_cmpR op_eq (pe_callB call_len_seq (by rfl) T.f_len boot_len (pa_cons (pe_fld (pv 0) rfl) pa_nil)) pe_int (nomark _)))))), ?_⟩
    obtain ⟨dx, h1⟩ := S.ins
    have hl := S.len
    unfold Shp.isWhole at q
    refine ⟨_, rfl, _, _, _, _, _, rfl, h1, T.c_Shape, T.n_Shape_entries, rfl, ?_⟩
    walk_at "v"
    by_cases h0 : 0 < sh.entries
    · rw [decide_eq_true h0, Bool.true_and] at q
      refine if_pos_of (decide_eq_true (by omega)) ?_
      refine ⟨_, rfl, _, _, _, _, _, rfl, h1, T.c_Shape, T.n_Shape_frames, rfl, ?_⟩
      refine ⟨l, _, rfl, .inl (SqL.of S.lst), ?_⟩
      walk_at "v"
      refine ⟨rfl, ?_⟩
      rw [hl]
      have e : decide (V.int ((sh.frames.length : Nat) : Int) = V.int 0) = sh.frames.isEmpty := by
        cases sh.frames with
        | nil => rfl
        | cons f r => exact decide_eq_false fun z => by have := V.int.inj z; simp at this; omega
      rw [e]
      exact q
    · rw [decide_eq_false h0, Bool.false_and] at q
      refine if_neg_of (decide_eq_false (by omega)) ?_
      exact q
theorem ok_Shape_has_room (T : Facts K mg) : OkFn P w K mg base CX0 1 (He.ma K (He.ga K "Shape") "has_room") 1 (spShapeBool K Shp.hasRoom) := by
  refine mk_fn T.d_Shape_has_room sc_Shape_has_room (fun _ _ _ _ _ _ us hl => match us, hl with | [_], _ => rfl) (fun vs H Q E h => ?_) (fun cdv A outer s H vs Q E hr h => ?_)
  · obtain ⟨_, _, _, _, _, rfl, _⟩ := h
    rfl
  · obtain ⟨F, a, l, fs, sh, rfl, sF, S, q⟩ := h
    refine ⟨_, PSs.nox (pss_one (ps_ret (pe_and (pe_cmpR op_lt (pe_fld (pv 0) rfl) (pe_num rfl T.i_MOST_ENTRIES) (nomark _)) (pe_one (pe_cmpR op_lt (pe_callB call_len_seq (by rfl) T.f_len boot_len (pa_cons (pe_fld (pv 0) rfl) pa_nil)) (pe_num rfl T.i_DEEPEST) (nomark _)))))), ?_⟩
    obtain ⟨dx, h1⟩ := S.ins
    have hl := S.len
    unfold Shp.hasRoom at q
    refine ⟨_, rfl, _, _, _, _, _, rfl, h1, T.c_Shape, T.n_Shape_entries, rfl, ?_⟩
    walk_at "v"
    by_cases h0 : sh.entries < 40
    · rw [decide_eq_true h0, Bool.true_and] at q
      refine if_pos_of (decide_eq_true (by omega)) ?_
      refine ⟨_, rfl, _, _, _, _, _, rfl, h1, T.c_Shape, T.n_Shape_frames, rfl, ?_⟩
      refine ⟨l, _, rfl, .inl (SqL.of S.lst), ?_⟩
      walk_at "v"
      rw [hl]
      have e : decide (((sh.frames.length : Nat) : Int) < 6) = decide (sh.frames.length < 6) := decide_eq_decide.mpr (by omega)
      show Q (.bl (decide (((sh.frames.length : Nat) : Int) < 6))) H
      rw [e]
      exact q
    · rw [decide_eq_false h0, Bool.false_and] at q
      refine if_neg_of (decide_eq_false (by omega)) ?_
      exact q
theorem ok_Shape_awaits_name (T : Facts K mg) : OkFn P w K mg base CX0 1 (He.ma K (He.ga K "Shape") "awaits_name") 1 (spShapeBool K Shp.awaitsName) := by
  refine mk_fn T.d_Shape_awaits_name sc_Shape_awaits_name (fun _ _ _ _ _ _ us hl => match us, hl with | [_], _ => rfl) (fun vs H Q E h => ?_) (fun cdv A outer s H vs Q E hr h => ?_)
  · obtain ⟨_, _, _, _, _, rfl, _⟩ := h
    rfl
  · obtain ⟨F, a, l, fs, sh, rfl, sF, S, q⟩ := h
    refine ⟨_, PSs.nox (pss_one (ps_ret (pe_and (pe_cmpR op_gt (pe_callB call_len_seq (by rfl) T.f_len boot_len (pa_cons (pe_fld (pv 0) rfl) pa_nil)) pe_int (nomark _)) (pe_and (pe_cmpR op_eq (pe_fld (pe_ix ix_list (pe_fld (pv 0) rfl) (pe_un un_neg pe_int) (fun _ _ => rfl)) rfl) (pe_num rfl T.i_RECORD) (nomark _)) (pe_one (pe_not (pe_fld (pe_ix ix_list (pe_fld (pv 0) rfl) (pe_un un_neg pe_int) (fun _ _ => rfl)) rfl))))))), ?_⟩
    obtain ⟨dx, h1⟩ := S.ins
    have hl := S.len
    unfold Shp.awaitsName at q
    refine ⟨_, rfl, _, _, _, _, _, rfl, h1, T.c_Shape, T.n_Shape_frames, rfl, ?_⟩
    refine ⟨l, _, rfl, .inl (SqL.of S.lst), ?_⟩
    walk_at "v"
    cases hf : sh.frames with
    | nil =>
      rw [hf] at q hl
      refine if_neg_of (by rw [hl]; rfl) ?_
      exact q
    | cons f r =>
      rw [hf] at q hl
      obtain ⟨g, gs, hfs, ⟨haF, v, ⟨dx2, h2⟩, hv⟩, hgs, hat, -⟩ := S.top hf
      refine if_pos_of (by rw [hl]; exact decide_eq_true (by simp)) ?_
      refine ⟨_, rfl, _, _, _, _, _, rfl, h1, T.c_Shape, T.n_Shape_frames, rfl, ?_⟩
      walk_at "v"
      refine ⟨_, _, _, _, rfl, rfl, SqL.of S.lst, hat, ?_⟩
      refine ⟨_, _, _, _, _, rfl, h2, T.c_Frame, T.n_Frame_kind, rfl, ?_⟩
      walk_at "v"
      refine ⟨rfl, _, rfl, ?_⟩
      rcases btf f.isList with hil | hil
      · simp only [hil, Bool.not_true, Bool.false_and] at q
        refine if_neg_of (by rw [hil]; rfl) ?_
        exact q
      · simp only [hil, Bool.not_false, Bool.true_and] at q
        refine if_pos_of (by rw [hil]; rfl) ?_
        refine ⟨_, rfl, _, _, _, _, _, rfl, h1, T.c_Shape, T.n_Shape_frames, rfl, ?_⟩
        walk_at "v"
        refine ⟨_, _, _, _, rfl, rfl, SqL.of S.lst, hat, ?_⟩
        refine ⟨_, _, _, _, _, rfl, h2, T.c_Frame, T.n_Frame_awaits_tree, rfl, ?_⟩
        exact ⟨_, rfl, q⟩
theorem ok_Shape_awaits_comma (T : Facts K mg) : OkFn P w K mg base CX0 1 (He.ma K (He.ga K "Shape") "awaits_comma") 1 (spShapeBool K Shp.awaitsComma) := by
  refine mk_fn T.d_Shape_awaits_comma sc_Shape_awaits_comma (fun _ _ _ _ _ _ us hl => match us, hl with | [_], _ => rfl) (fun vs H Q E h => ?_) (fun cdv A outer s H vs Q E hr h => ?_)
  · obtain ⟨_, _, _, _, _, rfl, _⟩ := h
    rfl
  · obtain ⟨F, a, l, fs, sh, rfl, sF, S, q⟩ := h
    refine ⟨_, PSs.nox (pss_one (ps_ret (pe_and (pe_cmpR op_gt (pe_callB call_len_seq (by rfl) T.f_len boot_len (pa_cons (pe_fld (pv 0) rfl) pa_nil)) pe_int (nomark _)) (pe_and (pe_cmpR op_gt (pe_fld (pe_ix ix_list (pe_fld (pv 0) rfl) (pe_un un_neg pe_int) (fun _ _ => rfl)) rfl) pe_int (nomark _)) (pe_one (pe_not (pe_fld (pe_ix ix_list (pe_fld (pv 0) rfl) (pe_un un_neg pe_int) (fun _ _ => rfl)) rfl))))))), ?_⟩
    obtain ⟨dx, h1⟩ := S.ins
    have hl := S.len
    unfold Shp.awaitsComma at q
    refine ⟨_, rfl, _, _, _, _, _, rfl, h1, T.c_Shape, T.n_Shape_frames, rfl, ?_⟩
    refine ⟨l, _, rfl, .inl (SqL.of S.lst), ?_⟩
    walk_at "v"
    cases hf : sh.frames with
    | nil =>
      rw [hf] at q hl
      refine if_neg_of (by rw [hl]; rfl) ?_
      exact q
    | cons f r =>
      rw [hf] at q hl
      obtain ⟨g, gs, hfs, ⟨haF, v, ⟨dx2, h2⟩, hv⟩, hgs, hat, -⟩ := S.top hf
      refine if_pos_of (by rw [hl]; exact decide_eq_true (by simp)) ?_
      refine ⟨_, rfl, _, _, _, _, _, rfl, h1, T.c_Shape, T.n_Shape_frames, rfl, ?_⟩
      walk_at "v"
      refine ⟨_, _, _, _, rfl, rfl, SqL.of S.lst, hat, ?_⟩
      refine ⟨_, _, _, _, _, rfl, h2, T.c_Frame, T.n_Frame_begun, rfl, ?_⟩
      walk_at "v"
      by_cases hb : 0 < f.begun
      · simp only [decide_eq_true hb, Bool.true_and] at q
        refine if_pos_of (decide_eq_true (by omega)) ?_
        refine ⟨_, rfl, _, _, _, _, _, rfl, h1, T.c_Shape, T.n_Shape_frames, rfl, ?_⟩
        walk_at "v"
        refine ⟨_, _, _, _, rfl, rfl, SqL.of S.lst, hat, ?_⟩
        refine ⟨_, _, _, _, _, rfl, h2, T.c_Frame, T.n_Frame_awaits_tree, rfl, ?_⟩
        exact ⟨_, rfl, q⟩
      · simp only [decide_eq_false hb, Bool.false_and] at q
        refine if_neg_of (decide_eq_false (by omega)) ?_
        exact q
end
end TS
end
section
set_option Elab.async false
set_option linter.all false
set_option maxRecDepth 100000
set_option maxHeartbeats 4000000
namespace TS
open PySem PySem.Spec PyProof.Rows L2
open Vapaqf (Head Way Token Test matches_ faultOf Plan)
open Vapaqa (Text Name stepText placeText textBefore)
local macro_rules | `(tactic| walk_at "v") => `(tactic| repeat (first | refine ⟨_, rfl, ?_⟩ | refine ⟨_, _, rfl, rfl, ?_⟩ | refine ⟨_, _, rfl, ?_⟩))
local macro_rules | `(tactic| walk_at "few") => `(tactic| first | decide | (show 0 < 1000; decide) | (show 1 < 1000; decide) | (show 2 < 1000; decide) | (show 3 < 1000; decide) | (show 4 < 1000; decide) | (show 5 < 1000; decide) | (show 6 < 1000; decide))
def spShapeTwin (K : PySem.W.Frag) : Sp := fun vs H Q _ => ∃ (F : Hp) (a l : Addr) (fs : List Addr) (sh : Shp), vs = [.ref a] ∧ Same F H ∧ ShAt K F H a l fs sh ∧ sh.frames.length ≤ 6 ∧
  ∀ (H' : Hp) (a2 l2 : Addr) (fs2 : List Addr), Same H H' → (∀ b ∈ a2 :: l2 :: fs2, H b = none) → ShAt K F H' a2 l2 fs2 sh → Q (.ref a2) H'
theorem can_cons {sh : Shp} {f : Fr} {r : List Fr} (e : sh.frames = f :: r) (t : Token) : sh.canCome t = match t with
    | .name n => sh.hasRoom && f.takesName n
    | .close l => f.takesEnd l
    | _ => sh.hasRoom && f.takesTree := by
  unfold Shp.canCome
  rw [e]
  all_goals (cases t <;> rfl)
theorem FrsAt.snoc {K : PySem.W.Frag} {F H : Hp} {a : Addr} {f : Fr} (h2 : FrAt K F H a f) : ∀ {as : List Addr} {fs : List Fr}, FrsAt K F H as fs → FrsAt K F H (as ++ [a]) (fs ++ [f])
  | [], [], _ => ⟨h2, trivial⟩
  | _ :: _, _ :: _, h => ⟨h.1, FrsAt.snoc h2 h.2⟩
  | [], _ :: _, h => h.elim
  | _ :: _, [], h => h.elim
theorem FrsAt.reverse {K : PySem.W.Frag} {F H : Hp} : ∀ {as : List Addr} {fs : List Fr}, FrsAt K F H as fs → FrsAt K F H as.reverse fs.reverse
  | [], [], _ => trivial
  | _ :: _, _ :: _, h => by
    rw [List.reverse_cons, List.reverse_cons]
    exact FrsAt.snoc h.1 (FrsAt.reverse h.2)
  | [], _ :: _, h => h.elim
  | _ :: _, [], h => h.elim
section
variable {P : Program} {w : World} {K : PySem.W.Frag} {mg : Str → Option Value} {base : Heap}
theorem ok_Shape_can_come (T : Facts K mg) : OkFn P w K mg base CX0 2 (He.ma K (He.ga K "Shape") "can_come") 2 (spCanCome K) := by
  refine mk_fn T.d_Shape_can_come sc_Shape_can_come (fun _ _ _ _ _ _ us hl => match us, hl with | [_, _], _ => rfl) (fun vs H Q E h => ?_) (fun cdv A outer s H vs Q E hr h => ?_)
  · obtain ⟨_, _, _, _, _, _, _, rfl, _⟩ := h
    rfl
  · obtain ⟨F, a, l, fs, sh, tk, t, rfl, sF, S, ht, q⟩ := h
    refine ⟨_, PSs.nox (pss_cons (ps_if (pt_cmpR op_eq (pe_callB call_len_seq (by rfl) T.f_len boot_len (pa_cons (pe_fld (pv 0) rfl) pa_nil)) pe_int (nomark _))
        (pss_one (ps_ret (pe_and (pe_cmpR op_eq (pe_fld (pv 0) rfl) pe_int (nomark _)) (pe_one (c_meth0 (pv 1) T.c_Token T.m_Token_begins_tree (ok_Token_begins_tree T) (hr.mono (by decide)) pass0)))))
        pss_nil)
      (pss_cons (ps_set (i := 2) sc_Shape_can_come.nd rfl (.inl rfl) (pe_ix ix_list (pe_fld (pv 0) rfl) (pe_un un_neg pe_int) (fun _ _ => rfl)))
      (pss_cons (ps_if (pt_cmpR op_eq (pe_fld (pv 1) rfl) (pe_num rfl T.i_NAME) (nomark _))
        (pss_one (ps_ret (pe_and (c_meth0 (pv 0) T.c_Shape T.m_Shape_has_room (ok_Shape_has_room T) (hr.mono (by decide)) pass0) (pe_one (c_meth (pv 2) T.c_Frame T.m_Frame_takes_name (ok_Frame_takes_name T) (hr.mono (by decide)) pass0 (pa_cons (pe_fld (pv 1) rfl) pa_nil))))))
        pss_nil)
      (pss_cons (ps_if (pt_val (c_meth0 (pv 1) T.c_Token T.m_Token_begins_tree (ok_Token_begins_tree T) (hr.mono (by decide)) pass0))
        (pss_one (ps_ret (pe_and (c_meth0 (pv 0) T.c_Shape T.m_Shape_has_room (ok_Shape_has_room T) (hr.mono (by decide)) pass0) (pe_one (c_meth0 (pv 2) T.c_Frame T.m_Frame_takes_tree (ok_Frame_takes_tree T) (hr.mono (by decide)) pass0)))))
        pss_nil)
      (pss_one (ps_ret (c_meth (pv 2) T.c_Frame T.m_Frame_takes_end (ok_Frame_takes_end T) (hr.mono (by decide)) pass0 (pa_cons (pe_fld (pv 1) rfl) pa_nil)))))))), ?_⟩
    obtain ⟨dx, h1⟩ := S.ins
    have hl := S.len
    obtain ⟨tx, kv, nv, ⟨dt, t1⟩, t2, t3, t4⟩ := id ht
    refine ⟨_, rfl, _, _, _, _, _, rfl, h1, T.c_Shape, T.n_Shape_frames, rfl, ?_⟩
    refine ⟨l, _, rfl, .inl (SqL.of S.lst), ?_⟩
    walk_at "v"
    refine ⟨rfl, _, rfl, ?_⟩
    cases hf : sh.frames with
    | nil =>
      rw [hf] at hl
      refine if_pos_of (by rw [hl]; rfl) ?_
      have e : sh.canCome t = (sh.entries == 0 && begins t) := by unfold Shp.canCome; rw [hf]
      rw [e] at q
      refine ⟨_, rfl, _, _, _, _, _, rfl, h1, T.c_Shape, T.n_Shape_entries, rfl, ?_⟩
      walk_at "v"
      refine ⟨rfl, _, rfl, ?_⟩
      by_cases h0 : sh.entries = 0
      · rw [show (sh.entries == 0) = true by simp [h0], Bool.true_and] at q
        refine if_pos_of (by rw [h0]; rfl) ?_
        refine ⟨_, rfl, _, _, _, rfl, sF _ _ t1, rfl, ?_⟩
        exact ⟨F, tk, t, rfl, sF, ht, fun H1 s1 => q H1 s1⟩
      · rw [show (sh.entries == 0) = false by simp [h0], Bool.false_and] at q
        refine if_neg_of (decide_eq_false fun z => h0 (by have := V.int.inj z; omega)) ?_
        exact q H (Same.refl _)
    | cons f r =>
      rw [hf] at hl
      obtain ⟨g, gs, hfs, hg, hgs, hat, -⟩ := S.top hf
      obtain ⟨haF, v, ⟨dx2, h2⟩, hv⟩ := id hg
      rw [can_cons hf] at q
      refine if_neg_of (by rw [hl]; exact decide_eq_false fun z => by have := V.int.inj z; simp at this; omega) ?_
      refine ⟨_, rfl, _, _, _, _, _, rfl, h1, T.c_Shape, T.n_Shape_frames, rfl, ?_⟩
      walk_at "v"
      refine ⟨_, _, _, _, rfl, rfl, SqL.of S.lst, hat, ?_⟩
      dsimp only [gName]
      refine ⟨_, rfl, _, _, _, _, _, rfl, sF _ _ t1, T.c_Token, T.n_Token_kind, rfl, ?_⟩
      walk_at "v"
      refine ⟨rfl, _, rfl, ?_⟩
      have tree : begins t = true → (∀ H', Same H H' → Q (.bl (sh.hasRoom && f.takesTree)) H') → (∀ n, t ≠ .name n) → ∀ l2, t ≠ .close l2 → True := fun _ _ _ _ _ => trivial
      cases t with
      | name n =>
        refine if_pos_of rfl ?_
        refine ⟨_, rfl, _, _, _, rfl, h1, rfl, ?_⟩
        refine ⟨F, a, l, fs, sh, rfl, sF, S, ?_⟩
        cases hr2 : sh.hasRoom with
        | false =>
          simp only [hr2, Bool.false_and] at q
          exact ⟨_, rfl, q H (Same.refl _)⟩
        | true =>
          simp only [hr2, Bool.true_and] at q
          refine ⟨_, rfl, ?_⟩
          obtain ⟨b, rfl, hb⟩ := t4
          refine ⟨_, rfl, _, _, _, rfl, h2, rfl, ?_⟩
          refine ⟨_, rfl, _, _, _, _, _, rfl, sF _ _ t1, T.c_Token, T.n_Token_name, rfl, ?_⟩
          exact ⟨F, g, b, f, n, rfl, sF, hg, sF _ _ hb, q H (Same.refl _)⟩
      | close l2 =>
        refine if_neg_of (by cases l2 <;> rfl) ?_
        dsimp only [tNext]
        refine ⟨_, rfl, _, _, _, rfl, sF _ _ t1, rfl, ?_⟩
        refine ⟨F, tk, _, rfl, sF, ht, fun H1 s1 => ?_⟩
        refine ⟨_, rfl, if_neg_of rfl ?_⟩
        refine ⟨_, rfl, _, _, _, rfl, s1 _ _ h2, rfl, ?_⟩
        refine ⟨_, rfl, _, _, _, _, _, rfl, s1 _ _ (sF _ _ t1), T.c_Token, T.n_Token_kind, rfl, ?_⟩
        refine ⟨F, g, f, l2, by cases l2 <;> rfl, sF.trans s1, hg.go (S := []) (Go.idle sF s1) sF (by simp), q H1 s1⟩
      | leaf x =>
        refine if_neg_of rfl ?_
        dsimp only [tNext]
        refine ⟨_, rfl, _, _, _, rfl, sF _ _ t1, rfl, ?_⟩
        refine ⟨F, tk, _, rfl, sF, ht, fun H1 s1 => ?_⟩
        have g1 : Go [] H F H1 F := Go.idle sF s1
        refine ⟨_, rfl, if_pos_of rfl ?_⟩
        refine ⟨_, rfl, _, _, _, rfl, s1 _ _ h1, rfl, ?_⟩
        refine ⟨F, a, l, fs, sh, rfl, sF.trans s1, S.go g1 sF (by simp), ?_⟩
        cases hr2 : sh.hasRoom with
        | false =>
          simp only [hr2, Bool.false_and] at q
          exact ⟨_, rfl, q H1 s1⟩
        | true =>
          simp only [hr2, Bool.true_and] at q
          refine ⟨_, rfl, ?_⟩
          refine ⟨_, rfl, _, _, _, rfl, s1 _ _ h2, rfl, ?_⟩
          exact ⟨F, g, f, rfl, sF.trans s1, hg.go g1 sF (by simp), q H1 s1⟩
      | openList =>
        refine if_neg_of rfl ?_
        dsimp only [tNext]
        refine ⟨_, rfl, _, _, _, rfl, sF _ _ t1, rfl, ?_⟩
        refine ⟨F, tk, _, rfl, sF, ht, fun H1 s1 => ?_⟩
        have g1 : Go [] H F H1 F := Go.idle sF s1
        refine ⟨_, rfl, if_pos_of rfl ?_⟩
        refine ⟨_, rfl, _, _, _, rfl, s1 _ _ h1, rfl, ?_⟩
        refine ⟨F, a, l, fs, sh, rfl, sF.trans s1, S.go g1 sF (by simp), ?_⟩
        cases hr2 : sh.hasRoom with
        | false =>
          simp only [hr2, Bool.false_and] at q
          exact ⟨_, rfl, q H1 s1⟩
        | true =>
          simp only [hr2, Bool.true_and] at q
          refine ⟨_, rfl, ?_⟩
          refine ⟨_, rfl, _, _, _, rfl, s1 _ _ h2, rfl, ?_⟩
          exact ⟨F, g, f, rfl, sF.trans s1, hg.go g1 sF (by simp), q H1 s1⟩
      | openRecord =>
        refine if_neg_of rfl ?_
        dsimp only [tNext]
        refine ⟨_, rfl, _, _, _, rfl, sF _ _ t1, rfl, ?_⟩
        refine ⟨F, tk, _, rfl, sF, ht, fun H1 s1 => ?_⟩
        have g1 : Go [] H F H1 F := Go.idle sF s1
        refine ⟨_, rfl, if_pos_of rfl ?_⟩
        refine ⟨_, rfl, _, _, _, rfl, s1 _ _ h1, rfl, ?_⟩
        refine ⟨F, a, l, fs, sh, rfl, sF.trans s1, S.go g1 sF (by simp), ?_⟩
        cases hr2 : sh.hasRoom with
        | false =>
          simp only [hr2, Bool.false_and] at q
          exact ⟨_, rfl, q H1 s1⟩
        | true =>
          simp only [hr2, Bool.true_and] at q
          refine ⟨_, rfl, ?_⟩
          refine ⟨_, rfl, _, _, _, rfl, s1 _ _ h2, rfl, ?_⟩
          exact ⟨F, g, f, rfl, sF.trans s1, hg.go g1 sF (by simp), q H1 s1⟩
theorem ok_Shape_twin (T : Facts K mg) : OkFn P w K mg base CX0 4 (He.ma K (He.ga K "Shape") "twin") 1 (spShapeTwin K) := by
  refine mk_fn T.d_Shape_twin sc_Shape_twin (fun _ _ _ _ _ _ us hl => match us, hl with | [_], _ => rfl) (fun vs H Q E h => ?_) (fun cdv A outer s H vs Q E hr h => ?_)
  · obtain ⟨_, _, _, _, _, rfl, _⟩ := h
    rfl
  · obtain ⟨F, a, l, fs, sh, rfl, sF, S, h66, q⟩ := h
    refine ⟨_, PSs.nox (pss_cons (ps_set (i := 1) sc_Shape_twin.nd rfl (.inl rfl) (c_make0 T.k_Shape (ok_Shape_init T) (hr.mono (by decide)) rfl T.g_Shape pass0))
      (pss_cons (ps_fld (pv 1) (pe_lc (own := [("frame", 2)]) (g := gName 2) (tt := tYes) rfl sc_Shape_twin.nd (pi_list (pe_fld (pv 0) rfl)) (blkOk_by (N := ["self", "other", "frame"]) (sc := defScope s_Shape_twin) (by decide +kernel)) (fun _ _ _ _ _ => pg_name (i := 2) sc_Shape_twin.nd rfl (Or.inl rfl)) (fun _ _ _ _ _ => pts_nil) (fun _ _ _ _ _ => (c_meth0 (pv 2) T.c_Frame T.m_Frame_twin (ok_Frame_twin T) (hr.mono (by decide)) pass0))) rfl)
      (pss_cons (ps_fld (pv 1) (pe_fld (pv 0) rfl) rfl)
      (pss_cons (ps_fld (pv 1) (pe_fld (pv 0) rfl) rfl)
      (pss_one (ps_ret (pv 1))))))), ?_⟩
    obtain ⟨dx, h1⟩ := S.ins
    intro x dx2 hx hdx hne
    refine ⟨x, dx2, rfl, upd_same, fun H1 l1 hi1 hl1 hl1' k1 => ⟨rfl, ?_⟩⟩
    have s1 : Same H H1 := Same.made hx hdx k1
    have hxF : F x = none := by
      cases z : F x with
      | none => rfl
      | some o => have := sF _ _ z; rw [hx] at this; cases this
    have hxn : H1 x ≠ none := by rw [hi1]; intro z; cases z
    have hxa : a ≠ x := fun z => by rw [z, hx] at h1; cases h1
    have g1 : Go [] H F H1 F := Go.idle sF s1
    have S1 := S.go g1 sF (by simp)
    have fr1 := S1.frs.reverse
    dsimp only [gName]
    refine ⟨_, rfl, _, _, _, _, _, rfl, s1 _ _ h1, T.c_Shape, T.n_Shape_frames, rfl, ?_⟩
    refine ⟨l, rfl, ⟨_, SqL.of S1.lst⟩, fun D hD => lc_it walk_list (fun i H2 => Same H1 H2 ∧ ∃ gs : List Addr, gs.length = i ∧ H2 D = some (.lst (gs.map V.ref)) ∧ FrsAt K F H2 gs (sh.frames.reverse.take i) ∧ gs.Nodup ∧ ∀ b ∈ gs, H1 b = none ∧ b ≠ D) ⟨upd_same_of hD, [], rfl, upd_same, trivial, List.nodup_nil, fun b hb => (nomatch hb)⟩ (fun i H2 _ p => SqL.of (p.1 _ _ S1.lst)) ?_ ?_⟩
    · rintro i v H2 H3 hi ⟨s2, gs, hgl, hD2, hgs, hnd, hfree⟩ ⟨rfl, hv⟩
      refine ⟨rfl, ?_⟩
      rw [List.getElem?_map] at hv
      cases ho : fs.reverse[i]? with
      | none => rw [ho] at hv; cases hv
      | some f =>
        rw [ho] at hv
        have hv' : v = .ref f := (Option.some.inj hv).symm
        subst hv'
        obtain ⟨fr, hfr, hfa⟩ := fr1.get ho
        have g12 : Go [] H1 F H3 F := Go.idle g1.same s2
        have hfa3 := hfa.go g12 g1.same (by simp)
        obtain ⟨-, v2, ⟨dx3, h3⟩, -⟩ := id hfa3
        refine ⟨_, rfl, _, _, _, rfl, h3, rfl, ?_⟩
        refine ⟨F, f, fr, rfl, g12.same, hfa3, fun H4 r s4 hr4 hfr4 => ?_⟩
        have hDF : F D = none := by
          cases z : F D with
          | none => rfl
          | some o => have := g1.same _ _ z; rw [hD] at this; cases this
        have hrD : r ≠ D := fun z => by rw [z, hD2] at hr4; cases hr4
        have hr1 : H1 r = none := by
          cases z : H1 r with
          | none => rfl
          | some o => have := s2 _ _ z; rw [hr4] at this; cases this
        have g34 : Go [] H3 F H4 F := Go.idle g12.same s4
        have g45 : Go [D] H4 F _ F := Go.put (o := .lst (gs.map V.ref ++ [V.ref r])) g34.same (by simp) hDF
        refine ⟨_, s4 _ _ hD2, ?_, ?_, gs ++ [r], by simp [hgl], ?_, ?_, ?_, ?_⟩
        · rw [List.length_map, hgl, sizeLine_eq]
          have h6 := S.frs.length
          have := (List.getElem?_eq_some_iff.mp ho).1
          rw [List.length_reverse] at this
          omega
        · intro b o e
          rw [upd_ne (fun z => by rw [z, hD] at e; cases e)]
          exact s4 _ _ (s2 _ _ e)
        · rw [upd_same, List.map_append]
          rfl
        · rw [List.take_add_one, hfr]
          refine FrsAt.snoc (hfr4.go g45 g34.same (by simpa using hrD)) ?_
          exact FrsAt.go g45 g34.same (fun b hb => by simpa using (hfree b hb).2) (FrsAt.go g34 g12.same (by simp) hgs)
        · rw [List.nodup_append]
          refine ⟨hnd, by simp, fun b hb c hc => ?_⟩
          rw [List.mem_singleton.mp hc]
          intro z
          have := hgs.has b hb
          rw [z, hr4] at this
          exact this rfl
        · intro b hb
          rcases List.mem_append.mp hb with hb | hb
          · exact hfree b hb
          · rw [List.mem_singleton.mp hb]
            exact ⟨hr1, hrD⟩
    · rintro H2 ⟨s2, gs, hgl, hD2, hgs, hnd, hfree⟩
      have hlen : (fs.reverse.map V.ref).length = sh.frames.reverse.length := by simp [S.frs.length]
      rw [hlen, List.take_length] at hgs
      have g12 : Go [] H1 F H2 F := Go.idle g1.same s2
      have s12 := s1.trans s2
      have hDH : H D = none := by
        cases z : H D with
        | none => rfl
        | some o => have := s1 _ _ z; rw [hD] at this; cases this
      have hDF : F D = none := by
        cases z : F D with
        | none => rfl
        | some o => have := sF _ _ z; rw [hDH] at this; cases this
      have hDx : D ≠ x := fun z => hxn (by rw [← z]; exact hD)
      refine ⟨_, rfl, _, _, _, _, rfl, s2 _ _ hi1, T.c_Shape, T.n_Shape_frames, by walk_at "few", ?_⟩
      have ga : Go [x] H2 F _ F := Go.put (o := .ins (He.ga K "Shape") dx2 (putF "frames" (.ref D) (shF l1 .fresh))) g12.same (by simp) hxF
      refine ⟨_, rfl, _, _, _, _, _, rfl, (upd_ne hxa).trans (s12 _ _ h1), T.c_Shape, T.n_Shape_most_frames, rfl, ?_⟩
      refine ⟨_, rfl, _, _, _, _, rfl, upd_same, T.c_Shape, T.n_Shape_most_frames, by walk_at "few", ?_⟩
      have gb := Go.put (o := .ins (He.ga K "Shape") dx2 (putF "most_frames" (.int (sh.most : Int)) (putF "frames" (.ref D) (shF l1 .fresh)))) ga.same (by simp : x ∈ [x]) hxF
      refine ⟨_, rfl, _, _, _, _, _, rfl, (upd_ne hxa).trans ((upd_ne hxa).trans (s12 _ _ h1)), T.c_Shape, T.n_Shape_entries, rfl, ?_⟩
      refine ⟨_, rfl, _, _, _, _, rfl, upd_same, T.c_Shape, T.n_Shape_entries, by walk_at "few", ?_⟩
      have gc := Go.put (o := .ins (He.ga K "Shape") dx2 (putF "entries" (.int (sh.entries : Int)) (putF "most_frames" (.int (sh.most : Int)) (putF "frames" (.ref D) (shF l1 .fresh))))) gb.same (by simp : x ∈ [x]) hxF
      have gac := (ga.trans gb (S := [x]) (by intro b h _; exact h)).trans gc (S := [x]) (by intro b h _; exact h)
      have hgx : ∀ b ∈ gs, b ∉ [x] := fun b hb => by
        have := (hfree b hb).1
        simp only [List.mem_singleton]
        intro z
        exact hxn (by rw [← z]; exact this)
      refine ⟨_, rfl, q _ x D gs.reverse (fun b o e => ?_) ?_ ⟨hxF, hDF, ⟨dx2, upd_same⟩, ?_, ?_, ?_, ?_, ?_, fun z => hDx z.symm⟩⟩
      · exact gac.keep _ _ (s12 _ _ e) (by simp only [List.mem_singleton]; exact fun z => by rw [z, hx] at e; cases e)
      · intro b hb
        rcases List.mem_cons.mp hb with rfl | hb
        · exact hx
        · rcases List.mem_cons.mp hb with rfl | hb
          · exact hDH
          · cases z : H b with
            | none => rfl
            | some o =>
              have := s1 _ _ z
              rw [(hfree b (List.mem_reverse.mp hb)).1] at this
              cases this
      · rw [List.reverse_reverse]
        exact gac.keep _ _ hD2 (by simpa using hDx)
      · have := FrsAt.reverse (FrsAt.go gac g12.same hgx hgs)
        rw [List.reverse_reverse] at this
        exact this
      · exact List.pairwise_reverse.mpr (hnd.imp fun h z => h z.symm)
      · intro hb
        exact hgx _ (List.mem_reverse.mp hb) (by simp)
      · intro hb
        exact (hfree _ (List.mem_reverse.mp hb)).2 rfl
end
end TS
end
section
set_option Elab.async false
set_option linter.all false
set_option maxRecDepth 100000
set_option maxHeartbeats 4000000
namespace TS
open PySem PySem.Spec PyProof.Rows L2
open Vapaqf (Head Way Token Test matches_ faultOf Plan)
open Vapaqa (Text Name stepText placeText textBefore)
local macro_rules | `(tactic| walk_at "v") => `(tactic| repeat (first | refine ⟨_, rfl, ?_⟩ | refine ⟨_, _, rfl, rfl, ?_⟩ | refine ⟨_, _, rfl, ?_⟩))
local macro_rules | `(tactic| walk_at "few") => `(tactic| first | decide | (show 0 < 1000; decide) | (show 1 < 1000; decide) | (show 2 < 1000; decide) | (show 3 < 1000; decide) | (show 4 < 1000; decide) | (show 5 < 1000; decide) | (show 6 < 1000; decide))
/-- where a tree may come -/
theorem within_ok {s : Shp} (O : s.Ok) {t : Token} (hc : s.canCome t = true) (hb : begins t = true) : (∀ f ∈ within s.frames, FrOk f ∧ 1 ≤ f.begun) ∧ s.entries < 40 ∧ s.frames.length < 6 := by
  refine ⟨?_, ?_⟩
  · cases hf : s.frames with
    | nil => intro f h; cases h
    | cons f r =>
      have hc2 : f.takesTree = true := by
        rw [can_cons hf] at hc
        cases t <;> first | (cases hb; done) | exact (Bool.and_eq_true_iff.mp hc).2
      intro g hg
      rcases List.mem_cons.mp hg with rfl | hg
      · exact ⟨(O.frs f (by rw [hf]; exact List.mem_cons_self)).beginWithin hc2, beginWithin_way1⟩
      · exact ⟨O.frs g (by rw [hf]; exact List.mem_cons_of_mem _ hg), O.outer g (by rw [hf]; exact hg)⟩
  · cases hf : s.frames with
    | nil =>
      unfold Shp.canCome at hc
      rw [hf] at hc
      have := (Bool.and_eq_true_iff.mp hc).1
      have e : s.entries = 0 := by simpa using this
      exact ⟨by omega, by simp⟩
    | cons f r =>
      rw [can_cons hf] at hc
      have hr : s.hasRoom = true := by cases t <;> first | (cases hb; done) | exact (Bool.and_eq_true_iff.mp hc).1
      unfold Shp.hasRoom at hr
      simp only [Bool.and_eq_true, decide_eq_true_eq] at hr
      rw [hf] at hr
      exact hr
theorem placeOf_rev (fs : List Fr) : placeOf fs = fs.reverse.map Fr.way := by
  unfold placeOf
  rw [List.map_reverse]
theorem WaysV.snoc {F : Hp} {v : V} {s : Vapaqa.Step} (h2 : WayV F v s) : ∀ {vs : List V} {q : Pl}, WaysV F vs q → WaysV F (vs ++ [v]) (q ++ [s])
  | [], [], _ => ⟨h2, trivial⟩
  | _ :: _, _ :: _, h => ⟨h.1, WaysV.snoc h2 h.2⟩
  | [], _ :: _, h => h.elim
  | _ :: _, [], h => h.elim
/-- what a method gives that moves the shape: fs2 are its frames now -/
def Moved (K : PySem.W.Frag) (F H : Hp) (a l : Addr) (fs : List Addr) (sh : Shp) (R : Hp → Hp → Prop) : Prop :=
  ∀ (H' F' : Hp) (fs2 : List Addr), Go (a :: l :: fs) H F H' F' → ShAt K F' H' a l fs2 sh → (∀ b ∈ fs2, b ∈ fs ∨ H b = none) → R H' F'
def spBeginTree (K : PySem.W.Frag) : Sp := fun vs H Q _ => ∃ (F : Hp) (a l : Addr) (fs : List Addr) (sh : Shp) (t : Token), vs = [.ref a, .int (kindN t)] ∧ Same F H ∧ ShAt K F H a l fs sh ∧ sh.Ok ∧ sh.canCome t = true ∧ begins t = true ∧
  Moved K F H a l fs (sh.beginTree t) fun H' F' => ∀ pa, PlaceAt F' pa (placeOf (within sh.frames)) → Q (.ref pa) H'
section
variable {P : Program} {w : World} {K : PySem.W.Frag} {mg : Str → Option Value} {base : Heap}
theorem ok_Shape_begin_tree (T : Facts K mg) : OkFn P w K mg base CX0 3 (He.ma K (He.ga K "Shape") "begin_tree") 2 (spBeginTree K) := by
  refine mk_fn T.d_Shape_begin_tree sc_Shape_begin_tree (fun _ _ _ _ _ _ us hl => match us, hl with | [_, _], _ => rfl) (fun vs H Q E h => ?_) (fun cdv A outer s H vs Q E hr h => ?_)
  · obtain ⟨_, _, _, _, _, _, rfl, _⟩ := h
    rfl
  · obtain ⟨F, a, l, fs, sh, t, rfl, sF, S, O, hcan, hb, q⟩ := h
    refine ⟨_, PSs.nox (pss_cons (ps_fldaug (pv 0) pe_int in_add)
      (pss_cons (ps_if (pt_cmpR op_gt (pe_callB call_len_seq (by rfl) T.f_len boot_len (pa_cons (pe_fld (pv 0) rfl) pa_nil)) pe_int (nomark _))
        (pss_one (ps_expr (c_meth0 (pe_ix ix_list (pe_fld (pv 0) rfl) (pe_un un_neg pe_int) (fun _ _ => rfl)) T.c_Frame T.m_Frame_begin_within (ok_Frame_begin_within T) (hr.mono (by decide)) pass0)))
        pss_nil)
      (pss_cons (ps_setLc (i := 2) (own := [("frame", 3)]) (g := gName 3) (tt := tYes) rfl sc_Shape_begin_tree.nd rfl rfl (sw_true rfl rfl rfl (by decide +kernel)) (pi_list (pe_fld (pv 0) rfl)) (blkOk_by (N := ["self", "kind", "place", "frame"]) (sc := defScope s_Shape_begin_tree) (by decide +kernel)) (fun _ _ _ _ _ => pg_name (i := 3) sc_Shape_begin_tree.nd rfl (Or.inl rfl)) (fun _ _ _ _ _ => pts_nil) (fun _ _ _ _ _ => (c_meth0 (pv 3) T.c_Frame T.m_Frame_way (ok_Frame_way T) (hr.mono (by decide)) pass0)))
      (pss_cons (ps_if (pt_cmpR op_in_seq (pv 1) (pe_tup (pa_cons (pe_num rfl T.i_LIST) (pa_cons (pe_num rfl T.i_RECORD) pa_nil))) (by rfl))
        (pss_cons (ps_expr (pe_bm PySem.F.plainAttrs_list PySem.F.slot_list_append PySem.F.type_list_append mt_append (pe_fld (pv 0) rfl) (pa_cons (c_make T.k_Frame (ok_Frame_init T) (hr.mono (by decide)) rfl T.g_Frame pass0 (pa_cons (pv 1) pa_nil)) pa_nil)))
        (pss_one (ps_fld (pv 0) (pe_callB (call_max2 rfl) (by rfl) T.f_max (by decide +kernel) (pa_cons (pe_fld (pv 0) rfl) (pa_cons (pe_callB call_len_seq (by rfl) T.f_len boot_len (pa_cons (pe_fld (pv 0) rfl) pa_nil)) pa_nil))) rfl)))
        pss_nil)
      (pss_one (ps_ret (pv 2))))))), ?_⟩
    obtain ⟨dx, h1⟩ := S.ins
    obtain ⟨hw, hent, hdep⟩ := within_ok O hcan hb
    refine ⟨_, rfl, _, _, _, _, _, rfl, h1, T.c_Shape, T.n_Shape_entries, rfl, ?_⟩
    refine ⟨_, _, rfl, rfl, _, _, h1, by walk_at "few", ?_⟩
    have g1 : Go [a] H F _ F := Go.put (o := .ins (He.ga K "Shape") dx (shF l { sh with entries := sh.entries + 1 })) sF (by simp) S.fa
    have S1 : ShAt K F (upd H a (.ins (He.ga K "Shape") dx (shF l { sh with entries := sh.entries + 1 }))) a l fs { sh with entries := sh.entries + 1 } :=
      ⟨S.fa, S.fl, ⟨dx, upd_same⟩, (upd_ne S.al.symm).trans S.lst, S.frs.go g1 sF (fun b hb => by simp only [List.mem_singleton]; exact fun z => S.na (z ▸ hb)), S.nd, S.na, S.nl, S.al⟩
    have e1 : putF "entries" (.int ((sh.entries : Int) + 1)) (shF l sh) = shF l { sh with entries := sh.entries + 1 } := rfl
    rw [e1]
    have h11 := (S1.ins : InsAt K _ "Shape" a _)
    generalize upd H a (.ins (He.ga K "Shape") dx (shF l { sh with entries := sh.entries + 1 })) = H1 at g1 S1 ⊢
    obtain ⟨dx1, h11⟩ := S1.ins
    dsimp only
    refine seq_cut (R := fun σ' H2 => σ' = [some (.ref a), some (.int (kindN t)), none, none] ∧ Go (a :: l :: fs) H F H2 F ∧ ShAt K F H2 a l fs ⟨within sh.frames, sh.most, sh.entries + 1⟩) (fun nx kx => ?_) ?_
    · refine ⟨_, rfl, _, _, _, _, _, rfl, h11, T.c_Shape, T.n_Shape_frames, rfl, ?_⟩
      refine ⟨l, _, rfl, .inl (SqL.of S1.lst), ?_⟩
      walk_at "v"
      have hl := S1.len
      cases hf : sh.frames with
      | nil =>
        have hf' : ({ sh with entries := sh.entries + 1 } : Shp).frames = [] := hf
        rw [hf'] at hl
        refine if_neg_of (by rw [hl]; rfl) ?_
        refine kx _ _ ⟨rfl, g1.wide (by simp), ?_⟩
        rw [hf]
        have := S1
        rw [show ({ sh with entries := sh.entries + 1 } : Shp) = ⟨[], sh.most, sh.entries + 1⟩ by rw [← hf]] at this
        exact this
      | cons f r =>
        have hf' : ({ sh with entries := sh.entries + 1 } : Shp).frames = f :: r := hf
        rw [hf'] at hl
        obtain ⟨g, gs, hfs, hg, hgs, hat, -⟩ := S1.top hf'
        obtain ⟨-, v, ⟨dx2, h2⟩, -⟩ := id hg
        refine if_pos_of (by rw [hl]; exact decide_eq_true (by simp)) ?_
        refine ⟨_, rfl, _, _, _, _, _, rfl, h11, T.c_Shape, T.n_Shape_frames, rfl, ?_⟩
        walk_at "v"
        refine ⟨_, _, _, _, rfl, rfl, SqL.of S1.lst, hat, ?_⟩
        refine ⟨_, _, _, rfl, h2, rfl, ?_⟩
        refine ⟨F, g, f, rfl, g1.same, hg, fun H2 g2 hg2 => ?_⟩
        have hnd := S1.nd
        rw [hfs] at hnd
        have hgn := (List.nodup_cons.mp hnd).1
        have hga : a ≠ g := fun z => S1.na (by rw [hfs, z]; simp)
        have hgl : l ≠ g := fun z => S1.nl (by rw [hfs, z]; simp)
        refine kx _ _ ⟨rfl, (g1.wide (by simp) : Go (a :: l :: fs) H F H1 F).trans g2 (by intro b hb _; rw [hfs]; simp at hb; simp [hb]), ?_⟩
        refine ⟨S1.fa, S1.fl, ⟨dx1, g2.keep _ _ h11 (by simpa using hga)⟩, g2.keep _ _ S1.lst (by simpa using hgl), ?_, S1.nd, S1.na, S1.nl, S1.al⟩
        rw [hfs, hf]
        exact ⟨hg2, hgs.go g2 g1.same (fun b hb => by simp only [List.mem_singleton]; exact fun z => hgn (z ▸ hb))⟩
    · rintro σ' H2 ⟨rfl, g2, S2⟩
      obtain ⟨dx2, h2⟩ := S2.ins
      have fr2 := S2.frs.reverse
      refine ⟨_, rfl, _, _, _, _, _, rfl, h2, T.c_Shape, T.n_Shape_frames, rfl, ?_⟩
      refine ⟨l, rfl, ⟨_, SqL.of S2.lst⟩, fun D hD => lc_it (walk_list (xs := fs.reverse.map V.ref)) (fun i H3 => ∃ vs : List V, H3 = upd H2 D (.lst vs) ∧ vs.length = i ∧ WaysV F vs (((within sh.frames).reverse.map Fr.way).take i)) ⟨[], rfl, rfl, trivial⟩ (fun i H3 _ p => ?_) ?_ ?_⟩
      · obtain ⟨vs, rfl, -⟩ := p
        exact SqL.of (upd_same_of hD _ _ S2.lst)
      · rintro i v H3 H4 hi ⟨vs, rfl, hvl, hvs⟩ ⟨rfl, hv⟩
        have s3 := upd_same_of (o := HO.lst vs) hD
        refine ⟨rfl, ?_⟩
        rw [List.getElem?_map] at hv
        cases ho : fs.reverse[i]? with
        | none => rw [ho] at hv; cases hv
        | some f =>
          rw [ho] at hv
          have hv' : v = .ref f := (Option.some.inj hv).symm
          subst hv'
          obtain ⟨fr, hfr, hfa⟩ := fr2.get ho
          have g3 : Go [] H2 F _ F := Go.idle g2.same s3
          have hfa3 := hfa.go g3 g2.same (by simp)
          obtain ⟨-, v2, ⟨dx3, h3⟩, -⟩ := id hfa3
          have hmem : fr ∈ within sh.frames := List.mem_reverse.mp (List.mem_of_getElem? hfr)
          refine ⟨_, rfl, _, _, _, rfl, h3, rfl, ?_⟩
          refine ⟨F, f, fr, rfl, g3.same, hfa3, (hw fr hmem).1, (hw fr hmem).2, fun v hv => ?_⟩
          refine ⟨vs, upd_same, ?_, vs ++ [v], ?_, by simp [hvl], ?_⟩
          · rw [hvl, sizeLine_eq]
            have h6 := S2.frs.length
            have := (List.getElem?_eq_some_iff.mp ho).1
            rw [List.length_reverse] at this
            have h7 := within_length sh.frames
            have h8 : (⟨within sh.frames, sh.most, sh.entries + 1⟩ : Shp).frames = within sh.frames := rfl
            rw [h8] at h6
            omega
          · funext b
            by_cases hbD : b = D
            · subst hbD; rw [upd_same, upd_same]
            · rw [upd_ne hbD, upd_ne hbD, upd_ne hbD]
          · rw [List.take_add_one, List.getElem?_map]
            have hfr' : (within sh.frames).reverse[i]? = some fr := hfr
            rw [hfr']
            exact WaysV.snoc hv hvs
      · rintro H3 ⟨vs, rfl, hvl, hvs⟩
        have s3 := upd_same_of (o := HO.lst vs) hD
        have hlen : (fs.reverse.map V.ref).length = ((within sh.frames).reverse.map Fr.way).length := by
          have := S2.frs.length
          have h8 : (⟨within sh.frames, sh.most, sh.entries + 1⟩ : Shp).frames = within sh.frames := rfl
          rw [h8] at this
          simp [this]
        rw [hlen, List.take_length, ← placeOf_rev] at hvs
        have g3 : Go [] H2 F _ _ := Go.new (S := []) g2.same s3
        have hpl : PlaceAt (Gr H2 F (upd H2 D (.lst vs))) D (placeOf (within sh.frames)) := ⟨vs, by rw [Gr.new hD]; exact upd_same, hvs.mono (g3.held g2.same)⟩
        have S3 := S2.go g3 g2.same (by simp)
        have g13 := g2.trans g3 (by simp)
        generalize Gr H2 F (upd H2 D (.lst vs)) = F3 at g3 hpl S3 g13
        generalize upd H2 D (.lst vs) = H3 at g3 S3 s3 g13 ⊢
        obtain ⟨dx3, h3⟩ := S3.ins
        dsimp only [gName]
        refine seq_cut (R := fun σ' H6 => (∃ u, σ' = [some (.ref a), some (.int (kindN t)), some (.ref D), u]) ∧ ∃ F6 fs2, Go (a :: l :: fs) H F H6 F6 ∧ ShAt K F6 H6 a l fs2 (sh.beginTree t) ∧ (∀ b ∈ fs2, b ∈ fs ∨ H b = none) ∧ PlaceAt F6 D (placeOf (within sh.frames))) (fun nx kx => ?_) ?_
        · walk_at "v"
          refine ⟨by show 2 ≤ sizeLine; decide, fun p hp => ?_⟩
          have s4 := upd_same_of (o := HO.tup [V.int 1, V.int 2]) hp
          have hp4 : upd H3 p (.tup [V.int 1, V.int 2]) p = _ := upd_same
          refine ⟨p, _, rfl, .inr (SqT.of hp4), rfl, rfl, _, rfl, ?_⟩
          have g4 : Go [] H3 F3 _ F3 := Go.idle g3.same s4
          have S4 := S3.go g4 g3.same (by simp)
          have g14 := g13.trans g4 (by simp)
          generalize upd H3 p (.tup [V.int 1, V.int 2]) = H4 at g4 S4 s4 g14 ⊢
          have leaf : opened t (within sh.frames) = within sh.frames → mostOf t sh.most (within sh.frames).length = sh.most → nx [some (.ref a), some (.int (kindN t)), some (.ref D), none] H4 := fun e1 e2 => by
            refine kx _ _ ⟨⟨_, rfl⟩, F3, fs, g14, ?_, fun b hb => .inl hb, hpl⟩
            unfold Shp.beginTree
            rw [e1, e2]
            exact S4
          cases hin : inV (V.int (kindN t)) [V.int 1, V.int 2] with
          | false =>
            refine if_neg_of rfl ?_
            cases t with
            | openList => exact absurd hin (by decide)
            | openRecord => exact absurd hin (by decide)
            | leaf v => exact leaf rfl rfl
            | name n => cases hb
            | close l2 => cases hb
          | true =>
            obtain ⟨li, o1, o2, o3⟩ : ∃ li, opened t (within sh.frames) = .fresh li :: within sh.frames ∧ mostOf t sh.most (within sh.frames).length = max sh.most ((within sh.frames).length + 1) ∧ kindN t = kindF li := by
              cases t with
              | openList => exact ⟨true, rfl, rfl, rfl⟩
              | openRecord => exact ⟨false, rfl, rfl, rfl⟩
              | leaf v => exact Bool.noConfusion (show false = true from hin)
              | name n => cases hb
              | close l2 => cases hb
            refine if_pos_of rfl ?_
            obtain ⟨dx4, h4⟩ := S4.ins
            have hl4 := S4.len
            refine ⟨_, rfl, _, _, _, _, _, rfl, h4, T.c_Shape, T.n_Shape_frames, rfl, ?_⟩
            refine ⟨.inl ⟨rfl, _, SqL.of S4.lst⟩, ?_⟩
            walk_at "v"
            intro x dx5 hx hdx hne
            refine ⟨x, dx5, _, rfl, upd_same, fun H5 hi5 k5 => ⟨rfl, ?_⟩⟩
            have s5 : Same H4 H5 := Same.made hx hdx k5
            have g5 : Go [] H4 F3 H5 F3 := Go.idle g4.same s5
            have S5 := S4.go g5 g4.same (by simp)
            have g15 := g14.trans g5 (by simp)
            have hxF : F3 x = none := by
              cases z : F3 x with
              | none => rfl
              | some o => have := g4.same _ _ z; rw [hx] at this; cases this
            have hxfs : x ∉ a :: l :: fs := fun hb => S4.has x hb hx
            have hxH : H x = none := by
              cases z : H x with
              | none => rfl
              | some o => exact absurd hx (g14.dom x (by rw [z]; intro y; cases y))
            have hxl : x ≠ l := fun z => hxfs (by rw [z]; simp)
            have hxa : x ≠ a := fun z => hxfs (by rw [z]; simp)
            refine ⟨l, _, _, rfl, rfl, S5.lst, ?_, ?_⟩
            · have h8 : (⟨within sh.frames, sh.most, sh.entries + 1⟩ : Shp).frames = within sh.frames := rfl
              rw [hl4, h8, within_length, sizeLine_eq]
              omega
            have g6 : Go [l] H5 F3 _ F3 := Go.put (o := .lst (fs.reverse.map V.ref ++ [V.ref x])) g5.same (by simp) S5.fl
            have hl6 : upd H5 l (.lst (fs.reverse.map V.ref ++ [V.ref x])) l = _ := upd_same
            obtain ⟨dx6, h5⟩ := S5.ins
            have h6 : upd H5 l (.lst (fs.reverse.map V.ref ++ [V.ref x])) a = _ := (upd_ne S.al).trans h5
            have hx6 : upd H5 l (.lst (fs.reverse.map V.ref ++ [V.ref x])) x = _ := (upd_ne hxl).trans hi5
            have f6 : FrsAt K F3 (upd H5 l (.lst (fs.reverse.map V.ref ++ [V.ref x]))) fs (within sh.frames) := S5.frs.go g6 g5.same (fun b hb => by simp only [List.mem_singleton]; exact fun z => S.nl (z ▸ hb))
            have g16 := g15.trans g6 (S := a :: l :: fs) (by intro b hb _; simp at hb; simp [hb])
            generalize upd H5 l (.lst (fs.reverse.map V.ref ++ [V.ref x])) = H6 at g6 hl6 h6 hx6 f6 g16 ⊢
            dsimp only
            refine ⟨_, rfl, _, _, _, _, _, rfl, h6, T.c_Shape, T.n_Shape_most_frames, rfl, ?_⟩
            refine ⟨_, rfl, _, _, _, _, _, rfl, h6, T.c_Shape, T.n_Shape_frames, rfl, ?_⟩
            refine ⟨l, _, rfl, .inl (SqL.of hl6), ?_⟩
            walk_at "v"
            refine ⟨_, _, _, _, rfl, h6, T.c_Shape, T.n_Shape_most_frames, by walk_at "few", ?_⟩
            have em : (if ((fs.reverse.map V.ref ++ [V.ref x]).length : Int) > (sh.most : Int) then ((fs.reverse.map V.ref ++ [V.ref x]).length : Int) else (sh.most : Int)) = ((max sh.most ((within sh.frames).length + 1) : Nat) : Int) := by
              have h7 : (fs.reverse.map V.ref ++ [V.ref x]).length = (within sh.frames).length + 1 := by
                rw [List.length_append, hl4]
                rfl
              rw [h7]
              split <;> omega
            have g7 := Go.put (o := .ins (He.ga K "Shape") dx6 (putF "most_frames" (.int (if ((fs.reverse.map V.ref ++ [V.ref x]).length : Int) > (sh.most : Int) then ((fs.reverse.map V.ref ++ [V.ref x]).length : Int) else (sh.most : Int))) (shF l ⟨within sh.frames, sh.most, sh.entries + 1⟩))) g6.same (by simp : a ∈ [a]) S5.fa
            have g17 := g16.trans g7 (S := a :: l :: fs) (by intro b hb _; simp at hb; simp [hb])
            refine kx _ _ ⟨⟨_, rfl⟩, F3, x :: fs, g17, ?_, ?_, hpl⟩
            · unfold Shp.beginTree
              rw [o1, o2]
              refine ⟨S5.fa, S5.fl, ⟨dx6, ?_⟩, ?_, ⟨⟨hxF, .non, ⟨dx5, ?_⟩, rfl⟩, f6.go g7 g6.same (fun b hb => by simp only [List.mem_singleton]; exact fun z => S.na (z ▸ hb))⟩, ?_, ?_, ?_, S.al⟩
              · rw [upd_same, em]
                rfl
              · rw [List.reverse_cons, List.map_append]
                exact (upd_ne S.al.symm).trans hl6
              · refine (upd_ne hxa).trans (hx6.trans ?_)
                rw [o3]
                rfl
              · exact List.nodup_cons.mpr ⟨fun hb => hxfs (by simp [hb]), S.nd⟩
              · intro hb
                rcases List.mem_cons.mp hb with hb | hb
                · exact hxa hb.symm
                · exact S.na hb
              · intro hb
                rcases List.mem_cons.mp hb with hb | hb
                · exact hxl hb.symm
                · exact S.nl hb
            · intro b hb
              rcases List.mem_cons.mp hb with rfl | hb
              · exact .inr hxH
              · exact .inl hb
        · rintro σ' H6 ⟨⟨u, rfl⟩, F6, fs2, g6, S6, sub, hpl6⟩
          exact ⟨_, rfl, q H6 F6 fs2 g6 S6 sub D hpl6⟩
end
end TS
end
section
set_option Elab.async false
set_option linter.all false
set_option maxRecDepth 100000
set_option maxHeartbeats 4000000
namespace TS
open PySem PySem.Spec PyProof.Rows L2
open Vapaqf (Head Way Token Test matches_ faultOf Plan)
open Vapaqa (Text Name stepText placeText textBefore)
local macro_rules | `(tactic| walk_at "v") => `(tactic| repeat (first | refine ⟨_, rfl, ?_⟩ | refine ⟨_, _, rfl, rfl, ?_⟩ | refine ⟨_, _, rfl, ?_⟩))
local macro_rules | `(tactic| walk_at "few") => `(tactic| first | decide | (show 0 < 1000; decide) | (show 1 < 1000; decide) | (show 2 < 1000; decide) | (show 3 < 1000; decide) | (show 4 < 1000; decide) | (show 5 < 1000; decide) | (show 6 < 1000; decide))
def spCome (K : PySem.W.Frag) : Sp := fun vs H Q E => ∃ (F : Hp) (a l : Addr) (fs : List Addr) (sh : Shp) (tk : Addr) (t : Token), vs = [.ref a, .ref tk] ∧ Same F H ∧ ShAt K F H a l fs sh ∧ TokAt K F tk t ∧ TokOk t ∧ sh.Ok ∧
  (sh.come t = none → ∀ H', Same H H' → E (CN K) none H') ∧
  (∀ sh', sh.come t = some (sh', none) → Moved K F H a l fs sh' fun H' _ => Q .non H') ∧
  (∀ sh' q, sh.come t = some (sh', some q) → Moved K F H a l fs sh' fun H' F' => ∀ pa, PlaceAt F' pa q → Q (.ref pa) H')
section
variable {P : Program} {w : World} {K : PySem.W.Frag} {mg : Str → Option Value} {base : Heap}
theorem ok_Shape_come (T : Facts K mg) : OkFn P w K mg base (L2.CX P w) 4 (He.ma K (He.ga K "Shape") "come") 2 (spCome K) := by
  refine mk_fn T.d_Shape_come sc_Shape_come (fun _ _ _ _ _ _ us hl => match us, hl with | [_, _], _ => rfl) (fun vs H Q E h => ?_) (fun cdv A outer s H vs Q E hr h => ?_)
  · obtain ⟨_, _, _, _, _, _, _, rfl, _⟩ := h
    rfl
  · obtain ⟨F, a, l, fs, sh, tk, t, rfl, sF, S, ht, tok, O, q0, q1, q2⟩ := h
    refine ⟨_, (pss_cons (ps_if (pt_not (pt_val (c_meth (pv 0) T.c_Shape T.m_Shape_can_come (ok_Shape_can_come T) (hr.mono (by decide)) pass0 (pa_cons (pv 1) pa_nil))))
        (pss_one (rz_N T rfl rfl (takes_of rfl rfl rfl rfl)))
        pss_nil)
      (pss_cons (ps_if (pt_val (c_meth0 (pv 1) T.c_Token T.m_Token_begins_tree (ok_Token_begins_tree T) (hr.mono (by decide)) pass0))
        (pss_one (ps_ret (c_meth (pv 0) T.c_Shape T.m_Shape_begin_tree (ok_Shape_begin_tree T) (hr.mono (by decide)) pass0 (pa_cons (pe_fld (pv 1) rfl) pa_nil))))
        pss_nil)
      (pss_cons (ps_if (pt_cmpR op_eq (pe_fld (pv 1) rfl) (pe_num rfl T.i_NAME) (nomark _))
        (pss_one (ps_expr (c_meth (pe_ix ix_list (pe_fld (pv 0) rfl) (pe_un un_neg pe_int) (fun _ _ => rfl)) T.c_Frame T.m_Frame_begin_field (ok_Frame_begin_field T) (hr.mono (by decide)) pass0 (pa_cons (pe_fld (pv 1) rfl) pa_nil))))
        (pss_one (ps_expr (pe_bm0 PySem.F.plainAttrs_list PySem.F.slot_list_pop PySem.F.type_list_pop mt_pop (pe_fld (pv 0) rfl)))))
      (pss_one (ps_ret pe_non))))), ?_⟩
    obtain ⟨dx, h1⟩ := S.ins
    obtain ⟨tx, kv, nv, ⟨dt, t1⟩, t2, t3, t4⟩ := id ht
    refine ⟨_, rfl, _, _, _, rfl, h1, rfl, ?_⟩
    walk_at "v"
    refine ⟨F, a, l, fs, sh, tk, t, rfl, sF, S, ht, fun H1 s1 => ?_⟩
    walk_at "v"
    cases hc : sh.canCome t with
    | false =>
      refine if_pos_of rfl ?_
      exact q0 (by unfold Shp.come; rw [if_neg (by rw [hc]; exact Bool.false_ne_true)]) H1 s1
    | true =>
      refine if_neg_of rfl ?_
      have g1 : Go [] H F H1 F := Go.idle sF s1
      have S1 := S.go g1 sF (by simp)
      refine ⟨_, rfl, _, _, _, rfl, g1.same _ _ t1, rfl, ?_⟩
      refine ⟨F, tk, t, rfl, g1.same, ht, fun H2 s2 => ?_⟩
      have g2 : Go [] H1 F H2 F := Go.idle g1.same s2
      have S2 := S1.go g2 g1.same (by simp)
      have s12 := s1.trans s2
      have g12 := g1.trans g2 (by simp)
      walk_at "v"
      cases hb : begins t with
      | true =>
        refine if_pos_of rfl ?_
        refine ⟨_, rfl, _, _, _, rfl, s12 _ _ h1, rfl, ?_⟩
        refine ⟨_, rfl, _, _, _, _, _, rfl, g12.same _ _ t1, T.c_Token, T.n_Token_kind, rfl, ?_⟩
        refine ⟨F, a, l, fs, sh, t, rfl, g12.same, S2, O, hc, hb, fun H3 F3 fs3 g3 S3 sub pa hpa => ?_⟩
        have e : sh.come t = some (sh.beginTree t, some (placeOf (within sh.frames))) := by
          unfold Shp.come
          rw [if_pos hc]
          cases t <;> first | rfl | cases hb
        refine q2 _ _ e H3 F3 fs3 ((g12.wide (by simp) : Go (a :: l :: fs) H F H2 F).trans g3 (by intro b h _; exact h)) S3 (fun b hb => ?_) pa hpa
        rcases sub b hb with h | h
        · exact .inl h
        · refine .inr ?_
          cases z : H b with
          | none => rfl
          | some o => have := s12 _ _ z; rw [h] at this; cases this
      | false =>
        refine if_neg_of rfl ?_
        dsimp only [tNext]
        obtain ⟨dx2, h2⟩ := S2.ins
        have hne : ∃ f r, sh.frames = f :: r := by
          cases hf : sh.frames with
          | nil =>
            unfold Shp.canCome at hc
            rw [hf] at hc
            rw [(Bool.and_eq_true_iff.mp hc).2] at hb
            cases hb
          | cons f r => exact ⟨f, r, rfl⟩
        obtain ⟨f, r, hf⟩ := hne
        obtain ⟨g, gs, hfs, hg, hgs, hat, hrev⟩ := S2.top hf
        obtain ⟨-, v, ⟨dx3, h3⟩, -⟩ := id hg
        have hnd := S2.nd
        rw [hfs] at hnd
        have hgn := (List.nodup_cons.mp hnd).1
        have hga : a ≠ g := fun z => S2.na (by rw [hfs, z]; simp)
        have hgl : l ≠ g := fun z => S2.nl (by rw [hfs, z]; simp)
        refine ⟨_, rfl, _, _, _, _, _, rfl, g12.same _ _ t1, T.c_Token, T.n_Token_kind, rfl, ?_⟩
        walk_at "v"
        refine ⟨rfl, _, rfl, ?_⟩
        cases t with
        | leaf x => cases hb
        | openList => cases hb
        | openRecord => cases hb
        | name n =>
          refine if_pos_of rfl ?_
          obtain ⟨b, rfl, hbn⟩ := t4
          refine ⟨_, rfl, _, _, _, _, _, rfl, h2, T.c_Shape, T.n_Shape_frames, rfl, ?_⟩
          walk_at "v"
          refine ⟨_, _, _, _, rfl, rfl, SqL.of S2.lst, hat, ?_⟩
          refine ⟨_, _, _, rfl, h3, rfl, ?_⟩
          refine ⟨_, rfl, _, _, _, _, _, rfl, g12.same _ _ t1, T.c_Token, T.n_Token_name, rfl, ?_⟩
          refine ⟨F, g, b, f, n, rfl, g12.same, hg, hbn, tok.1, fun H3 g3 hg3 => ?_⟩
          have e : sh.come (.name n) = some ({ sh with frames := f.beginField n :: r }, none) := by
            unfold Shp.come
            rw [if_pos hc, hf]
          refine q1 _ e H3 F fs ((g12.wide (by simp) : Go (a :: l :: fs) H F H2 F).trans g3 (by intro b hb _; rw [hfs]; simp at hb; simp [hb])) ?_ fun b hb => .inl hb
          refine ⟨S2.fa, S2.fl, ⟨dx2, g3.keep _ _ h2 (by simpa using hga)⟩, g3.keep _ _ S2.lst (by simpa using hgl), ?_, S2.nd, S2.na, S2.nl, S2.al⟩
          rw [hfs]
          exact ⟨hg3, hgs.go g3 g12.same (fun b hb => by simp only [List.mem_singleton]; exact fun z => hgn (z ▸ hb))⟩
        | close l2 =>
          refine if_neg_of (by cases l2 <;> rfl) ?_
          refine ⟨_, rfl, _, _, _, _, _, rfl, h2, T.c_Shape, T.n_Shape_frames, rfl, ?_⟩
          refine ⟨.inl ⟨rfl, _, SqL.of S2.lst⟩, ?_⟩
          have hlast : (fs.reverse.map V.ref)[(fs.reverse.map V.ref).length - 1]? = some (V.ref g) := by
            rw [hrev]
            simp
          refine ⟨l, _, _, rfl, rfl, S2.lst, hlast, ?_⟩
          have g3 : Go [l] H2 F _ F := Go.put (o := .lst (fs.reverse.map V.ref).dropLast) g12.same (by simp) S2.fl
          have e : sh.come (.close l2) = some ({ sh with frames := r }, none) := by
            unfold Shp.come
            rw [if_pos hc, hf]
            rfl
          refine q1 _ e _ F gs ((g12.wide (by simp) : Go (a :: l :: fs) H F H2 F).trans g3 (by intro b hb _; simp at hb; simp [hb])) ?_ fun b hb => .inl (by rw [hfs]; simp [hb])
          refine ⟨S2.fa, S2.fl, ⟨dx2, g3.keep _ _ h2 (by simpa using S2.al)⟩, ?_, hgs.go g3 g12.same (fun b hb => by simp only [List.mem_singleton]; exact fun z => S2.nl (by rw [hfs]; simp [← z, hb])), (List.nodup_cons.mp hnd).2, fun hb => S2.na (by rw [hfs]; simp [hb]), fun hb => S2.nl (by rw [hfs]; simp [hb]), S2.al⟩
          rw [upd_same, hrev, List.dropLast_concat]
end
end TS
end
section
set_option Elab.async false
set_option linter.all false
set_option maxRecDepth 100000
set_option maxHeartbeats 4000000
namespace TS
open PySem PySem.Spec PyProof.Rows L2
open Vapaqf (Head Way Token Test matches_ faultOf Plan)
open Vapaqa (Text Name stepText placeText textBefore)
local macro_rules | `(tactic| walk_at "v") => `(tactic| repeat (first | refine ⟨_, rfl, ?_⟩ | refine ⟨_, _, rfl, rfl, ?_⟩ | refine ⟨_, _, rfl, ?_⟩))
local macro_rules | `(tactic| walk_at "few") => `(tactic| first | decide | (show 0 < 1000; decide) | (show 1 < 1000; decide) | (show 2 < 1000; decide) | (show 3 < 1000; decide) | (show 4 < 1000; decide) | (show 5 < 1000; decide) | (show 6 < 1000; decide))
/-! ### the mirror of the stream -/
def hear (p : Plan) (sh : Shp) (se : Srch) (t : Token) : Option (Shp × Srch × List Int) := match sh.come t with
  | none => none
  | some (sh', none) => some (sh', se, [])
  | some (sh', some q) => some (sh', (se.meet p q (headOf t)).1, (se.meet p q (headOf t)).2)
def comeAll (sh : Shp) : List Token → Option Shp
  | [] => some sh
  | t :: ts => match sh.come t with
    | none => none
    | some (sh', _) => comeAll sh' ts
def hearAll (p : Plan) (sh : Shp) (se : Srch) : List Token → Option (Shp × Srch × Nat × List Int)
  | [] => some (sh, se, 0, [])
  | t :: ts => match hear p sh se t with
    | none => none
    | some (sh', se', told) => (hearAll p sh' se' ts).map fun x => (x.1, x.2.1, (if told.isEmpty = true then 0 else 1) + x.2.2.1, told ++ x.2.2.2)
def Shp.Nm (s : Shp) : Prop := ∀ f ∈ s.frames, f.name.length ≤ 10
structure Good (p : Plan) (sh : Shp) (se : Srch) : Prop where
  ok : sh.Ok
  nm : sh.Nm
  live : Live p sh se
theorem Good.fresh (p : Plan) : Good p .fresh (.fresh p) := ⟨.fresh, fun f h => (nomatch h), Live.fresh p⟩
theorem Shp.Nm.come {s s' : Shp} {t : Token} {q : Option Pl} (h : s.Nm) (tok : TokOk t) (e : s.come t = some (s', q)) : s'.Nm := by
  have hw : ∀ f ∈ within s.frames, f.name.length ≤ 10 := by
    unfold Shp.Nm at h
    cases hf : s.frames with
    | nil => intro f hf; cases hf
    | cons f r =>
      rw [hf] at h
      intro g hg
      rcases List.mem_cons.mp hg with rfl | hg
      · exact h f List.mem_cons_self
      · exact h g (List.mem_cons_of_mem _ hg)
  unfold Shp.come at e
  split at e
  · cases t with
    | leaf v =>
      simp only [Option.some.injEq, Prod.mk.injEq] at e
      rw [← e.1]
      exact hw
    | openList =>
      simp only [Option.some.injEq, Prod.mk.injEq] at e
      rw [← e.1]
      intro g hg
      rcases List.mem_cons.mp hg with rfl | hg
      · exact Nat.zero_le _
      · exact hw g hg
    | openRecord =>
      simp only [Option.some.injEq, Prod.mk.injEq] at e
      rw [← e.1]
      intro g hg
      rcases List.mem_cons.mp hg with rfl | hg
      · exact Nat.zero_le _
      · exact hw g hg
    | name n =>
      simp only [Option.some.injEq, Prod.mk.injEq] at e
      rw [← e.1]
      unfold Shp.Nm at h ⊢
      cases hf : s.frames with
      | nil => intro g hg; cases hg
      | cons f r =>
        rw [hf] at h
        intro g hg
        rcases List.mem_cons.mp hg with rfl | hg
        · exact tok.2
        · exact h g (List.mem_cons_of_mem _ hg)
    | close l =>
      simp only [Option.some.injEq, Prod.mk.injEq] at e
      rw [← e.1]
      exact fun g hg => h g (List.mem_of_mem_tail hg)
  · cases e
theorem come_place {s s' : Shp} {t : Token} {q : Pl} (e : s.come t = some (s', some q)) : s.canCome t = true ∧ begins t = true ∧ q = placeOf (within s.frames) ∧ s' = s.beginTree t := by
  unfold Shp.come at e
  split at e
  · rename_i hc
    cases t <;> simp only [Option.some.injEq, Prod.mk.injEq, reduceCtorEq, and_false] at e
    all_goals exact ⟨hc, rfl, e.2.symm, e.1.symm⟩
  · cases e
theorem place_ok {s s' : Shp} {t : Token} {q : Pl} (O : s.Ok) (N : s.Nm) (e : s.come t = some (s', some q)) : PlaceOk q := by
  obtain ⟨hc, hb, rfl, -⟩ := come_place e
  obtain ⟨hw, -, hd⟩ := within_ok O hc hb
  refine ⟨by rw [placeOf_length, within_length]; omega, fun st hst => ?_⟩
  rw [placeOf_rev] at hst
  obtain ⟨f, hf, rfl⟩ := List.mem_map.mp hst
  have hf' := List.mem_reverse.mp hf
  obtain ⟨fo, fb⟩ := hw f hf'
  have hn : f.name.length ≤ 10 := by
    unfold Shp.Nm at N
    cases hfs : s.frames with
    | nil => rw [hfs] at hf'; cases hf'
    | cons g r =>
      rw [hfs] at N hf'
      rcases List.mem_cons.mp hf' with rfl | h
      · exact N g List.mem_cons_self
      · exact N f (List.mem_cons_of_mem _ h)
  unfold Fr.way
  unfold FrOk at fo
  rcases btf f.isList with hl | hl
  · rw [if_pos hl] at fo ⊢
    show f.begun - 1 < 10
    omega
  · rw [if_neg (by simp [hl])]
    exact hn
theorem told_len (t : Text) : (Vapaqf.toldText t).length = t.length + 1 := by simp [Vapaqf.toldText]
theorem meet_len {p : Plan} {se : Srch} {q : Pl} {t : Token} (ok : PlaceOk q) (tok : TokOk t) (hb : begins t = true) : (se.meet p q (headOf t)).2.length ≤ 200 := by
  have h1 := placeText_len ok
  have h2 := tokenText_len tok
  rw [head_text hb] at h2
  have h3 := told_len (placeText q)
  have h4 := told_len (Vapaqf.headText (headOf t))
  unfold Srch.meet
  split
  · simp
  · split
    · unfold Srch.fault toldPlace
      split
      · simp
      · split
        · simp
        · dsimp only
          split
          · simp only [List.length_cons]; omega
          · simp
    · split
      · simp
      · split
        · simp
        · unfold Srch.result toldPlace
          dsimp only
          split
          · simp only [List.length_cons, List.length_append]; omega
          · simp
theorem come_entries {s s' : Shp} {t : Token} {q : Option Pl} (e : s.come t = some (s', q)) : (q.isSome = true → s'.entries = s.entries + 1) ∧ s.entries ≤ s'.entries := by
  unfold Shp.come at e
  split at e
  · cases t <;> simp only [Option.some.injEq, Prod.mk.injEq] at e <;> obtain ⟨rfl, rfl⟩ := e <;> simp [Shp.beginTree]
  · cases e
theorem Good.hear {p : Plan} {sh sh' : Shp} {se se' : Srch} {t : Token} {told : List Int} (G : Good p sh se) (tok : TokOk t) (e : hear p sh se t = some (sh', se', told)) : Good p sh' se' ∧ told.length + 200 * sh.entries ≤ 200 * sh'.entries := by
  have hn : ∀ n, t = .name n → n ≠ [] := fun n e => by subst e; exact tok.1
  unfold TS.hear at e
  cases hc : sh.come t with
  | none => rw [hc] at e; cases e
  | some x =>
    obtain ⟨s1, q⟩ := x
    have h1 := come_entries hc
    cases q with
    | none =>
      rw [hc] at e
      simp only [Option.some.injEq, Prod.mk.injEq] at e
      obtain ⟨rfl, rfl, rfl⟩ := e
      refine ⟨⟨Shp.come_ok G.ok hc hn, G.nm.come tok hc, G.live.come.1 hc⟩, ?_⟩
      have := h1.2
      simp only [List.length_nil]
      omega
    | some q =>
      rw [hc] at e
      simp only [Option.some.injEq, Prod.mk.injEq] at e
      obtain ⟨rfl, rfl, rfl⟩ := e
      refine ⟨⟨Shp.come_ok G.ok hc hn, G.nm.come tok hc, G.live.come.2 q hc⟩, ?_⟩
      have := h1.1 rfl
      have := meet_len (p := p) (se := se) (place_ok G.ok G.nm hc) tok (come_place hc).2.1
      omega
end TS
end
section
set_option Elab.async false
set_option linter.all false
set_option maxRecDepth 100000
set_option maxHeartbeats 4000000
namespace TS
open PySem PySem.Spec PyProof.Rows L2
open Vapaqf (Head Way Token Test matches_ faultOf Plan)
open Vapaqa (Text Name stepText placeText textBefore)
local macro_rules | `(tactic| walk_at "v") => `(tactic| repeat (first | refine ⟨_, rfl, ?_⟩ | refine ⟨_, _, rfl, rfl, ?_⟩ | refine ⟨_, _, rfl, ?_⟩))
local macro_rules | `(tactic| walk_at "few") => `(tactic| first | decide | (show 0 < 1000; decide) | (show 1 < 1000; decide) | (show 2 < 1000; decide) | (show 3 < 1000; decide) | (show 4 < 1000; decide) | (show 5 < 1000; decide) | (show 6 < 1000; decide))
def stF (a c : Addr) : List (Str × V) := [("shape", .ref a), ("search", .ref c)]
structure StAt (K : PySem.W.Frag) (F H : Hp) (st c a l : Addr) (fs : List Addr) (p : Plan) (sh : Shp) (se : Srch) : Prop where
  ins : InsAt K H "Stream" st (stF a c)
  sh : ShAt K F H a l fs sh
  se : SeAt K F H c p se
  nc : c ∉ a :: l :: fs
  ns : st ∉ c :: a :: l :: fs
theorem SeAt.has {K : PySem.W.Frag} {F H : Hp} {c : Addr} {p : Plan} {se : Srch} (h : SeAt K F H c p se) : H c ≠ none := by
  obtain ⟨-, q, cv, sv, ⟨dx, e⟩, -⟩ := h
  rw [e]
  intro z
  cases z
theorem StAt.has {K : PySem.W.Frag} {F H : Hp} {st c a l : Addr} {fs : List Addr} {p : Plan} {sh : Shp} {se : Srch} (h : StAt K F H st c a l fs p sh se) : ∀ b ∈ st :: c :: a :: l :: fs, H b ≠ none := fun b hb => by
  rcases List.mem_cons.mp hb with rfl | hb
  · obtain ⟨dx, e⟩ := h.ins
    rw [e]
    intro z
    cases z
  · rcases List.mem_cons.mp hb with rfl | hb
    · exact h.se.has
    · exact h.sh.has b hb
theorem StAt.go {K : PySem.W.Frag} {S : List Addr} {H F H' F' : Hp} {st c a l : Addr} {fs : List Addr} {p : Plan} {sh : Shp} {se : Srch} (g : Go S H F H' F') (sF : Same F H) (n : ∀ b ∈ st :: c :: a :: l :: fs, b ∉ S) (h : StAt K F H st c a l fs p sh se) : StAt K F' H' st c a l fs p sh se := by
  obtain ⟨dx, e⟩ := h.ins
  exact ⟨⟨dx, g.keep _ _ e (n _ (by simp))⟩, h.sh.go g sF (fun b hb => n b (List.mem_cons_of_mem _ (List.mem_cons_of_mem _ hb))), h.se.go g sF (n _ (by simp)), h.nc, h.ns⟩
def ToksAt (K : PySem.W.Frag) (F : Hp) : List Addr → List Token → Prop
  | [], [] => True
  | a :: as, t :: ts => TokAt K F a t ∧ ToksAt K F as ts
  | _, _ => False
theorem ToksAt.mono {K : PySem.W.Frag} {F F' : Hp} (e : Same F F') : ∀ {as : List Addr} {ts : List Token}, ToksAt K F as ts → ToksAt K F' as ts
  | [], [], _ => trivial
  | _ :: _, _ :: _, h => ⟨h.1.mono e, ToksAt.mono e h.2⟩
  | [], _ :: _, h => h.elim
  | _ :: _, [], h => h.elim
theorem ToksAt.length {K : PySem.W.Frag} {F : Hp} : ∀ {as : List Addr} {ts : List Token}, ToksAt K F as ts → as.length = ts.length
  | [], [], _ => rfl
  | _ :: _, _ :: _, h => congrArg Nat.succ (ToksAt.length h.2)
  | [], _ :: _, h => h.elim
  | _ :: _, [], h => h.elim
theorem ToksAt.get {K : PySem.W.Frag} {F : Hp} : ∀ {as : List Addr} {ts : List Token} {i : Nat} {a : Addr}, ToksAt K F as ts → as[i]? = some a → ∃ t, ts[i]? = some t ∧ TokAt K F a t
  | [], [], i, v, _, e => by simp at e
  | a :: _, t :: _, 0, v, h, e => ⟨t, rfl, (Option.some.inj e) ▸ h.1⟩
  | _ :: as, _ :: ts, i + 1, v, h, e => ToksAt.get (as := as) (ts := ts) (i := i) h.2 e
  | [], _ :: _, _, _, h, _ => h.elim
  | _ :: _, [], _, _, h, _ => h.elim
theorem ToksAt.snoc {K : PySem.W.Frag} {F : Hp} {a : Addr} {t : Token} (h2 : TokAt K F a t) : ∀ {as : List Addr} {ts : List Token}, ToksAt K F as ts → ToksAt K F (as ++ [a]) (ts ++ [t])
  | [], [], _ => ⟨h2, trivial⟩
  | _ :: _, _ :: _, h => ⟨h.1, ToksAt.snoc h2 h.2⟩
  | [], _ :: _, h => h.elim
  | _ :: _, [], h => h.elim
/-- a list of tokens -/
def TokL (K : PySem.W.Frag) (F : Hp) (a : Addr) (ts : List Token) : Prop := ∃ as, F a = some (.lst (as.map V.ref)) ∧ ToksAt K F as ts
theorem TokL.mono {K : PySem.W.Frag} {F F' : Hp} {a : Addr} {ts : List Token} (e : Same F F') (h : TokL K F a ts) : TokL K F' a ts := by
  obtain ⟨as, e1, t⟩ := h
  exact ⟨as, e _ _ e1, t.mono e⟩
def spStreamInit (K : PySem.W.Frag) : Sp := fun vs H Q _ => ∃ (F : Hp) (st dx qa : Addr) (p : Plan), vs = [.ref st, .ref qa] ∧ Same F H ∧ F st = none ∧ H st = some (.ins (He.ga K "Stream") dx []) ∧ QuestAt K F qa p ∧
  ∀ (H' : Hp) (c a l : Addr), (∀ b o, H b = some o → b ≠ st → H' b = some o) → (∀ b ∈ [c, a, l], H b = none) → StAt K F H' st c a l [] p .fresh (.fresh p) → Q .non H'
def spRehearse (K : PySem.W.Frag) : Sp := fun vs H Q E => ∃ (F : Hp) (st c a l : Addr) (fs : List Addr) (p : Plan) (sh : Shp) (se : Srch) (tl : Addr) (ts : List Token), vs = [.ref st, .ref tl] ∧ Same F H ∧ StAt K F H st c a l fs p sh se ∧ Good p sh se ∧ TokL K F tl ts ∧ (∀ t ∈ ts, TokOk t) ∧
  (comeAll sh ts = none → ∀ H', Same H H' → E (CN K) none H') ∧ (∀ s', comeAll sh ts = some s' → ∀ H', Same H H' → Q .non H')
/-- what a method gives that moves the stream -/
def StMoved (K : PySem.W.Frag) (F H : Hp) (st c a l : Addr) (fs : List Addr) (p : Plan) (sh : Shp) (se : Srch) (told : List Int) (Q : VK) : Prop :=
  ∀ (H' F' : Hp) (fs2 : List Addr) (r : Addr), Go (c :: a :: l :: fs) H F H' F' → StAt K F' H' st c a l fs2 p sh se → (∀ b ∈ fs2, b ∈ fs ∨ H b = none) → F' r = some (.lst (intsV told)) → Q (.ref r) H'
def spHear (K : PySem.W.Frag) : Sp := fun vs H Q E => ∃ (F : Hp) (st c a l : Addr) (fs : List Addr) (p : Plan) (sh : Shp) (se : Srch) (tk : Addr) (t : Token), vs = [.ref st, .ref tk] ∧ Same F H ∧ StAt K F H st c a l fs p sh se ∧ Good p sh se ∧ TokAt K F tk t ∧ TokOk t ∧
  (hear p sh se t = none → ∀ H', Same H H' → E (CN K) none H') ∧ (∀ sh' se' told, hear p sh se t = some (sh', se', told) → StMoved K F H st c a l fs p sh' se' told Q)
def spHearAll (K : PySem.W.Frag) : Sp := fun vs H Q E => ∃ (F : Hp) (st c a l : Addr) (fs : List Addr) (p : Plan) (sh : Shp) (se : Srch) (tl : Addr) (ts : List Token), vs = [.ref st, .ref tl] ∧ Same F H ∧ StAt K F H st c a l fs p sh se ∧ Good p sh se ∧ TokL K F tl ts ∧ (∀ t ∈ ts, TokOk t) ∧
  ∃ sh' se' n told, hearAll p sh se ts = some (sh', se', n, told) ∧ StMoved K F H st c a l fs p sh' se' ((n : Int) :: told) Q
def spFinish (K : PySem.W.Frag) : Sp := fun vs H Q E => ∃ (F : Hp) (st c a l : Addr) (fs : List Addr) (p : Plan) (sh : Shp) (se : Srch), vs = [.ref st] ∧ Same F H ∧ StAt K F H st c a l fs p sh se ∧
  (sh.isWhole = false → E (CN K) none H) ∧ (sh.isWhole = true → ∀ (H' : Hp) (r : Addr), Same H H' → H r = none → H' r = some (.lst (intsV (se.finish p))) → Q (.ref r) H')
def roomOf (sh : Shp) (se : Srch) : List Int := [(sh.frames.length : Int), (sh.most : Int), (sh.entries : Int), if sh.isWhole = true then 1 else 0, if se.halted = true then 1 else 0]
def spRoom (K : PySem.W.Frag) : Sp := fun vs H Q E => ∃ (F : Hp) (st c a l : Addr) (fs : List Addr) (p : Plan) (sh : Shp) (se : Srch), vs = [.ref st] ∧ Same F H ∧ StAt K F H st c a l fs p sh se ∧
  ∀ (H' : Hp) (r : Addr), Same H H' → H r = none → H' r = some (.lst (intsV (roomOf sh se))) → Q (.ref r) H'
theorem comeAll_cons (sh : Shp) (t : Token) (ts : List Token) : comeAll sh (t :: ts) = match sh.come t with
    | none => none
    | some (sh', _) => comeAll sh' ts := rfl
theorem hearAll_cons (p : Plan) (sh : Shp) (se : Srch) (t : Token) (ts : List Token) : hearAll p sh se (t :: ts) = match hear p sh se t with
    | none => none
    | some (sh', se', told) => (hearAll p sh' se' ts).map fun x => (x.1, x.2.1, (if told.isEmpty = true then 0 else 1) + x.2.2.1, told ++ x.2.2.2) := rfl
section
variable {P : Program} {w : World} {K : PySem.W.Frag} {mg : Str → Option Value} {base : Heap}
theorem ok_Stream_init (T : Facts K mg) : OkFn P w K mg base CX0 3 (He.ma K (He.ga K "Stream") "__init__") 2 (spStreamInit K) := by
  refine mk_fn T.d_Stream_init sc_Stream_init (fun _ _ _ _ _ _ us hl => match us, hl with | [_, _], _ => rfl) (fun vs H Q E h => ?_) (fun cdv A outer s H vs Q E hr h => ?_)
  · obtain ⟨_, _, _, _, _, rfl, _⟩ := h
    rfl
  · obtain ⟨F, st, dx, qa, p, rfl, sF, hF, hst, hq, q⟩ := h
    refine ⟨_, PSs.nox (pss_cons (ps_fld (pv 0) (c_make0 T.k_Shape (ok_Shape_init T) (hr.mono (by decide)) rfl T.g_Shape pass0) rfl)
      (pss_one (ps_fld (pv 0) (c_make T.k_Search (ok_Search_init T) (hr.mono (by decide)) rfl T.g_Search pass0 (pa_cons (pv 1) pa_nil)) rfl))), ?_⟩
    intro a dxa ha hdxa hne
    refine ⟨a, dxa, rfl, upd_same, fun H1 l hi hl hl' k1 => ⟨rfl, ?_⟩⟩
    have s1 : Same H H1 := Same.made ha hdxa k1
    have free : ∀ {b : Addr}, H b = none → F b = none := fun {b} e => by
      cases z : F b with
      | none => rfl
      | some o => have := sF _ _ z; rw [e] at this; cases this
    have hla : l ≠ a := fun z => by rw [z, upd_same] at hl; cases hl
    have hl0 : H l = none := by
      rw [upd_ne hla] at hl
      by_cases z : l = dxa
      · rw [z, upd_same] at hl; cases hl
      · rw [upd_ne z] at hl; exact hl
    have has : a ≠ st := fun z => by rw [z, hst] at ha; cases ha
    have hls : l ≠ st := fun z => by rw [z, hst] at hl0; cases hl0
    have g1 : Go [] H F H1 F := Go.idle sF s1
    have S1 : ShAt K F H1 a l [] .fresh := ⟨free ha, free hl0, ⟨dxa, hi⟩, hl', trivial, List.nodup_nil, by simp, by simp, hla.symm⟩
    refine ⟨_, rfl, _, _, _, _, rfl, s1 _ _ hst, T.c_Stream, T.n_Stream_shape, by walk_at "few", ?_⟩
    have g2 : Go [st] H1 F _ F := Go.put (o := .ins (He.ga K "Stream") dx (putF "shape" (.ref a) [])) g1.same (by simp) hF
    have hst2 : upd H1 st (.ins (He.ga K "Stream") dx (putF "shape" (.ref a) [])) st = _ := upd_same
    have S2 := S1.go g2 g1.same (by simp [has, hls])
    walk_at "v"
    intro c dxc hc hdxc hne2
    have hcH1 : H1 c = none := by
      by_cases z : c = st
      · rw [z, upd_same] at hc; cases hc
      · rw [upd_ne z] at hc; exact hc
    have hcs : c ≠ st := fun z => by rw [z, upd_same] at hc; cases hc
    have hc0 : H c = none := s1.free hcH1
    have sm : Same F (upd (upd (upd H1 st (.ins (He.ga K "Stream") dx (putF "shape" (.ref a) []))) dxc (.own c)) c (.ins (He.ga K "Search") dxc [])) := fun b o e => by
      have h2 := g2.same b o e
      rw [upd_ne (fun z => by rw [z, hc] at h2; cases h2), upd_ne (fun z => by rw [z, hdxc] at h2; cases h2)]
      exact h2
    refine ⟨F, c, dxc, qa, p, rfl, sm, free hc0, upd_same, hq, fun H3 hi3 k3 => ⟨rfl, ?_⟩⟩
    have s3 := Same.made hc hdxc k3
    have g3 : Go [] _ F H3 F := Go.idle g2.same s3
    have S3 := S2.go g3 g2.same (by simp)
    refine ⟨_, rfl, _, _, _, _, rfl, s3 _ _ hst2, T.c_Stream, T.n_Stream_search, by walk_at "few", ?_⟩
    have g4 : Go [st] H3 F _ F := Go.put (o := .ins (He.ga K "Stream") dx (putF "search" (.ref c) (putF "shape" (.ref a) []))) g3.same (by simp) hF
    have S4 := S3.go g4 g3.same (by simp [has, hls])
    refine q _ c a l (fun b o e n => ?_) ?_ ⟨⟨dx, upd_same⟩, S4, ⟨free hc0, qa, .non, .non, ⟨dxc, (upd_ne hcs).trans hi3⟩, hq, rfl, rfl⟩, ?_, ?_⟩
    · rw [upd_ne n]
      refine s3 _ _ ?_
      rw [upd_ne n]
      exact s1 _ _ e
    · intro b hb
      simp only [List.mem_cons, List.not_mem_nil, or_false] at hb
      rcases hb with rfl | rfl | rfl
      · exact hc0
      · exact ha
      · exact hl0
    · intro hb
      exact S1.has c hb hcH1
    · intro hb
      simp only [List.mem_cons, List.not_mem_nil, or_false] at hb
      rcases hb with h | h | h
      · exact hcs h.symm
      · exact has h.symm
      · exact hls h.symm
theorem ok_Stream_finish (T : Facts K mg) : OkFn P w K mg base (L2.CX P w) 6 (He.ma K (He.ga K "Stream") "finish") 1 (spFinish K) := by
  refine mk_fn T.d_Stream_finish sc_Stream_finish (fun _ _ _ _ _ _ us hl => match us, hl with | [_], _ => rfl) (fun vs H Q E h => ?_) (fun cdv A outer s H vs Q E hr h => ?_)
  · obtain ⟨_, _, _, _, _, _, _, _, _, rfl, _⟩ := h
    rfl
  · obtain ⟨F, st, c, a, l, fs, p, sh, se, rfl, sF, S, q0, q1⟩ := h
    refine ⟨_, (pss_cons (ps_if (pt_not (pt_val (c_meth0 (pe_fld (pv 0) rfl) T.c_Shape T.m_Shape_is_whole (ok_Shape_is_whole T) (hr.mono (by decide)) pass0)))
        (pss_one (rz_N T rfl rfl (takes_of rfl rfl rfl rfl)))
        pss_nil)
      (pss_one (ps_ret (c_meth0 (pe_fld (pv 0) rfl) T.c_Search T.m_Search_end (ok_Search_end T) (hr.mono (by decide)) pass0)))), ?_⟩
    obtain ⟨dx, h1⟩ := S.ins
    obtain ⟨dx2, h2⟩ := S.sh.ins
    obtain ⟨-, qa, cv, sv, ⟨dx3, h3⟩, -⟩ := id S.se
    refine ⟨_, rfl, _, _, _, _, _, rfl, h1, T.c_Stream, T.n_Stream_shape, rfl, ?_⟩
    refine ⟨_, _, _, rfl, h2, rfl, ?_⟩
    refine ⟨F, a, l, fs, sh, rfl, sF, S.sh, ?_⟩
    walk_at "v"
    cases hw : sh.isWhole with
    | false =>
      refine if_pos_of rfl ?_
      exact q0 hw
    | true =>
      refine if_neg_of rfl ?_
      refine ⟨_, rfl, _, _, _, _, _, rfl, h1, T.c_Stream, T.n_Stream_search, rfl, ?_⟩
      refine ⟨_, _, _, rfl, h3, rfl, ?_⟩
      exact ⟨F, c, p, se, rfl, sF, S.se, q1 hw⟩
theorem ok_Stream_room (T : Facts K mg) : OkFn P w K mg base CX0 6 (He.ma K (He.ga K "Stream") "room") 1 (spRoom K) := by
  refine mk_fn T.d_Stream_room sc_Stream_room (fun _ _ _ _ _ _ us hl => match us, hl with | [_], _ => rfl) (fun vs H Q E h => ?_) (fun cdv A outer s H vs Q E hr h => ?_)
  · obtain ⟨_, _, _, _, _, _, _, _, _, rfl, _⟩ := h
    rfl
  · obtain ⟨F, st, c, a, l, fs, p, sh, se, rfl, sF, S, q⟩ := h
    refine ⟨_, PSs.nox (pss_cons (ps_set (i := 1) sc_Stream_room.nd rfl (.inl rfl) (pe_ifExp (pt_val (c_meth0 (pe_fld (pv 0) rfl) T.c_Shape T.m_Shape_is_whole (ok_Shape_is_whole T) (hr.mono (by decide)) pass0)) pe_int pe_int))
      (pss_cons (ps_set (i := 2) sc_Stream_room.nd rfl (.inl rfl) (pe_ifExp (pt_val (pe_fld (pe_fld (pv 0) rfl) rfl)) pe_int pe_int))
      (pss_one (ps_ret (pe_lst (pa_cons (pe_callB call_len_seq (by rfl) T.f_len boot_len (pa_cons (pe_fld (pe_fld (pv 0) rfl) rfl) pa_nil)) (pa_cons (pe_fld (pe_fld (pv 0) rfl) rfl) (pa_cons (pe_fld (pe_fld (pv 0) rfl) rfl) (pa_cons (pv 1) (pa_cons (pv 2) pa_nil)))))))))), ?_⟩
    obtain ⟨dx, h1⟩ := S.ins
    obtain ⟨dx2, h2⟩ := S.sh.ins
    obtain ⟨-, qa, cv, sv, ⟨dx3, h3⟩, -⟩ := id S.se
    refine seq_cut (R := fun σ' H1 => H1 = H ∧ σ' = [some (.ref st), some (.int (if sh.isWhole = true then 1 else 0)), none]) (fun nx kx => ?_) ?_
    · refine ⟨_, rfl, _, _, _, _, _, rfl, h1, T.c_Stream, T.n_Stream_shape, rfl, ?_⟩
      refine ⟨_, _, _, rfl, h2, rfl, ?_⟩
      refine ⟨F, a, l, fs, sh, rfl, sF, S.sh, ?_⟩
      walk_at "v"
      cases hw : sh.isWhole with
      | true => exact if_pos_of rfl (kx _ _ ⟨rfl, by rw [hw]; rfl⟩)
      | false => exact if_neg_of rfl (kx _ _ ⟨rfl, by rw [hw]; rfl⟩)
    · rintro σ' H1 ⟨rfl, rfl⟩
      refine seq_cut (R := fun σ' H2 => H2 = H1 ∧ σ' = [some (.ref st), some (.int (if sh.isWhole = true then 1 else 0)), some (.int (if se.halted = true then 1 else 0))]) (fun nx kx => ?_) ?_
      · refine ⟨_, rfl, _, _, _, _, _, rfl, h1, T.c_Stream, T.n_Stream_search, rfl, ?_⟩
        refine ⟨_, _, _, _, _, rfl, h3, T.c_Search, T.n_Search_halted, rfl, ?_⟩
        walk_at "v"
        rcases btf se.halted with hw | hw
        · exact if_pos_of hw (kx _ _ ⟨rfl, by rw [hw]; rfl⟩)
        · exact if_neg_of hw (kx _ _ ⟨rfl, by rw [hw]; rfl⟩)
      · rintro σ' H2 ⟨rfl, rfl⟩
        refine ⟨_, rfl, _, _, _, _, _, rfl, h1, T.c_Stream, T.n_Stream_shape, rfl, ?_⟩
        refine ⟨_, _, _, _, _, rfl, h2, T.c_Shape, T.n_Shape_frames, rfl, ?_⟩
        refine ⟨l, _, rfl, .inl (SqL.of S.sh.lst), ?_⟩
        refine ⟨_, rfl, _, _, _, _, _, rfl, h1, T.c_Stream, T.n_Stream_shape, rfl, ?_⟩
        refine ⟨_, _, _, _, _, rfl, h2, T.c_Shape, T.n_Shape_most_frames, rfl, ?_⟩
        refine ⟨_, rfl, _, _, _, _, _, rfl, h1, T.c_Stream, T.n_Stream_shape, rfl, ?_⟩
        refine ⟨_, _, _, _, _, rfl, h2, T.c_Shape, T.n_Shape_entries, rfl, ?_⟩
        walk_at "v"
        refine ⟨by show 5 ≤ sizeLine; decide, fun r hr2 => ?_⟩
        refine q _ r (upd_same_of hr2) hr2 ?_
        rw [upd_same, S.sh.len]
        unfold roomOf intsV
        rfl
theorem ok_Stream_hear (T : Facts K mg) : OkFn P w K mg base (L2.CX P w) 37 (He.ma K (He.ga K "Stream") "hear") 2 (spHear K) := by
  refine mk_fn T.d_Stream_hear sc_Stream_hear (fun _ _ _ _ _ _ us hl => match us, hl with | [_, _], _ => rfl) (fun vs H Q E h => ?_) (fun cdv A outer s H vs Q E hr h => ?_)
  · obtain ⟨_, _, _, _, _, _, _, _, _, _, _, rfl, _⟩ := h
    rfl
  · obtain ⟨F, st, c, a, l, fs, p, sh, se, tk, t, rfl, sF, S, G, ht, tok, q0, q1⟩ := h
    refine ⟨_, (pss_cons (ps_set (i := 2) sc_Stream_hear.nd rfl (.inl rfl) (c_meth (pe_fld (pv 0) rfl) T.c_Shape T.m_Shape_come (ok_Shape_come T) (hr.mono (by decide)) (pX (takes_of rfl rfl rfl rfl)) (pa_cons (pv 1) pa_nil)))
      (pss_cons (ps_if (pt_cmpR op_isN (pv 2) pe_non (nomark _))
        (pss_one (ps_ret (pe_lst pa_nil)))
        pss_nil)
      (pss_one (ps_ret (c_meth (pe_fld (pv 0) rfl) T.c_Search T.m_Search_meet (ok_Search_meet T) (hr.mono (by decide)) pass0 (pa_cons (pv 2) (pa_cons (pv 1) pa_nil))))))), ?_⟩
    obtain ⟨dx, h1⟩ := S.ins
    obtain ⟨dx2, h2⟩ := S.sh.ins
    refine seq_cut (R := fun σ' H1 => ∃ (F1 : Hp) (fs2 : List Addr) (sh' : Shp) (o : Option Pl) (v : V), σ' = [some (.ref st), some (.ref tk), some v] ∧ sh.come t = some (sh', o) ∧ Go (a :: l :: fs) H F H1 F1 ∧ ShAt K F1 H1 a l fs2 sh' ∧ (∀ b ∈ fs2, b ∈ fs ∨ H b = none) ∧ (match o with
        | none => v = .non
        | some q => ∃ pa, v = .ref pa ∧ PlaceAt F1 pa q)) (fun nx kx => ?_) ?_
    · refine ⟨_, rfl, _, _, _, _, _, rfl, h1, T.c_Stream, T.n_Stream_shape, rfl, ?_⟩
      refine ⟨_, _, _, rfl, h2, rfl, ?_⟩
      walk_at "v"
      refine ⟨F, a, l, fs, sh, tk, t, rfl, sF, S.sh, ht, tok, G.ok, fun h0 H1 s1 => ?_, fun sh' e H1 F1 fs2 g S1 sub => ?_, fun sh' pq e H1 F1 fs2 g S1 sub pa hpa => ?_⟩
      · exact q0 (by unfold hear; rw [h0]) H1 s1
      · exact kx _ _ ⟨F1, fs2, sh', none, _, rfl, e, g, S1, sub, rfl⟩
      · exact kx _ _ ⟨F1, fs2, sh', some pq, _, rfl, e, g, S1, sub, pa, rfl, hpa⟩
    · rintro σ' H1 ⟨F1, fs2, sh', o, v, rfl, e, g, S1, sub, hv⟩
      have sub2 : c ∉ a :: l :: fs2 := fun hb => by
        rcases List.mem_cons.mp hb with hb | hb
        · exact S.nc (by simp [hb])
        · rcases List.mem_cons.mp hb with hb | hb
          · exact S.nc (by simp [hb])
          · rcases sub c hb with h | h
            · exact S.nc (by simp [h])
            · exact S.se.has h
      have sub3 : st ∉ c :: a :: l :: fs2 := fun hb => by
        have ns := S.ns
        rcases List.mem_cons.mp hb with hb | hb
        · exact ns (by simp [hb])
        · rcases List.mem_cons.mp hb with hb | hb
          · exact ns (by simp [hb])
          · rcases List.mem_cons.mp hb with hb | hb
            · exact ns (by simp [hb])
            · rcases sub st hb with h | h
              · exact ns (by simp [h])
              · rw [h1] at h; cases h
      have hst1 := g.keep _ _ h1 (fun hb => S.ns (List.mem_cons_of_mem _ hb))
      have hse1 := S.se.go g sF S.nc
      cases o with
      | none =>
        have hv' : v = .non := hv
        subst hv'
        have q1' := q1 sh' se [] (by unfold hear; rw [e])
        walk_at "v"
        refine ⟨rfl, _, rfl, ?_⟩
        refine if_pos_of rfl ?_
        refine ⟨by show 0 ≤ sizeLine; exact Nat.zero_le _, fun r hr2 => ?_⟩
        have s2 := upd_same_of (o := HO.lst []) hr2
        have g2 : Go [] H1 F1 _ _ := Go.new (S := []) g.same s2
        refine q1' _ _ fs2 r ((g.wide (by intro b hb; exact List.mem_cons_of_mem _ hb) : Go (c :: a :: l :: fs) H F H1 F1).trans g2 (by simp)) ⟨⟨dx, s2 _ _ hst1⟩, S1.go g2 g.same (by simp), hse1.go g2 g.same (by simp), sub2, sub3⟩ sub ?_
        rw [Gr.new hr2]
        exact upd_same
      | some pq =>
        obtain ⟨pa, rfl, hpa⟩ := hv
        have q1' := q1 sh' _ _ (by unfold hear; rw [e])
        obtain ⟨-, qa, cv, sv, ⟨dx3, h3⟩, -⟩ := id hse1
        walk_at "v"
        refine ⟨rfl, _, rfl, ?_⟩
        refine if_neg_of rfl ?_
        refine ⟨_, rfl, _, _, _, _, _, rfl, hst1, T.c_Stream, T.n_Stream_search, rfl, ?_⟩
        refine ⟨_, _, _, rfl, h3, rfl, ?_⟩
        walk_at "v"
        obtain ⟨hcan, hb, hpq, -⟩ := come_place e
        refine ⟨F1, c, pa, tk, p, se, pq, t, rfl, g.same, hse1, hpa, place_ok G.ok G.nm e, ht.mono (g.held sF), hb, tok, fun hh => ?_, fun H2 F2 r g2 hse2 hr2 => ?_⟩
        · rw [hpq]
          exact G.live.typed hh
        · refine q1' H2 F2 fs2 r ((g.wide (by intro b hb; exact List.mem_cons_of_mem _ hb) : Go (c :: a :: l :: fs) H F H1 F1).trans g2 (by intro b hb _; simp at hb; simp [hb])) ⟨⟨dx, g2.keep _ _ hst1 (by simp only [List.mem_singleton]; exact fun z => S.ns (by simp [z]))⟩, S1.go g2 g.same (fun b hb => by simp only [List.mem_singleton]; exact fun z => sub2 (z ▸ hb)), hse2, sub2, sub3⟩ sub hr2
theorem ok_Stream_rehearse (T : Facts K mg) : OkFn P w K mg base (L2.CX P w) 5 (He.ma K (He.ga K "Stream") "rehearse") 2 (spRehearse K) := by
  refine mk_fn T.d_Stream_rehearse sc_Stream_rehearse (fun _ _ _ _ _ _ us hl => match us, hl with | [_, _], _ => rfl) (fun vs H Q E h => ?_) (fun cdv A outer s H vs Q E hr h => ?_)
  · obtain ⟨_, _, _, _, _, _, _, _, _, _, _, rfl, _⟩ := h
    rfl
  · obtain ⟨F, st, c, a, l, fs, p, sh, se, tl, ts, rfl, sF, S, G, ht, tok, q0, q1⟩ := h
    refine ⟨_, (pss_cons (ps_set (i := 2) sc_Stream_rehearse.nd rfl (.inl rfl) (c_meth0 (pe_fld (pv 0) rfl) T.c_Shape T.m_Shape_twin (ok_Shape_twin T) (hr.mono (by decide)) pass0))
      (pss_one (ps_for (passes_of rfl) rfl (pi_list (pv 1)) (pg_name (i := 3) sc_Stream_rehearse.nd rfl (.inl rfl))
        (pss_one (ps_expr (c_meth (pv 2) T.c_Shape T.m_Shape_come (ok_Shape_come T) (hr.mono (by decide)) (pX (takes_of rfl rfl rfl rfl)) (pa_cons (pv 3) pa_nil))))))), ?_⟩
    obtain ⟨dx, h1⟩ := S.ins
    obtain ⟨dx2, h2⟩ := S.sh.ins
    obtain ⟨as, hl, hts⟩ := ht
    refine ⟨_, rfl, _, _, _, _, _, rfl, h1, T.c_Stream, T.n_Stream_shape, rfl, ?_⟩
    refine ⟨_, _, _, rfl, h2, rfl, ?_⟩
    refine ⟨F, a, l, fs, sh, rfl, sF, S.sh, by have := G.ok.most; omega, fun H1 a2 l2 fs2 s1 fr S1 => ?_⟩
    walk_at "v"
    refine ⟨⟨as.map V.ref, SqL.of (s1 _ _ (sF _ _ hl))⟩, for_list (xs := as.map V.ref) (fun i σ H2 => Same H H2 ∧ ∃ (F2 : Hp) (fs3 : List Addr) (s3 : Shp) (u : Option V), Same F F2 ∧ Same F2 H2 ∧ ShAt K F2 H2 a2 l2 fs3 s3 ∧ (∀ b ∈ a2 :: l2 :: fs3, H b = none) ∧ s3.Ok ∧ comeAll s3 (ts.drop i) = comeAll sh ts ∧ σ = [some (.ref st), some (.ref tl), some (.ref a2), u]) ⟨s1, F, fs2, sh, none, Same.refl _, sF.trans s1, S1, fr, G.ok, rfl, rfl⟩ (fun i σ H2 _ p => SqL.of (p.1 _ _ (sF _ _ hl))) ?_ ?_⟩
    · rintro i v σ H2 hv ⟨s2, F2, fs3, s3, u, sFF, sF2, S2, fr2, O2, e2, rfl⟩
      rw [List.getElem?_map] at hv
      cases ho : as[i]? with
      | none => rw [ho] at hv; cases hv
      | some tk =>
        rw [ho] at hv
        have hv' : v = .ref tk := (Option.some.inj hv).symm
        subst hv'
        obtain ⟨t, hti, htk⟩ := hts.get ho
        have hil : i < ts.length := (List.getElem?_eq_some_iff.mp hti).1
        have ed : ts.drop i = t :: ts.drop (i + 1) := by
          rw [List.drop_eq_getElem_cons hil]
          congr 1
          exact (List.getElem?_eq_some_iff.mp hti).2
        have tok1 := tok t (List.mem_of_getElem? hti)
        have hn : ∀ n, t = .name n → n ≠ [] := fun n e => by subst e; exact tok1.1
        rw [ed, comeAll_cons] at e2
        obtain ⟨dx3, h3⟩ := S2.ins
        have fin : ∀ (s4 : Shp) (o : Option Pl) (H3 F3 : Hp) (fs4 : List Addr), s3.come t = some (s4, o) → Go (a2 :: l2 :: fs3) H2 F2 H3 F3 → ShAt K F3 H3 a2 l2 fs4 s4 → (∀ b ∈ fs4, b ∈ fs3 ∨ H2 b = none) →
            (Same H H3 ∧ ∃ (F2 : Hp) (fs3 : List Addr) (s3 : Shp) (u : Option V), Same F F2 ∧ Same F2 H3 ∧ ShAt K F2 H3 a2 l2 fs3 s3 ∧ (∀ b ∈ a2 :: l2 :: fs3, H b = none) ∧ s3.Ok ∧ comeAll s3 (ts.drop (i + 1)) = comeAll sh ts ∧ [some (.ref st), some (.ref tl), some (.ref a2), some (.ref tk)] = [some (.ref st), some (.ref tl), some (.ref a2), u]) := by
          intro s4 o H3 F3 fs4 e g3 S3 sub
          rw [e] at e2
          refine ⟨fun b o e => g3.keep _ _ (s2 _ _ e) (fun hb => by rw [fr2 b hb] at e; cases e), F3, fs4, s4, _, sFF.trans (g3.held sF2), g3.same, S3, fun b hb => ?_, Shp.come_ok O2 e hn, e2, rfl⟩
          rcases List.mem_cons.mp hb with rfl | hb
          · exact fr2 _ (by simp)
          · rcases List.mem_cons.mp hb with rfl | hb
            · exact fr2 _ (by simp)
            · rcases sub b hb with h | h
              · exact fr2 _ (by simp [h])
              · exact s2.free h
        refine ⟨_, rfl, _, _, _, rfl, h3, rfl, ?_⟩
        walk_at "v"
        refine ⟨F2, a2, l2, fs3, s3, tk, t, rfl, sF2, S2, htk.mono sFF, tok1, O2, fun h0 H3 s3' => ?_, fun s4 e H3 F3 fs4 g3 S3 sub => ?_, fun s4 pq e H3 F3 fs4 g3 S3 sub pa hpa => ?_⟩
        · rw [h0] at e2
          exact q0 e2.symm H3 (s2.trans s3')
        · exact fin s4 none H3 F3 fs4 e g3 S3 sub
        · exact fin s4 (some pq) H3 F3 fs4 e g3 S3 sub
    · rintro σ H2 ⟨s2, F2, fs3, s3, u, sFF, sF2, S2, fr2, O2, e2, rfl⟩
      rw [List.length_map, hts.length, List.drop_length] at e2
      exact q1 s3 e2.symm H2 s2
theorem ok_Stream_hear_all (T : Facts K mg) : OkFn P w K mg base (L2.CX P w) 38 (He.ma K (He.ga K "Stream") "hear_all") 2 (spHearAll K) := by
  refine mk_fn T.d_Stream_hear_all sc_Stream_hear_all (fun _ _ _ _ _ _ us hl => match us, hl with | [_, _], _ => rfl) (fun vs H Q E h => ?_) (fun cdv A outer s H vs Q E hr h => ?_)
  · obtain ⟨_, _, _, _, _, _, _, _, _, _, _, rfl, _⟩ := h
    rfl
  · obtain ⟨F, st, c, a, l, fs, p, sh, se, tl, ts, rfl, sF, S, G, ht, tok, sh', se', n, told, e, q⟩ := h
    refine ⟨_, (pss_cons (ps_set (i := 2) sc_Stream_hear_all.nd rfl (.inl rfl) pe_int)
      (pss_cons (ps_set (i := 3) sc_Stream_hear_all.nd rfl (.inl rfl) (pe_lst pa_nil))
      (pss_cons (ps_for (passes_of rfl) rfl (pi_list (pv 1)) (pg_name (i := 4) sc_Stream_hear_all.nd rfl (.inl rfl))
        (pss_cons (ps_set (i := 5) sc_Stream_hear_all.nd rfl (.inl rfl) (c_meth (pv 0) T.c_Stream T.m_Stream_hear (ok_Stream_hear T) (hr.mono (by decide)) (pX (takes_of rfl rfl rfl rfl)) (pa_cons (pv 4) pa_nil)))
        (pss_one (ps_if (pt_cmpR op_gt (pe_callB call_len_seq (by rfl) T.f_len boot_len (pa_cons (pv 5) pa_nil)) pe_int (nomark _))
          (pss_cons (ps_aug (i := 2) sc_Stream_hear_all.nd rfl (.inl rfl) pe_int ip_add)
          (pss_one (ps_expr (pe_bm PySem.F.plainAttrs_list PySem.F.slot_list_extend PySem.F.type_list_extend mt_extend (pv 3) (pa_cons (pv 5) pa_nil)))))
          pss_nil))))
      (pss_one (ps_ret (pe_op op_cat (pe_lst (pa_cons (pv 2) pa_nil)) (pv 3))))))), ?_⟩
    obtain ⟨dx, h1⟩ := S.ins
    obtain ⟨as, hl, hts⟩ := ht
    have free : ∀ {b : Addr}, H b = none → F b = none := fun {b} e => by
      cases z : F b with
      | none => rfl
      | some o => have := sF _ _ z; rw [e] at this; cases this
    walk_at "v"
    refine ⟨by show 0 ≤ sizeLine; exact Nat.zero_le _, fun ra hra => ?_⟩
    have s1 := upd_same_of (o := HO.lst []) hra
    have hra1 : upd H ra (.lst []) ra = some (.lst (intsV [])) := upd_same
    have g1 : Go [] H F (upd H ra (.lst [])) F := Go.idle sF s1
    have S1 := S.go g1 sF (by simp)
    generalize upd H ra (.lst []) = H1 at s1 hra1 g1 S1 ⊢
    have nra : ∀ b, H b ≠ none → ra ≠ b := fun b h z => h (by rw [← z]; exact hra)
    have hst1 := s1 _ _ h1
    walk_at "v"
    refine ⟨⟨as.map V.ref, SqL.of (g1.same _ _ hl)⟩, for_list (xs := as.map V.ref) (fun i σ H2 => ∃ (F2 : Hp) (fs2 : List Addr) (s2 : Shp) (e2 : Srch) (n2 : Nat) (told2 : List Int) (u v : Option V), σ = [some (.ref st), some (.ref tl), some (.int (n2 : Int)), some (.ref ra), u, v] ∧ Go (c :: a :: l :: fs) H F H2 F2 ∧ StAt K F2 H2 st c a l fs2 p s2 e2 ∧ (∀ b ∈ fs2, b ∈ fs ∨ H b = none) ∧ ra ∉ c :: a :: l :: fs2 ∧ H2 ra = some (.lst (intsV told2)) ∧ F2 ra = none ∧ Good p s2 e2 ∧ told2.length ≤ 200 * s2.entries ∧
      (hearAll p s2 e2 (ts.drop i)).map (fun x => (x.1, x.2.1, n2 + x.2.2.1, told2 ++ x.2.2.2)) = some (sh', se', n, told)) ?_ (fun i σ H2 _ ⟨F2, fs2, s2, e2, n2, told2, u, v, hσ, g2, S2, _⟩ => SqL.of (g2.same _ _ (g2.held sF _ _ hl))) ?_ ?_⟩
    · refine ⟨F, fs, sh, se, 0, [], none, none, rfl, g1.wide (by simp), S1, fun b hb => .inl hb, fun hb => S.has ra (List.mem_cons_of_mem _ hb) hra, hra1, free hra, G, Nat.zero_le _, ?_⟩
      rw [List.drop_zero, e]
      simp
    · rintro i v0 σ H2 hv ⟨F2, fs2, s2, e2, n2, told2, u, v, rfl, g2, S2, sub, nra2, hra2, hraF, G2, hlen, eq2⟩
      rw [List.getElem?_map] at hv
      cases ho : as[i]? with
      | none => rw [ho] at hv; cases hv
      | some tk =>
        rw [ho] at hv
        have hv' : v0 = .ref tk := (Option.some.inj hv).symm
        subst hv'
        obtain ⟨t, hti, htk⟩ := hts.get ho
        have hil : i < ts.length := (List.getElem?_eq_some_iff.mp hti).1
        have ed : ts.drop i = t :: ts.drop (i + 1) := by
          rw [List.drop_eq_getElem_cons hil]
          congr 1
          exact (List.getElem?_eq_some_iff.mp hti).2
        have tok1 := tok t (List.mem_of_getElem? hti)
        rw [ed, hearAll_cons] at eq2
        cases hh : hear p s2 e2 t with
        | none => rw [hh] at eq2; cases eq2
        | some y =>
          obtain ⟨s3, e3, told3⟩ := y
          rw [hh] at eq2
          obtain ⟨G3, hlen3⟩ := G2.hear tok1 hh
          obtain ⟨dx2, h2⟩ := S2.ins
          walk_at "v"
          refine ⟨_, _, _, rfl, h2, rfl, ?_⟩
          walk_at "v"
          refine ⟨F2, st, c, a, l, fs2, p, s2, e2, tk, t, rfl, g2.same, S2, G2, htk.mono (g2.held sF), tok1, fun h0 => (by rw [h0] at hh; cases hh), fun s3' e3' told3' hh' H3 F3 fs3 r g3 S3 sub3 hr3 => ?_⟩
          rw [hh] at hh'
          simp only [Option.some.injEq, Prod.mk.injEq] at hh'
          obtain ⟨rfl, rfl, rfl⟩ := hh'
          have nr3 : ra ∉ c :: a :: l :: fs3 := fun hb => by
            rcases List.mem_cons.mp hb with hb | hb
            · exact nra2 (by simp [hb])
            · rcases List.mem_cons.mp hb with hb | hb
              · exact nra2 (by simp [hb])
              · rcases List.mem_cons.mp hb with hb | hb
                · exact nra2 (by simp [hb])
                · rcases sub3 ra hb with h | h
                  · exact nra2 (by simp [h])
                  · rw [hra2] at h; cases h
          have hra3 := g3.keep _ _ hra2 nra2
          have hraF3 : F3 ra = none := g3.free (by rw [hra2]; intro z; cases z) hraF
          have sub' : ∀ b ∈ fs3, b ∈ fs ∨ H b = none := fun b hb => by
            rcases sub3 b hb with h | h
            · exact sub b h
            · refine .inr ?_
              cases z : H b with
              | none => rfl
              | some o => exact absurd h (g2.dom b (by rw [z]; intro y; cases y))
          have g23 : Go (c :: a :: l :: fs) H F H3 F3 := g2.trans g3 (by
            intro b hb hb0
            rcases List.mem_cons.mp hb with hb | hb
            · simp [hb]
            · rcases List.mem_cons.mp hb with hb | hb
              · simp [hb]
              · rcases List.mem_cons.mp hb with hb | hb
                · simp [hb]
                · rcases sub b hb with h | h
                  · simp [h]
                  · exact absurd h hb0)
          have hrr := g3.same _ _ hr3
          dsimp only [gName]
          walk_at "v"
          refine ⟨r, _, rfl, .inl (SqL.of hrr), ?_⟩
          walk_at "v"
          have hli : (intsV told3).length = told3.length := by simp [intsV]
          have hli2 : (intsV told2).length = told2.length := by simp [intsV]
          have hfew := G3.ok.few
          cases told3 with
          | nil =>
            refine if_neg_of rfl ?_
            refine ⟨F3, fs3, s3, e3, n2, told2, _, _, rfl, g23, S3, sub', nr3, hra3, hraF3, G3, ?_, ?_⟩
            · simp only [List.length_nil] at hlen3; omega
            · rw [← eq2]
              simp [Option.map_map, Function.comp_def]
          | cons z zs =>
            refine if_pos_of (by rw [hli]; exact decide_eq_true (by simp)) ?_
            walk_at "v"
            refine ⟨.inl ⟨rfl, _, SqL.of hra3⟩, ?_⟩
            walk_at "v"
            refine ⟨ra, r, _, _, rfl, rfl, hra3, hrr, by rw [hli, hli2, sizeLine_eq]; omega, ?_⟩
            have g4 : Go [ra] H3 F3 _ F3 := Go.put (o := .lst (intsV told2 ++ intsV (z :: zs))) g3.same (by simp) hraF3
            refine ⟨F3, fs3, s3, e3, n2 + 1, told2 ++ (z :: zs), _, _, rfl, g23.trans g4 (by intro b hb hb0; simp at hb; rw [hb] at hb0; exact absurd hra hb0), S3.go g4 g3.same ?_, sub', nr3, ?_, hraF3, G3, ?_, ?_⟩
            · intro b hb
              simp only [List.mem_singleton]
              intro y
              rcases List.mem_cons.mp hb with h | h
              · exact nra b (by rw [h, h1]; intro y; cases y) y.symm
              · exact nr3 (y ▸ h)
            · rw [upd_same]
              simp [intsV]
            · simp only [List.length_append]; omega
            · rw [← eq2]
              simp [Option.map_map, Function.comp_def, Nat.add_assoc]
    · rintro σ H2 ⟨F2, fs2, s2, e2, n2, told2, u, v, rfl, g2, S2, sub, nra2, hra2, hraF, G2, hlen, eq2⟩
      rw [List.length_map, hts.length, List.drop_length] at eq2
      simp only [hearAll, Option.map_some, Option.some.injEq, Prod.mk.injEq, Nat.add_zero, List.append_nil] at eq2
      obtain ⟨rfl, rfl, rfl, rfl⟩ := eq2
      have hfew := G2.ok.few
      walk_at "v"
      refine ⟨by show 1 ≤ sizeLine; decide, fun l1 hl1 => ?_⟩
      have s4 := upd_same_of (o := HO.lst [V.int (n2 : Int)]) hl1
      have hl4 : upd H2 l1 (.lst [V.int (n2 : Int)]) l1 = _ := upd_same
      generalize upd H2 l1 (.lst [V.int (n2 : Int)]) = H4 at s4 hl4 ⊢
      walk_at "v"
      have hli : (intsV told2).length = told2.length := by simp [intsV]
      refine ⟨l1, ra, _, _, rfl, rfl, hl4, s4 _ _ hra2, by rw [hli, sizeLine_eq]; simp; omega, fun r hr2 => ?_⟩
      have s5 := upd_same_of (o := HO.lst ([V.int (n2 : Int)] ++ intsV told2)) hr2
      have s25 := s4.trans s5
      have g5 : Go [] H2 F2 _ _ := Go.new (S := []) g2.same s25
      refine q _ _ fs2 r (g2.trans g5 (by simp)) (S2.go g5 g2.same (by simp)) sub ?_
      rw [Gr.new (s4.free hr2)]
      exact upd_same
end
end TS
end
section
set_option Elab.async false
set_option linter.all false
namespace TS
open Vapaqf (Head Way Token Test matches_ faultOf Plan)
open Vapaqa (Text Name stepText placeText textBefore off isSmall isDigit isSign isName)
theorem off_len {w s r : Text} (h : off w s = some r) : s.length = w.length + r.length := by
  have := off_eq h
  rw [this]
  simp
theorem rdName_ok {s n r : Text} (h : rdName s = some (n, r)) : (n ≠ [] ∧ n.length ≤ 10) ∧ r.length < s.length := by
  obtain ⟨h1, h2⟩ := rdName_sound h
  have hne := isName_ne h2
  have hl : n.length ≤ 10 := by
    unfold isName at h2
    simp only [Bool.and_eq_true, decide_eq_true_eq] at h2
    first | exact h2.1.2 | exact h2.2.1 | exact h2.1 | exact h2.2.2 | simp_all
  refine ⟨⟨hne, hl⟩, ?_⟩
  rw [h1, List.length_append]
  cases n with
  | nil => exact absurd rfl hne
  | cons _ _ => simp
theorem leafText_ne {v : Vapaqa.Tree} (h : LeafOk v) : 1 ≤ (Vapaqa.treeText v).length := by
  rcases leaf_cases h with rfl | ⟨b, rfl⟩ | ⟨z, rfl, -⟩ | ⟨u, rfl, -⟩
  · decide
  · cases b <;> decide
  · rw [treeText_num]
    unfold Vapaqa.integer
    split
    · simp
    · unfold Vapaqa.decimal
      rw [digitsFrom_succ]
      split <;> simp
  · rw [treeText_text]
    simp [Vapaqa.quoted]
theorem rdHead_ok {s r : Text} {v : Token} (h : rdHead s = some (v, r)) : TokOk v ∧ begins v = true ∧ r.length < s.length ∧ s = Vapaqf.tokenText v ++ r := by
  unfold rdHead at h
  split at h
  · rename_i x hx
    simp only [Option.some.injEq, Prod.mk.injEq] at h
    obtain ⟨rfl, rfl⟩ := h
    have := off_len hx
    exact ⟨trivial, rfl, by simp at this; omega, off_eq hx⟩
  · split at h
    · rename_i x hx
      simp only [Option.some.injEq, Prod.mk.injEq] at h
      obtain ⟨rfl, rfl⟩ := h
      have := off_len hx
      exact ⟨trivial, rfl, by simp at this; omega, off_eq hx⟩
    · cases hl : rdLeaf s with
      | none => rw [hl] at h; cases h
      | some y =>
        rw [hl] at h
        simp only [Option.map_some, Option.some.injEq, Prod.mk.injEq] at h
        obtain ⟨rfl, rfl⟩ := h
        obtain ⟨h1, h2⟩ := rdLeaf_sound (v := y.1) (r := y.2) hl
        have := leafText_ne h2
        refine ⟨h2, rfl, ?_, h1⟩
        have h3 := congrArg List.length h1
        rw [List.length_append] at h3
        omega
theorem rdNameTok_ok {s r : Text} {v : Token} (h : rdNameTok s = some (v, r)) : TokOk v ∧ r.length < s.length ∧ (∃ n, v = .name n ∧ isName n = true) ∧ s = Vapaqf.tokenText v ++ r := by
  unfold rdNameTok at h
  cases hn : rdName s with
  | none => rw [hn] at h; cases h
  | some y =>
    rw [hn, Option.bind_some] at h
    cases ho : off [58] y.2 with
    | none => rw [ho] at h; cases h
    | some u =>
      rw [ho] at h
      simp only [Option.map_some, Option.some.injEq, Prod.mk.injEq] at h
      obtain ⟨rfl, rfl⟩ := h
      obtain ⟨h1, h2⟩ := rdName_ok (n := y.1) (r := y.2) hn
      obtain ⟨h4, h5⟩ := rdName_sound (n := y.1) (r := y.2) hn
      have h3 := off_len ho
      refine ⟨h1, by simp at h3; omega, ⟨y.1, rfl, h5⟩, ?_⟩
      show s = (y.1 ++ [58]) ++ u
      rw [List.append_assoc]
      rw [← off_eq ho]
      exact h4
theorem seesEnd_cons {s : Text} (h : seesEnd s = true) : ∃ c r, s = c :: r := by
  cases s with
  | nil => exact absurd h (by decide)
  | cons c r => exact ⟨c, r, rfl⟩
theorem nextTok_ok {s r : Text} {sh : Shp} {v : Token} (h : nextTok s sh = some (v, r)) : TokOk v ∧ r.length < s.length := by
  unfold nextTok at h
  split at h
  · rename_i hs
    obtain ⟨c, r2, rfl⟩ := seesEnd_cons hs
    simp only [rdEnd, Option.some.injEq, Prod.mk.injEq] at h
    obtain ⟨rfl, rfl⟩ := h
    exact ⟨trivial, by simp⟩
  · cases hu : (if sh.awaitsComma = true then off [44, 32] s else some s) with
    | none => rw [hu] at h; cases h
    | some u =>
      rw [hu, Option.bind_some] at h
      have hul : u.length ≤ s.length := by
        split at hu
        · have := off_len hu; omega
        · rw [← Option.some.inj hu]; exact Nat.le_refl _
      split at h
      · cases hn : rdNameTok u with
        | none => rw [hn] at h; cases h
        | some y =>
          rw [hn, Option.bind_some] at h
          cases ho : off [32] y.2 with
          | none => rw [ho] at h; cases h
          | some z =>
            rw [ho] at h
            simp only [Option.map_some, Option.some.injEq, Prod.mk.injEq] at h
            obtain ⟨rfl, rfl⟩ := h
            obtain ⟨h1, h2, -⟩ := rdNameTok_ok (v := y.1) (r := y.2) hn
            have := off_len ho
            exact ⟨h1, by omega⟩
      · obtain ⟨h1, -, h2, -⟩ := rdHead_ok h
        exact ⟨h1, by omega⟩
theorem toks_fuel : ∀ (f g : Nat) (sh : Shp) (s : Text), s.length < f → s.length < g → toks f sh s = toks g sh s
  | 0, _, _, _, h, _ => by omega
  | _ + 1, 0, _, _, _, h => by omega
  | f + 1, g + 1, sh, s, h1, h2 => by
    unfold toks
    split
    · rfl
    · cases hn : nextTok s sh with
      | none => rfl
      | some x =>
        obtain ⟨-, hl⟩ := nextTok_ok (v := x.1) (r := x.2) hn
        simp only [Option.bind_some]
        cases sh.come x.1 with
        | none => rfl
        | some y =>
          simp only [Option.bind_some]
          rw [toks_fuel f g y.1 x.2 (by omega) (by omega)]
def toksOf (sh : Shp) (s : Text) : Option (List Token) := toks (s.length + 1) sh s
theorem toksOf_eq (sh : Shp) (s : Text) : toksOf sh s = if sh.isWhole = true then (if s = [] then some [] else none)
    else (nextTok s sh).bind fun x => (sh.come x.1).bind fun y => (toksOf y.1 x.2).map fun l => x.1 :: l := by
  unfold toksOf
  conv => lhs; unfold toks
  split
  · rfl
  · cases hn : nextTok s sh with
    | none => rfl
    | some x =>
      obtain ⟨-, hl⟩ := nextTok_ok (v := x.1) (r := x.2) hn
      simp only [Option.bind_some]
      cases sh.come x.1 with
      | none => rfl
      | some y =>
        simp only [Option.bind_some]
        rw [toks_fuel s.length (x.2.length + 1) y.1 x.2 (by omega) (by omega)]
theorem treeToks_eq (t : Text) : treeToks t = toksOf .fresh t := rfl
theorem toks_ok : ∀ (f : Nat) (sh : Shp) (s : Text) (ts : List Token), toks f sh s = some ts → (∀ t ∈ ts, TokOk t) ∧ ∃ s', comeAll sh ts = some s' ∧ s'.isWhole = true
  | 0, _, _, _, h => by cases h
  | f + 1, sh, s, ts, h => by
    unfold toks at h
    split at h
    · rename_i hw
      split at h
      · rw [← Option.some.inj h]
        exact ⟨fun t ht => (nomatch ht), sh, rfl, hw⟩
      · cases h
    · cases hn : nextTok s sh with
      | none => rw [hn] at h; cases h
      | some x =>
        rw [hn, Option.bind_some] at h
        obtain ⟨h1, hl⟩ := nextTok_ok (v := x.1) (r := x.2) hn
        cases hc : sh.come x.1 with
        | none => rw [hc] at h; cases h
        | some y =>
          rw [hc, Option.bind_some] at h
          cases ht : toks f y.1 x.2 with
          | none => rw [ht] at h; cases h
          | some l =>
            rw [ht] at h
            simp only [Option.map_some, Option.some.injEq] at h
            obtain ⟨k1, s', k2, k3⟩ := toks_ok f y.1 x.2 l ht
            rw [← h]
            refine ⟨fun t ht => ?_, s', ?_, k3⟩
            · rcases List.mem_cons.mp ht with rfl | ht
              · exact h1
              · exact k1 t ht
            · unfold comeAll
              rw [hc]
              exact k2
end TS
end
section
set_option Elab.async false
set_option linter.all false
set_option maxRecDepth 100000
set_option maxHeartbeats 4000000
namespace TS
open PySem PySem.Spec PyProof.Rows L2
open Vapaqf (Head Way Token Test matches_ faultOf Plan)
open Vapaqa (Text Name stepText placeText textBefore off isSmall isDigit isSign)
local macro_rules | `(tactic| walk_at "v") => `(tactic| repeat (first | refine ⟨_, rfl, ?_⟩ | refine ⟨_, _, rfl, rfl, ?_⟩ | refine ⟨_, _, rfl, ?_⟩))
local macro_rules | `(tactic| walk_at "few") => `(tactic| first | decide | (show 0 < 1000; decide) | (show 1 < 1000; decide) | (show 2 < 1000; decide) | (show 3 < 1000; decide) | (show 4 < 1000; decide) | (show 5 < 1000; decide) | (show 6 < 1000; decide))
theorem Go.gr {S : List Addr} {H F H' F' : Hp} (g : Go S H F H' F') : Same F' (Gr H F H') := fun b o e => by
  cases h : H b with
  | none =>
    rw [Gr.new h]
    exact g.same _ _ e
  | some u =>
    rw [Gr.old h, ← g.grow b (by rw [h]; intro z; cases z)]
    exact e
def spNextTok (K : PySem.W.Frag) : Sp := fun vs H Q E => ∃ (F : Hp) (ta : Addr) (t : Text) (i : Nat) (a l : Addr) (fs : List Addr) (sh : Shp), vs = [.ref ta, .int i, .ref a] ∧ Same F H ∧ TextAt F ta t ∧ i ≤ t.length ∧ ShAt K F H a l fs sh ∧
  (∀ v r, nextTok (t.drop i) sh = some (v, r) → ∀ (H' : Hp) (p k : Addr) (e : Nat), Same H H' → H' p = some (.tup [.ref k, .int e]) → TokAt K (Gr H F H') k v → t.drop e = r → e ≤ t.length → Q (.ref p) H') ∧
  (nextTok (t.drop i) sh = none → ∀ H', Same H H' → E (CW K) none H')
def spTreeToks (K : PySem.W.Frag) : Sp := fun vs H Q E => ∃ (F : Hp) (ta : Addr) (t : Text), vs = [.ref ta] ∧ Same F H ∧ TextAt F ta t ∧ t.length ≤ 100000 ∧
  (∀ ts, treeToks t = some ts → ∀ (H' : Hp) (p : Addr), Same H H' → H p = none → TokL K (Gr H F H') p ts → Q (.ref p) H') ∧
  (treeToks t = none → ∀ H', Same H H' → E (CW K) none H')
section
variable {P : Program} {w : World} {K : PySem.W.Frag} {mg : Str → Option Value} {base : Heap}
theorem ok_next_token (T : Facts K mg) : OkFn P w K mg base (L2.CX P w) 7 (He.ga K "next_token") 3 (spNextTok K) := by
  refine mk_fn T.d_next_token sc_next_token (fun _ _ _ _ _ _ us hl => match us, hl with | [_, _, _], _ => rfl) (fun vs H Q E h => ?_) (fun cdv A outer s H vs Q E hr h => ?_)
  · obtain ⟨_, _, _, _, _, _, _, _, rfl, _⟩ := h
    rfl
  · obtain ⟨F, ta, t, i, a, l, fs, sh, rfl, sF, hF, hi, S, q1, q2⟩ := h
    have ha : TextAt H ta t := sF _ _ hF
    obtain ⟨dx, h1⟩ := S.ins
    refine ⟨_, (pss_cons (ps_if (pt_val (c_fn (ok_sees_end T) (hr.mono (by decide)) rfl T.g_sees_end pass0 (pa_cons (pv 0) (pa_cons (pv 1) pa_nil))))
        (pss_one (ps_ret (c_fn (ok_read_end T) (hr.mono (by decide)) rfl T.g_read_end pass0 (pa_cons (pv 0) (pa_cons (pv 1) pa_nil)))))
        pss_nil)
      (pss_cons (ps_if (pt_val (c_meth0 (pv 2) T.c_Shape T.m_Shape_awaits_comma (ok_Shape_awaits_comma T) (hr.mono (by decide)) pass0))
        (pss_one (ps_set (i := 1) sc_next_token.nd rfl (.inl rfl) (c_fn (ok_behind T) (hr.mono (by decide)) rfl T.g_behind (pX (takes_of rfl rfl rfl rfl)) (pa_cons (pv 0) (pa_cons (pv 1) (pa_cons pe_str pa_nil))))))
        pss_nil)
      (pss_cons (ps_if (pt_not (pt_val (c_meth0 (pv 2) T.c_Shape T.m_Shape_awaits_name (ok_Shape_awaits_name T) (hr.mono (by decide)) pass0)))
        (pss_one (ps_ret (c_fn (ok_read_head T) (hr.mono (by decide)) rfl T.g_read_head (pX (takes_of rfl rfl rfl rfl)) (pa_cons (pv 0) (pa_cons (pv 1) pa_nil)))))
        pss_nil)
      (pss_cons (ps_asg (c_fn (ok_read_name_token T) (hr.mono (by decide)) rfl T.g_read_name_token (pX (takes_of rfl rfl rfl rfl)) (pa_cons (pv 0) (pa_cons (pv 1) pa_nil))) (pg_tup rfl (pgs_cons (pg_name (i := 3) sc_next_token.nd rfl (.inl rfl)) (pgs_cons (pg_name (i := 4) sc_next_token.nd rfl (.inl rfl)) pgs_nil))))
      (pss_one (ps_ret (pe_tup (pa_cons (pv 3) (pa_cons (c_fn (ok_behind T) (hr.mono (by decide)) rfl T.g_behind (pX (takes_of rfl rfl rfl rfl)) (pa_cons (pv 0) (pa_cons (pv 4) (pa_cons pe_str pa_nil)))) pa_nil))))))))), ?_⟩
    walk_at "v"
    refine ⟨ta, t, i, rfl, ha, hi, fun H1 s1 => ?_⟩
    walk_at "v"
    unfold nextTok at q1 q2
    cases hs : seesEnd (t.drop i) with
    | true =>
      rw [hs, if_pos rfl] at q1 q2
      refine if_pos_of rfl ?_
      walk_at "v"
      refine ⟨Gr H F H1, ta, t, i, rfl, Gr.down' sF s1, Gr.up sF _ _ _ hF, hi, hs, fun v r hv H2 p k e s2 hp hk hd he => ?_, fun hno => by cases hno⟩
      exact q1 v r hv H2 p k e (s1.trans s2) hp (hk.mono (Gr.trans' s1 s2)) hd he
    | false =>
      rw [hs, if_neg (by simp)] at q1 q2
      refine if_neg_of rfl ?_
      dsimp only [tNext]
      refine seq_cut (R := fun σ' H2 => ∃ j : Nat, σ' = [some (.ref ta), some (.int j), some (.ref a), none, none] ∧ Same H H2 ∧ j ≤ t.length ∧ (if sh.awaitsComma = true then off [44, 32] (t.drop i) else some (t.drop i)) = some (t.drop j)) (fun nx kx => ?_) ?_
      · refine ⟨_, rfl, _, _, _, rfl, s1 _ _ h1, rfl, ?_⟩
        refine ⟨F, a, l, fs, sh, rfl, sF.trans s1, S.go (S := []) (Go.idle sF s1) sF (by simp), ?_⟩
        walk_at "v"
        cases hcm : sh.awaitsComma with
        | false =>
          refine if_neg_of rfl ?_
          exact kx _ _ ⟨i, rfl, s1, hi, by rw [hcm]; rfl⟩
        | true =>
          rw [hcm, if_pos rfl] at q2
          refine if_pos_of rfl ?_
          walk_at "v"
          refine ⟨ta, t, i, _, [44, 32], rfl, s1 _ _ ha, rfl, by decide, hi, fun r hr2 H2 s2 => ?_, fun hno H2 s2 => ?_⟩
          · obtain ⟨e1, e2, -⟩ := off_drop hr2
            rw [List.drop_drop] at e1
            rw [List.length_drop] at e2
            refine kx _ _ ⟨i + 2, rfl, s1.trans s2, by simp at e2; omega, ?_⟩
            rw [hcm, if_pos rfl, hr2, e1]
            rfl
          · refine q2 ?_ H2 (s1.trans s2)
            rw [hno]
            rfl
      · rintro σ' H2 ⟨j, rfl, s2, hj, ej⟩
        rw [ej, Option.bind_some] at q1 q2
        refine ⟨_, rfl, _, _, _, rfl, s2 _ _ h1, rfl, ?_⟩
        refine ⟨F, a, l, fs, sh, rfl, sF.trans s2, S.go (S := []) (Go.idle sF s2) sF (by simp), ?_⟩
        walk_at "v"
        cases haw : sh.awaitsName with
        | false =>
          rw [haw, if_neg (by simp)] at q1 q2
          refine if_pos_of rfl ?_
          walk_at "v"
          refine ⟨Gr H F H2, ta, t, j, rfl, Gr.down' sF s2, Gr.up sF _ _ _ hF, hj, trivial, fun v r hv H3 p k e s3 hp hk hd he => ?_, fun hno H3 s3 => q2 hno H3 (s2.trans s3)⟩
          exact q1 v r hv H3 p k e (s2.trans s3) hp (hk.mono (Gr.trans' s2 s3)) hd he
        | true =>
          rw [haw, if_pos rfl] at q1 q2
          refine if_neg_of rfl ?_
          walk_at "v"
          refine ⟨Gr H F H2, ta, t, j, rfl, Gr.down' sF s2, Gr.up sF _ _ _ hF, hj, trivial, fun v r hv H3 p k e s3 hp hk hd he => ?_, fun hno H3 s3 => q2 (by rw [hno]; rfl) H3 (s2.trans s3)⟩
          rw [hv, Option.bind_some] at q1 q2
          have s23 := s2.trans s3
          refine ⟨p, _, rfl, SqT.of hp, rfl, ?_⟩
          refine ⟨_, _, rfl, _, _, rfl, rfl, ?_⟩
          dsimp only [gName]
          walk_at "v"
          refine ⟨ta, t, e, _, [32], rfl, s23 _ _ ha, rfl, by decide, he, fun r2 hr2 H4 s4 => ?_, fun hno H4 s4 => ?_⟩
          · rw [hd] at hr2
            obtain ⟨e1, e2, -⟩ := off_drop hr2
            walk_at "v"
            refine ⟨by show 2 ≤ sizeLine; decide, fun p2 hp2 => ?_⟩
            have s5 := upd_same_of (o := HO.tup [V.ref k, V.int ((e + 1 : Nat) : Int)]) hp2
            refine q1 v r2 (by rw [hr2]; rfl) _ p2 k (e + 1) (s23.trans (s4.trans s5)) upd_same ((hk.mono (Gr.trans' s2 s3)).mono (Gr.more (s4.trans s5))) ?_ ?_
            · rw [← List.drop_drop, hd, e1]
              rfl
            · have := congrArg List.length hd
              rw [List.length_drop] at this
              simp at e2
              omega
          · rw [hd] at hno
            refine q2 ?_ H4 (s23.trans s4)
            rw [hno]
            rfl
theorem ok_tree_tokens (T : Facts K mg) : OkFn P w K mg base (L2.CX P w) 8 (He.ga K "tree_tokens") 1 (spTreeToks K) := by
  refine mk_fn T.d_tree_tokens sc_tree_tokens (fun _ _ _ _ _ _ us hl => match us, hl with | [_], _ => rfl) (fun vs H Q E h => ?_) (fun cdv A outer s H vs Q E hr h => ?_)
  · obtain ⟨_, _, _, rfl, _⟩ := h
    rfl
  · obtain ⟨F, ta, t, rfl, sF, hF, hlen, q1, q2⟩ := h
    have ha : TextAt H ta t := sF _ _ hF
    refine ⟨_, (pss_cons (ps_set (i := 1) sc_tree_tokens.nd rfl (.inl rfl) (c_make0 T.k_Shape (ok_Shape_init T) (hr.mono (by decide)) rfl T.g_Shape pass0))
      (pss_cons (ps_set (i := 2) sc_tree_tokens.nd rfl (.inl rfl) (pe_lst pa_nil))
      (pss_cons (ps_set (i := 3) sc_tree_tokens.nd rfl (.inl rfl) pe_int)
      (pss_cons (ps_while (passes_of rfl) (pt_not (pt_val (c_meth0 (pv 1) T.c_Shape T.m_Shape_is_whole (ok_Shape_is_whole T) (hr.mono (by decide)) pass0)))
        (pss_cons (ps_asg (c_fn (ok_next_token T) (hr.mono (by decide)) rfl T.g_next_token (pX (takes_of rfl rfl rfl rfl)) (pa_cons (pv 0) (pa_cons (pv 3) (pa_cons (pv 1) pa_nil)))) (pg_tup rfl (pgs_cons (pg_name (i := 4) sc_tree_tokens.nd rfl (.inl rfl)) (pgs_cons (pg_name (i := 3) sc_tree_tokens.nd rfl (.inl rfl)) pgs_nil))))
        (pss_cons (ps_if (pt_not (pt_val (c_meth (pv 1) T.c_Shape T.m_Shape_can_come (ok_Shape_can_come T) (hr.mono (by decide)) pass0 (pa_cons (pv 4) pa_nil))))
          (pss_one (rz_W T rfl rfl (takes_of rfl rfl rfl rfl)))
          pss_nil)
        (pss_cons (ps_expr (c_meth (pv 1) T.c_Shape T.m_Shape_come (ok_Shape_come T) (hr.mono (by decide)) (pX (takes_of rfl rfl rfl rfl)) (pa_cons (pv 4) pa_nil)))
        (pss_one (ps_expr (pe_bm PySem.F.plainAttrs_list PySem.F.slot_list_append PySem.F.type_list_append mt_append (pv 2) (pa_cons (pv 4) pa_nil))))))))
      (pss_cons (ps_if (pt_cmpR op_ne (pv 3) (pe_callB call_len_seq (by rfl) T.f_len boot_len (pa_cons (pv 0) pa_nil)) (nomark _))
        (pss_one (rz_W T rfl rfl (takes_of rfl rfl rfl rfl)))
        pss_nil)
      (pss_one (ps_ret (pv 2)))))))), ?_⟩
    have free : ∀ {b : Addr}, H b = none → F b = none := fun {b} e => by
      cases z : F b with
      | none => rfl
      | some o => have := sF _ _ z; rw [e] at this; cases this
    intro a dxa ha0 hdxa hne
    refine ⟨a, dxa, rfl, upd_same, fun H1 l hi hl hl' k1 => ⟨rfl, ?_⟩⟩
    have s1 : Same H H1 := Same.made ha0 hdxa k1
    have hla : l ≠ a := fun z => by rw [z, upd_same] at hl; cases hl
    have hl0 : H l = none := by
      rw [upd_ne hla] at hl
      by_cases z : l = dxa
      · rw [z, upd_same] at hl; cases hl
      · rw [upd_ne z] at hl; exact hl
    have g1 : Go [] H F H1 F := Go.idle sF s1
    have S1 : ShAt K F H1 a l [] .fresh := ⟨free ha0, free hl0, ⟨dxa, hi⟩, hl', trivial, List.nodup_nil, by simp, by simp, hla.symm⟩
    dsimp only [gName]
    refine ⟨by show 0 ≤ sizeLine; exact Nat.zero_le _, fun tp htp => ?_⟩
    have s2 := upd_same_of (o := HO.lst []) htp
    have htp1 : upd H1 tp (.lst []) tp = some (.lst (([] : List Addr).map V.ref)) := upd_same
    have g2 : Go [] H1 F (upd H1 tp (.lst [])) F := Go.idle g1.same s2
    have S2 := S1.go g2 g1.same (by simp)
    have g12 := g1.trans g2 (by simp)
    have htp0 : H tp = none := s1.free htp
    have htpn : tp ∉ a :: l :: ([] : List Addr) := fun hb => S1.has tp hb htp
    generalize upd H1 tp (.lst []) = H2 at s2 htp1 g2 S2 g12 ⊢
    dsimp only [gName]
    show tSeq (tWhile _ _) _ _ [some (.ref ta), some (.ref a), some (.ref tp), some (.int (0 : Nat)), none] H2
    refine seq_cut (R := fun σ' H3 => ∃ (F3 : Hp) (as : List Addr) (j : Nat) (ds : List Token) (u v : Option V), σ' = [some (.ref ta), some (.ref a), some (.ref tp), some (.int j), u] ∧ Go [] H F H3 F3 ∧ H3 tp = some (.lst (as.map V.ref)) ∧ ToksAt K F3 as ds ∧ j ≤ t.length ∧ treeToks t = if t.drop j = [] then some ds else none) (fun nx kx => ?_) ?_
    · refine ⟨fun m σ H3 => ∃ (F3 : Hp) (fs : List Addr) (sh : Shp) (as : List Addr) (j : Nat) (ds : List Token) (u : Option V), m = t.length - j ∧ σ = [some (.ref ta), some (.ref a), some (.ref tp), some (.int j), u] ∧ Go [] H F H3 F3 ∧ ShAt K F3 H3 a l fs sh ∧ (∀ b ∈ a :: l :: fs, H b = none) ∧ tp ∉ a :: l :: fs ∧ F3 tp = none ∧ H3 tp = some (.lst (as.map V.ref)) ∧ ToksAt K F3 as ds ∧ j ≤ t.length ∧ sh.Ok ∧ as.length ≤ j ∧ treeToks t = (toksOf sh (t.drop j)).map (fun l => ds ++ l),
        ⟨t.length, F, [], .fresh, [], 0, [], none, rfl, rfl, g12, S2, ?_, htpn, free htp0, htp1, trivial, Nat.zero_le _, .fresh, Nat.le_refl _, ?_⟩, ?_⟩
      · intro b hb
        simp only [List.mem_cons, List.not_mem_nil, or_false] at hb
        rcases hb with rfl | rfl
        · exact ha0
        · exact hl0
      · rw [treeToks_eq, List.drop_zero]
        cases toksOf .fresh t <;> simp
      · rintro m σ H3 ⟨F3, fs, sh, as, j, ds, u, rfl, rfl, g3, S3, fr, ntp, tpF, htp3, hts, hj, O, hasl, eq⟩
        obtain ⟨dx3, h3⟩ := S3.ins
        refine ⟨_, rfl, _, _, _, rfl, h3, rfl, ?_⟩
        refine ⟨F3, a, l, fs, sh, rfl, g3.same, S3, ?_⟩
        rw [toksOf_eq] at eq
        walk_at "v"
        cases hw : sh.isWhole with
        | true =>
          refine if_neg_of rfl ?_
          rw [hw, if_pos rfl] at eq
          refine kx _ _ ⟨F3, as, j, ds, _, none, rfl, g3, htp3, hts, hj, ?_⟩
          rw [eq]
          split <;> simp
        | false =>
          refine if_pos_of rfl ?_
          rw [hw, if_neg (by simp)] at eq
          refine ⟨fun σ' H4 => ∃ m', m' < t.length - j ∧ ∃ (F3 : Hp) (fs : List Addr) (sh : Shp) (as : List Addr) (j : Nat) (ds : List Token) (u : Option V), m' = t.length - j ∧ σ' = [some (.ref ta), some (.ref a), some (.ref tp), some (.int j), u] ∧ Go [] H F H4 F3 ∧ ShAt K F3 H4 a l fs sh ∧ (∀ b ∈ a :: l :: fs, H b = none) ∧ tp ∉ a :: l :: fs ∧ F3 tp = none ∧ H4 tp = some (.lst (as.map V.ref)) ∧ ToksAt K F3 as ds ∧ j ≤ t.length ∧ sh.Ok ∧ as.length ≤ j ∧ treeToks t = (toksOf sh (t.drop j)).map (fun l => ds ++ l), fun _ _ z => z, ?_⟩
          walk_at "v"
          have hF3 := g3.held sF
          refine ⟨F3, ta, t, j, a, l, fs, sh, rfl, g3.same, hF3 _ _ hF, hj, S3, fun v r hv H4 p k e s4 hp hk hd he => ?_, fun hno H4 s4 => ?_⟩
          rotate_left
          · refine q2 ?_ H4 fun b o e => s4 _ _ (g3.keep _ _ e (by simp))
            rw [eq, hno]
            rfl
          rw [hv, Option.bind_some] at eq
          obtain ⟨tok, hlt⟩ := nextTok_ok hv
          have hje : j < e := by
            rw [← hd, List.length_drop, List.length_drop] at hlt
            omega
          refine ⟨p, _, rfl, SqT.of hp, rfl, ?_⟩
          refine ⟨_, _, rfl, _, _, rfl, rfl, ?_⟩
          have g4 : Go [] H3 F3 H4 _ := Go.new (S := []) g3.same s4
          have S4 := S3.go g4 g3.same (by simp)
          have tpF4 : Gr H3 F3 H4 tp = none := g4.free (by rw [htp3]; intro z; cases z) tpF
          have hts4 := hts.mono (g4.held g3.same)
          generalize Gr H3 F3 H4 = F4 at g4 S4 hk tpF4 hts4
          dsimp only [gName]
          refine ⟨_, rfl, _, _, _, rfl, s4 _ _ h3, rfl, ?_⟩
          walk_at "v"
          refine ⟨F4, a, l, fs, sh, k, v, rfl, g4.same, S4, hk, fun H5 s5 => ?_⟩
          walk_at "v"
          cases hcan : sh.canCome v with
          | false =>
            have hc : sh.come v = none := by unfold Shp.come; rw [if_neg (by rw [hcan]; exact Bool.false_ne_true)]
            refine if_pos_of rfl ?_
            refine q2 ?_ H5 fun b o e => s5 _ _ (s4 _ _ (g3.keep _ _ e (by simp)))
            rw [eq, hc]
            rfl
          | true =>
            refine if_neg_of rfl ?_
            have g5 : Go [] H4 F4 H5 F4 := Go.idle g4.same s5
            have S5 := S4.go g5 g4.same (by simp)
            have htp5 := s5 _ _ (s4 _ _ htp3)
            have g35 := (g3.trans g4 (by simp)).trans g5 (S := []) (by simp)
            have hn : ∀ n, v = .name n → n ≠ [] := fun n e => by subst e; exact tok.1
            have fin : ∀ (s6 : Shp) (o : Option Pl) (H6 F6 : Hp) (fs6 : List Addr), sh.come v = some (s6, o) → Go (a :: l :: fs) H5 F4 H6 F6 → ShAt K F6 H6 a l fs6 s6 → (∀ b ∈ fs6, b ∈ fs ∨ H5 b = none) →
                ∃ lp xs y, V.ref tp = .ref lp ∧ [V.ref k] = [y] ∧ H6 lp = some (.lst xs) ∧ xs.length < sizeLine ∧ ∃ m', m' < t.length - j ∧ ∃ (F3 : Hp) (fs : List Addr) (sh : Shp) (as : List Addr) (j : Nat) (ds : List Token) (u : Option V), m' = t.length - j ∧ [some (.ref ta), some (.ref a), some (.ref tp), some (.int (e : Int)), some (.ref k)] = [some (.ref ta), some (.ref a), some (.ref tp), some (.int j), u] ∧ Go [] H F (upd H6 lp (.lst (xs ++ [y]))) F3 ∧ ShAt K F3 (upd H6 lp (.lst (xs ++ [y]))) a l fs sh ∧ (∀ b ∈ a :: l :: fs, H b = none) ∧ tp ∉ a :: l :: fs ∧ F3 tp = none ∧ (upd H6 lp (.lst (xs ++ [y]))) tp = some (.lst (as.map V.ref)) ∧ ToksAt K F3 as ds ∧ j ≤ t.length ∧ sh.Ok ∧ as.length ≤ j ∧ treeToks t = (toksOf sh (t.drop j)).map (fun l => ds ++ l) := by
              intro s6 o H6 F6 fs6 hc g6 S6 sub
              rw [hc, Option.bind_some] at eq
              have htp6 := g6.keep _ _ htp5 ntp
              have tpF6 : F6 tp = none := g6.free (by rw [htp5]; intro z; cases z) tpF4
              have ntp6 : tp ∉ a :: l :: fs6 := fun hb => by
                rcases List.mem_cons.mp hb with hb | hb
                · exact ntp (by simp [hb])
                · rcases List.mem_cons.mp hb with hb | hb
                  · exact ntp (by simp [hb])
                  · rcases sub tp hb with h | h
                    · exact ntp (by simp [h])
                    · rw [htp5] at h; cases h
              have fr6 : ∀ b ∈ a :: l :: fs6, H b = none := fun b hb => by
                rcases List.mem_cons.mp hb with rfl | hb
                · exact ha0
                · rcases List.mem_cons.mp hb with rfl | hb
                  · exact hl0
                  · rcases sub b hb with h | h
                    · exact fr b (by simp [h])
                    · cases z : H b with
                      | none => rfl
                      | some o => exact absurd h (g35.dom b (by rw [z]; intro y; cases y))
              have g7 : Go [tp] H6 F6 _ F6 := Go.put (o := .lst (as.map V.ref ++ [V.ref k])) g6.same (by simp) tpF6
              refine ⟨tp, _, _, rfl, rfl, htp6, by rw [List.length_map, sizeLine_eq]; omega, t.length - e, by omega, F6, fs6, s6, as ++ [k], e, ds ++ [v], _, rfl, rfl, ?_, S6.go g7 g6.same (fun b hb => by simp only [List.mem_singleton]; exact fun z => ntp6 (z ▸ hb)), fr6, ntp6, tpF6, ?_, ?_, he, Shp.come_ok O hc hn, ?_, ?_⟩
              · exact (g35.trans g6 (S := []) (fun b hb hb0 => absurd (fr b hb) hb0)).trans g7 (fun b hb hb0 => by simp at hb; rw [hb] at hb0; exact absurd htp0 hb0)
              · rw [upd_same, List.map_append]
                rfl
              · exact (ToksAt.snoc hk hts4).mono (g6.held g5.same)
              · simp only [List.length_append, List.length_cons, List.length_nil]; omega
              · rw [eq, hd, Option.map_map]
                congr 1
                funext l
                simp
            refine ⟨_, rfl, _, _, _, rfl, s5 _ _ (s4 _ _ h3), rfl, ?_⟩
            walk_at "v"
            refine ⟨F4, a, l, fs, sh, k, v, rfl, g5.same, S5, hk, tok, O, fun h0 => ?_, fun s6 e6 H6 F6 fs6 g6 S6 sub => ?_, fun s6 pq e6 H6 F6 fs6 g6 S6 sub pa hpa => ?_⟩
            · unfold Shp.come at h0
              rw [if_pos hcan] at h0
              cases v <;> cases h0
            · have htp6 := g6.keep _ _ htp5 ntp
              refine ⟨_, rfl, .inl ⟨rfl, _, SqL.of htp6⟩, ?_⟩
              walk_at "v"
              exact fin s6 none H6 F6 fs6 e6 g6 S6 sub
            · have htp6 := g6.keep _ _ htp5 ntp
              refine ⟨_, rfl, .inl ⟨rfl, _, SqL.of htp6⟩, ?_⟩
              walk_at "v"
              exact fin s6 (some pq) H6 F6 fs6 e6 g6 S6 sub
    · rintro σ' H3 ⟨F3, as, j, ds, u, v, rfl, g3, htp3, hts, hj, eq⟩
      have haH := g3.keep _ _ ha (by simp)
      walk_at "v"
      refine ⟨ta, _, rfl, .inl (SqL.of haH), ?_⟩
      rw [bs_length]
      refine ⟨rfl, _, rfl, ?_⟩
      by_cases he : j = t.length
      · refine if_neg_of (by rw [he]; simp) ?_
        rw [if_pos (by rw [he, List.drop_length])] at eq
        refine ⟨_, rfl, q1 ds eq H3 tp (fun b o e => g3.keep _ _ e (by simp)) htp0 ⟨as, ?_, hts.mono g3.gr⟩⟩
        rw [Gr.new htp0]
        exact htp3
      · refine if_pos_of (by simp; omega) ?_
        refine q2 ?_ H3 fun b o e => g3.keep _ _ e (by simp)
        rw [eq, if_neg]
        intro z
        have := congrArg List.length z
        simp at this
        omega
end
end TS
end
section
set_option Elab.async false
set_option linter.all false
set_option maxRecDepth 100000
set_option maxHeartbeats 4000000
namespace TS
open PySem PySem.Spec PyProof.Rows L2
open Vapaqf (Head Way Token Test matches_ faultOf Plan)
open Vapaqa (Text Name stepText placeText textBefore off isSmall isDigit isSign)
local macro_rules | `(tactic| walk_at "v") => `(tactic| repeat (first | refine ⟨_, rfl, ?_⟩ | refine ⟨_, _, rfl, rfl, ?_⟩ | refine ⟨_, _, rfl, ?_⟩))
local macro_rules | `(tactic| walk_at "few") => `(tactic| first | decide | (show 0 < 1000; decide) | (show 1 < 1000; decide) | (show 2 < 1000; decide) | (show 3 < 1000; decide) | (show 4 < 1000; decide) | (show 5 < 1000; decide) | (show 6 < 1000; decide))
/-! ### the reader of questions: its state, and the mirror of its methods -/
structure QS where
  rest : Text
  nodes : Nat
  stage : Nat
  plan : Plan
def qNeed (w : Text) (s : QS) : Option (Unit × QS) := (off w s.rest).map fun r => ((), { s with rest := r })
def qSkips (w : Text) (s : QS) : Bool × QS := match off w s.rest with
  | some r => (true, { s with rest := r })
  | none => (false, s)
def qNode (s : QS) : Option (Unit × QS) := if 30 ≤ s.nodes then none else some ((), { s with nodes := s.nodes + 1 })
def qNum (hi : Nat) (s : QS) : Option (Nat × QS) := (rdNumber 0 (hi : Int) s.rest).map fun x => (x.1.toNat, { s with rest := x.2 })
def qStage (latest following : Nat) (s : QS) : Option (Unit × QS) := if latest < s.stage then none else some ((), { s with stage := following })
def qStep (wy : Way) (s : QS) : Option (Unit × QS) := if 0 < s.stage then none else some ((), { s with stage := 0, plan := { s.plan with steps := s.plan.steps ++ [wy] } })
def qKey (s : QS) : Option (Vapaqa.Tree × QS) := (rdLeaf s.rest).map fun x => (x.1, { s with rest := x.2 })
/-- where the reader's objects are, and the text -/
structure Qb where
  qr : Addr
  qa : Addr
  sl : Addr
  ta : Addr
  t : Text
def Qb.S (B : Qb) : List Addr := [B.qr, B.qa, B.sl]
def rdF (B : Qb) (i n g : Nat) : List (Str × V) := [("text", .ref B.ta), ("at", .int (i : Int)), ("nodes", .int (n : Int)), ("stage", .int (g : Int)), ("question", .ref B.qa)]
structure QsAt (K : PySem.W.Frag) (F H : Hp) (B : Qb) (s : QS) : Prop where
  f1 : F B.qr = none
  f2 : F B.qa = none
  f3 : F B.sl = none
  txt : TextAt F B.ta B.t
  short : B.t.length ≤ 100000
  n1 : B.qr ≠ B.qa
  n2 : B.qr ≠ B.sl
  n3 : B.qa ≠ B.sl
  rd : ∃ i, InsAt K H "QuestionReader" B.qr (rdF B i s.nodes s.stage) ∧ i ≤ B.t.length ∧ B.t.drop i = s.rest ∧ s.plan.steps.length ≤ i
  q : ∃ c as, InsAt K H "Question" B.qa (questF s.plan B.sl c) ∧ H B.sl = some (.lst (as.map V.ref)) ∧ StepsAt K F as s.plan.steps ∧ TestV K F c s.plan.test
theorem QsAt.go {K : PySem.W.Frag} {S : List Addr} {H F H' F' : Hp} {B : Qb} {s : QS} (g : Go S H F H' F') (sF : Same F H) (n : ∀ b ∈ B.S, b ∉ S) (h : QsAt K F H B s) : QsAt K F' H' B s := by
  obtain ⟨i, ⟨dx, e1⟩, e2, e3, e4⟩ := h.rd
  obtain ⟨c, as, ⟨dq, e5⟩, e6, e7, e8⟩ := h.q
  have nn : ∀ {b : Addr} {o : HO}, H b = some o → H b ≠ none := fun e z => by rw [e] at z; cases z
  have sFF := g.held sF
  exact ⟨g.free (nn e1) h.f1, g.free (nn e5) h.f2, g.free (nn e6) h.f3, sFF _ _ h.txt, h.short, h.n1, h.n2, h.n3, ⟨i, ⟨dx, g.keep _ _ e1 (n _ (by simp [Qb.S]))⟩, e2, e3, e4⟩,
    ⟨c, as, ⟨dq, g.keep _ _ e5 (n _ (by simp [Qb.S]))⟩, g.keep _ _ e6 (n _ (by simp [Qb.S])), e7.mono sFF, e8.mono sFF⟩⟩
/-- what a method gives: the value and the state behind it, or the refusal -/
def Told {α : Type} (K : PySem.W.Frag) (F H : Hp) (B : Qb) (r : Option (α × QS)) (W : Hp → α → V → Prop) (Q : VK) (E : XK) : Prop := match r with
  | none => ∀ H' F', Go B.S H F H' F' → E (CW K) none H'
  | some (x, s) => ∀ H' F' v, Go B.S H F H' F' → QsAt K F' H' B s → W F' x v → Q v H'
theorem Told.step {α : Type} {K : PySem.W.Frag} {F H F1 H1 : Hp} {B : Qb} {r : Option (α × QS)} {W : Hp → α → V → Prop} {Q : VK} {E : XK} (g : Go B.S H F H1 F1) (k : Told K F H B r W Q E) : Told K F1 H1 B r W Q E := by
  cases r with
  | none => exact fun H' F' g2 => k H' F' (g.trans g2 (fun b h _ => h))
  | some x => exact fun H' F' v g2 q w => k H' F' v (g.trans g2 (fun b h _ => h)) q w
theorem Told.bind {α β : Type} {K : PySem.W.Frag} {F H : Hp} {B : Qb} {r : Option (β × QS)} {f : β × QS → Option (α × QS)} {W : Hp → α → V → Prop} {W' : Hp → β → V → Prop} {Q Q' : VK} {E : XK} (k : Told K F H B (r.bind f) W Q E)
    (h : ∀ x s H1 F1 v, r = some (x, s) → Go B.S H F H1 F1 → QsAt K F1 H1 B s → W' F1 x v → Told K F1 H1 B (f (x, s)) W Q E → Q' v H1) : Told K F H B r W' Q' E := by
  cases r with
  | none => exact k
  | some x => exact fun H1 F1 v g q w => h x.1 x.2 H1 F1 v rfl g q w (Told.step g k)
/-- nothing but new things came -/
theorem Told.new {α : Type} {K : PySem.W.Frag} {F H H1 : Hp} {B : Qb} {r : Option (α × QS)} {W : Hp → α → V → Prop} {Q : VK} {E : XK} (sF : Same F H) (s1 : Same H H1) (k : Told K F H B r W Q E) : Told K F H1 B r W Q E := k.step (Go.idle sF s1)
def WNon {α : Type} : Hp → α → V → Prop := fun _ _ v => v = .non
/-- a method of the reader, with what else is handed in -/
def spQr {α : Type} (K : PySem.W.Frag) (xs : List V) (f : QS → Option (α × QS)) (W : Hp → α → V → Prop) (pre : QS → Prop) : Sp := fun vs H Q E => ∃ (F : Hp) (B : Qb) (s : QS), vs = .ref B.qr :: xs ∧ Same F H ∧ QsAt K F H B s ∧ pre s ∧ Told K F H B (f s) W Q E
def spSees (K : PySem.W.Frag) : Sp := fun vs H Q E => ∃ (F : Hp) (B : Qb) (s : QS) (x : Str) (w : Text), vs = [.ref B.qr, .str x] ∧ Same F H ∧ QsAt K F H B s ∧ IsW x w ∧ w.length ≤ 1000 ∧ ∀ H', Same H H' → Q (.bl (w.isPrefixOf s.rest)) H'
def spNeed (K : PySem.W.Frag) : Sp := fun vs H Q E => ∃ (F : Hp) (B : Qb) (s : QS) (x : Str) (w : Text), vs = [.ref B.qr, .str x] ∧ Same F H ∧ QsAt K F H B s ∧ IsW x w ∧ w.length ≤ 1000 ∧ Told K F H B (qNeed w s) WNon Q E
def spSkips (K : PySem.W.Frag) : Sp := fun vs H Q E => ∃ (F : Hp) (B : Qb) (s : QS) (x : Str) (w : Text), vs = [.ref B.qr, .str x] ∧ Same F H ∧ QsAt K F H B s ∧ IsW x w ∧ w.length ≤ 1000 ∧ Told K F H B (some (qSkips w s)) (fun _ b v => v = .bl b) Q E
def spNum (K : PySem.W.Frag) : Sp := fun vs H Q E => ∃ (F : Hp) (B : Qb) (s : QS) (hi : Nat), vs = [.ref B.qr, .int (hi : Int)] ∧ Same F H ∧ QsAt K F H B s ∧ Told K F H B (qNum hi s) (fun _ n v => v = .int (n : Int)) Q E
def spPass (K : PySem.W.Frag) : Sp := fun vs H Q E => ∃ (F : Hp) (B : Qb) (s : QS) (a b : Nat), vs = [.ref B.qr, .int (a : Int), .int (b : Int)] ∧ Same F H ∧ QsAt K F H B s ∧ Told K F H B (qStage a b s) WNon Q E
def spAddStep (K : PySem.W.Frag) : Sp := fun vs H Q E => ∃ (F : Hp) (B : Qb) (s : QS) (a : Addr) (wy : Way), vs = [.ref B.qr, .ref a] ∧ Same F H ∧ QsAt K F H B s ∧ StepAt K F a wy ∧ s.plan.steps.length + 1 + s.rest.length ≤ B.t.length ∧ Told K F H B (qStep wy s) WNon Q E
def WKey : Hp → Vapaqa.Tree → V → Prop := fun F x v => ∃ k, v = .ref k ∧ KeyAt F k (.leaf x) ∧ LeafOk x
section
variable {P : Program} {w : World} {K : PySem.W.Frag} {mg : Str → Option Value} {base : Heap}
theorem ok_QuestionReader_sees (T : Facts K mg) : OkFn P w K mg base CX0 3 (He.ma K (He.ga K "QuestionReader") "sees") 2 (spSees K) := by
  refine mk_fn T.d_QuestionReader_sees sc_QuestionReader_sees (fun _ _ _ _ _ _ us hl => match us, hl with | [_, _], _ => rfl) (fun vs H Q E h => ?_) (fun cdv A outer s H vs Q E hr h => ?_)
  · obtain ⟨_, _, _, _, _, rfl, _⟩ := h
    rfl
  · obtain ⟨F, B, s, x, wd, rfl, sF, S, hx, hl, q⟩ := h
    refine ⟨_, PSs.nox (pss_one (ps_ret (c_fn (ok_starts T) (hr.mono (by decide)) rfl T.g_starts pass0 (pa_cons (pe_fld (pv 0) rfl) (pa_cons (pe_fld (pv 0) rfl) (pa_cons (pv 1) pa_nil)))))), ?_⟩
    obtain ⟨i, ⟨dx, h1⟩, hi, hd, -⟩ := S.rd
    refine ⟨_, rfl, _, _, _, _, _, rfl, h1, T.c_QuestionReader, T.n_QuestionReader_text, rfl, ?_⟩
    refine ⟨_, rfl, _, _, _, _, _, rfl, h1, T.c_QuestionReader, T.n_QuestionReader_at, rfl, ?_⟩
    walk_at "v"
    refine ⟨B.ta, B.t, i, x, wd, rfl, sF _ _ S.txt, hx, hl, hi, fun H1 s1 => ?_⟩
    rw [hd]
    exact q H1 s1
theorem ok_QuestionReader_need (T : Facts K mg) : OkFn P w K mg base (L2.CX P w) 4 (He.ma K (He.ga K "QuestionReader") "need") 2 (spNeed K) := by
  refine mk_fn T.d_QuestionReader_need sc_QuestionReader_need (fun _ _ _ _ _ _ us hl => match us, hl with | [_, _], _ => rfl) (fun vs H Q E h => ?_) (fun cdv A outer s H vs Q E hr h => ?_)
  · obtain ⟨_, _, _, _, _, rfl, _⟩ := h
    rfl
  · obtain ⟨F, B, s, x, wd, rfl, sF, S, hx, hl, k⟩ := h
    refine ⟨_, (pss_one (ps_fld (pv 0) (c_fn (ok_behind T) (hr.mono (by decide)) rfl T.g_behind (pX (takes_of rfl rfl rfl rfl)) (pa_cons (pe_fld (pv 0) rfl) (pa_cons (pe_fld (pv 0) rfl) (pa_cons (pv 1) pa_nil)))) rfl)), ?_⟩
    obtain ⟨i, ⟨dx, h1⟩, hi, hd, hst⟩ := S.rd
    refine ⟨_, rfl, _, _, _, _, _, rfl, h1, T.c_QuestionReader, T.n_QuestionReader_text, rfl, ?_⟩
    refine ⟨_, rfl, _, _, _, _, _, rfl, h1, T.c_QuestionReader, T.n_QuestionReader_at, rfl, ?_⟩
    walk_at "v"
    refine ⟨B.ta, B.t, i, x, wd, rfl, sF _ _ S.txt, hx, hl, hi, fun r hr2 H1 s1 => ?_, fun hno H1 s1 => ?_⟩
    · rw [hd] at hr2
      unfold qNeed at k
      rw [hr2] at k
      obtain ⟨e1, e2, -⟩ := off_drop hr2
      have g1 : Go [] H F H1 F := Go.idle sF s1
      have S1 := S.go g1 sF (by simp)
      refine ⟨_, rfl, _, _, _, _, rfl, s1 _ _ h1, T.c_QuestionReader, T.n_QuestionReader_at, by walk_at "few", ?_⟩
      have g2 : Go [B.qr] H1 F _ F := Go.put (o := .ins (He.ga K "QuestionReader") dx (putF "at" (.int ((i + wd.length : Nat) : Int)) (rdF B i s.nodes s.stage))) g1.same (by simp) S.f1
      obtain ⟨c, as, ⟨dq, e5⟩, e6, e7, e8⟩ := S1.q
      refine k _ F _ ((g1.wide (by simp) : Go B.S H F H1 F).trans g2 (by intro b hb _; simp at hb; simp [hb, Qb.S])) ⟨S.f1, S.f2, S.f3, S.txt, S.short, S.n1, S.n2, S.n3, ⟨i + wd.length, ⟨dx, upd_same⟩, ?_, ?_, ?_⟩, ⟨c, as, ⟨dq, (upd_ne S.n1.symm).trans e5⟩, (upd_ne S.n2.symm).trans e6, e7, e8⟩⟩ rfl
      · rw [← hd, List.length_drop] at e2
        omega
      · rw [e1, ← hd, List.drop_drop]
      · show s.plan.steps.length ≤ i + wd.length
        omega
    · rw [hd] at hno
      unfold qNeed at k
      rw [hno] at k
      exact k H1 F (Go.idle sF s1)
theorem ok_QuestionReader_skips (T : Facts K mg) : OkFn P w K mg base (L2.CX P w) 5 (He.ma K (He.ga K "QuestionReader") "skips") 2 (spSkips K) := by
  refine mk_fn T.d_QuestionReader_skips sc_QuestionReader_skips (fun _ _ _ _ _ _ us hl => match us, hl with | [_, _], _ => rfl) (fun vs H Q E h => ?_) (fun cdv A outer s H vs Q E hr h => ?_)
  · obtain ⟨_, _, _, _, _, rfl, _⟩ := h
    rfl
  · obtain ⟨F, B, s, x, wd, rfl, sF, S, hx, hl, k⟩ := h
    refine ⟨_, (pss_cons (ps_set (i := 2) sc_QuestionReader_skips.nd rfl (.inl rfl) (c_meth (pv 0) T.c_QuestionReader T.m_QuestionReader_sees (ok_QuestionReader_sees T) (hr.mono (by decide)) pass0 (pa_cons (pv 1) pa_nil)))
      (pss_cons (ps_if (pt_val (pv 2))
        (pss_one (ps_expr (c_meth (pv 0) T.c_QuestionReader T.m_QuestionReader_need (ok_QuestionReader_need T) (hr.mono (by decide)) (pX (takes_of rfl rfl rfl rfl)) (pa_cons (pv 1) pa_nil))))
        pss_nil)
      (pss_one (ps_ret (pv 2))))), ?_⟩
    obtain ⟨i, ⟨dx, h1⟩, hi, hd, -⟩ := S.rd
    refine ⟨_, rfl, _, _, _, rfl, h1, rfl, ?_⟩
    walk_at "v"
    refine ⟨F, B, s, x, wd, rfl, sF, S, hx, hl, fun H1 s1 => ?_⟩
    dsimp only [gName]
    walk_at "v"
    have g1 : Go [] H F H1 F := Go.idle sF s1
    have S1 := S.go g1 sF (by simp)
    unfold qSkips at k
    cases hp : wd.isPrefixOf s.rest with
    | false =>
      rw [off_none hp] at k
      refine if_neg_of rfl ?_
      exact ⟨_, rfl, k H1 F _ (g1.wide (by simp)) S1 rfl⟩
    | true =>
      rw [off_some hp] at k
      refine if_pos_of rfl ?_
      refine ⟨_, rfl, _, _, _, rfl, s1 _ _ h1, rfl, ?_⟩
      walk_at "v"
      refine ⟨F, B, s, x, wd, rfl, g1.same, S1, hx, hl, ?_⟩
      unfold qNeed
      rw [off_some hp]
      intro H2 F2 v g2 S2 hv
      exact ⟨_, rfl, k H2 F2 _ ((g1.wide (by simp) : Go B.S H F H1 F).trans g2 (fun b h _ => h)) S2 rfl⟩
end
end TS
end
section
set_option Elab.async false
set_option linter.all false
set_option maxRecDepth 100000
set_option maxHeartbeats 4000000
namespace TS
open PySem PySem.Spec PyProof.Rows L2
open Vapaqf (Head Way Token Test matches_ faultOf Plan)
open Vapaqa (Text Name stepText placeText textBefore off isSmall isDigit isSign)
local macro_rules | `(tactic| walk_at "v") => `(tactic| repeat (first | refine ⟨_, rfl, ?_⟩ | refine ⟨_, _, rfl, rfl, ?_⟩ | refine ⟨_, _, rfl, ?_⟩))
local macro_rules | `(tactic| walk_at "few") => `(tactic| first | decide | (show 0 < 1000; decide) | (show 1 < 1000; decide) | (show 2 < 1000; decide) | (show 3 < 1000; decide) | (show 4 < 1000; decide) | (show 5 < 1000; decide) | (show 6 < 1000; decide))
def spQuestInit (K : PySem.W.Frag) : Sp := fun vs H Q _ => ∃ (a dx : Addr), vs = [.ref a] ∧ H a = some (.ins (He.ga K "Question") dx []) ∧
  ∀ (H' : Hp) (sl : Addr), H' a = some (.ins (He.ga K "Question") dx (questF (planAt 0) sl .non)) → H sl = none → H' sl = some (.lst []) → (∀ b o, H b = some o → b ≠ a → H' b = some o) → Q .non H'
def spReaderInit (K : PySem.W.Frag) : Sp := fun vs H Q _ => ∃ (F : Hp) (qr dx ta : Addr) (t : Text), vs = [.ref qr, .ref ta] ∧ Same F H ∧ F qr = none ∧ H qr = some (.ins (He.ga K "QuestionReader") dx []) ∧ TextAt F ta t ∧ t.length ≤ 100000 ∧
  ∀ (H' : Hp) (qa sl : Addr), (∀ b o, H b = some o → b ≠ qr → H' b = some o) → H qa = none → H sl = none → QsAt K F H' ⟨qr, qa, sl, ta, t⟩ ⟨t, 0, 0, planAt 0⟩ → Q .non H'
/-- the reader's own fields are written -/
theorem QsAt.put {K : PySem.W.Frag} {F H : Hp} {B : Qb} {s s' : QS} {i i' : Nat} {dx : Addr} (S : QsAt K F H B s) (sF : Same F H) (h1 : H B.qr = some (.ins (He.ga K "QuestionReader") dx (rdF B i s.nodes s.stage))) (hp : s'.plan = s.plan) (hi : i' ≤ B.t.length) (hd : B.t.drop i' = s'.rest) (hs : s'.plan.steps.length ≤ i') :
    Go B.S H F (upd H B.qr (.ins (He.ga K "QuestionReader") dx (rdF B i' s'.nodes s'.stage))) F ∧ QsAt K F (upd H B.qr (.ins (He.ga K "QuestionReader") dx (rdF B i' s'.nodes s'.stage))) B s' := by
  obtain ⟨c, as, ⟨dq, e5⟩, e6, e7, e8⟩ := S.q
  refine ⟨Go.put sF (by simp [Qb.S]) S.f1, S.f1, S.f2, S.f3, S.txt, S.short, S.n1, S.n2, S.n3, ⟨i', ⟨dx, upd_same⟩, hi, hd, hs⟩, ?_⟩
  rw [hp]
  exact ⟨c, as, ⟨dq, (upd_ne S.n1.symm).trans e5⟩, (upd_ne S.n2.symm).trans e6, e7, e8⟩
section
variable {P : Program} {w : World} {K : PySem.W.Frag} {mg : Str → Option Value} {base : Heap}
theorem ok_Question_init (T : Facts K mg) : OkFn P w K mg base CX0 1 (He.ma K (He.ga K "Question") "__init__") 1 (spQuestInit K) := by
  refine mk_fn T.d_Question_init sc_Question_init (fun _ _ _ _ _ _ us hl => match us, hl with | [_], _ => rfl) (fun vs H Q E h => ?_) (fun cdv A outer s H vs Q E hr h => ?_)
  · obtain ⟨_, _, rfl, _⟩ := h
    rfl
  · obtain ⟨a, dx, rfl, ha, q⟩ := h
    refine ⟨_, PSs.nox (pss_cons (ps_fld (pv 0) (pe_num rfl T.i_TELL) rfl)
      (pss_cons (ps_fld (pv 0) pe_bl rfl)
      (pss_cons (ps_fld (pv 0) pe_non rfl)
      (pss_cons (ps_fld (pv 0) (pe_lst pa_nil) rfl)
      (pss_cons (ps_fld (pv 0) pe_bl rfl)
      (pss_one (ps_fld (pv 0) pe_non rfl))))))), ?_⟩
    walk_at "v"
    refine ⟨_, _, _, _, rfl, ha, T.c_Question, T.n_Question_fold, by walk_at "few", ?_⟩
    walk_at "v"
    refine ⟨_, _, _, _, rfl, upd_same, T.c_Question, T.n_Question_tried, by walk_at "few", ?_⟩
    walk_at "v"
    refine ⟨_, _, _, _, rfl, upd_same, T.c_Question, T.n_Question_limit, by walk_at "few", ?_⟩
    refine ⟨by show 0 ≤ sizeLine; exact Nat.zero_le _, fun l hl => ?_⟩
    have hla : l ≠ a := fun z => by rw [z, upd_same] at hl; cases hl
    have hl0 : H l = none := by rw [upd_ne hla, upd_ne hla, upd_ne hla] at hl; exact hl
    refine ⟨_, rfl, _, _, _, _, rfl, (upd_ne hla.symm).trans upd_same, T.c_Question, T.n_Question_steps, by walk_at "few", ?_⟩
    walk_at "v"
    refine ⟨_, _, _, _, rfl, upd_same, T.c_Question, T.n_Question_deep, by walk_at "few", ?_⟩
    walk_at "v"
    refine ⟨_, _, _, _, rfl, upd_same, T.c_Question, T.n_Question_condition, by walk_at "few", ?_⟩
    refine q _ l upd_same hl0 ?_ fun b o e n => ?_
    · rw [upd_ne hla, upd_ne hla, upd_ne hla]
      exact upd_same
    · have hbl : b ≠ l := fun z => by rw [z, hl0] at e; cases e
      rw [upd_ne n, upd_ne n, upd_ne n, upd_ne hbl, upd_ne n, upd_ne n, upd_ne n]
      exact e
theorem ok_QuestionReader_init (T : Facts K mg) : OkFn P w K mg base CX0 3 (He.ma K (He.ga K "QuestionReader") "__init__") 2 (spReaderInit K) := by
  refine mk_fn T.d_QuestionReader_init sc_QuestionReader_init (fun _ _ _ _ _ _ us hl => match us, hl with | [_, _], _ => rfl) (fun vs H Q E h => ?_) (fun cdv A outer s H vs Q E hr h => ?_)
  · obtain ⟨_, _, _, _, _, rfl, _⟩ := h
    rfl
  · obtain ⟨F, qr, dx, ta, t, rfl, sF, hF, hq, ht, hlen, k⟩ := h
    refine ⟨_, PSs.nox (pss_cons (ps_fld (pv 0) (pv 1) rfl)
      (pss_cons (ps_fld (pv 0) pe_int rfl)
      (pss_cons (ps_fld (pv 0) pe_int rfl)
      (pss_cons (ps_fld (pv 0) (pe_num rfl T.i_AT_STEPS) rfl)
      (pss_one (ps_fld (pv 0) (c_make0 T.k_Question (ok_Question_init T) (hr.mono (by decide)) rfl T.g_Question pass0) rfl)))))), ?_⟩
    have free : ∀ {b : Addr}, H b = none → F b = none := fun {b} e => by
      cases z : F b with
      | none => rfl
      | some o => have := sF _ _ z; rw [e] at this; cases this
    refine ⟨_, rfl, _, rfl, _, _, _, _, rfl, hq, T.c_QuestionReader, T.n_QuestionReader_text, by walk_at "few", ?_⟩
    walk_at "v"
    refine ⟨_, _, _, _, rfl, upd_same, T.c_QuestionReader, T.n_QuestionReader_at, by walk_at "few", ?_⟩
    walk_at "v"
    refine ⟨_, _, _, _, rfl, upd_same, T.c_QuestionReader, T.n_QuestionReader_nodes, by walk_at "few", ?_⟩
    walk_at "v"
    refine ⟨_, _, _, _, rfl, upd_same, T.c_QuestionReader, T.n_QuestionReader_stage, by walk_at "few", ?_⟩
    have k4 : ∀ {o1 o2 o3 o4 : HO} {b : Addr} {o : HO}, b ≠ qr → H b = some o → upd (upd (upd (upd H qr o1) qr o2) qr o3) qr o4 b = some o := fun n e => by
      rw [upd_ne n, upd_ne n, upd_ne n, upd_ne n]
      exact e
    have hq4 : ∀ {o1 o2 o3 o4 : HO}, upd (upd (upd (upd H qr o1) qr o2) qr o3) qr o4 qr = some o4 := upd_same
    have n4 : ∀ {o1 o2 o3 o4 : HO} {b : Addr}, upd (upd (upd (upd H qr o1) qr o2) qr o3) qr o4 b = none → H b = none ∧ b ≠ qr := fun {o1 o2 o3 o4 b} e => by
      by_cases z : b = qr
      · rw [z, upd_same] at e; cases e
      · rw [upd_ne z, upd_ne z, upd_ne z, upd_ne z] at e
        exact ⟨e, z⟩
    intro qa dxq hqa hdxq hne
    refine ⟨qa, dxq, rfl, upd_same, fun H1 sl hi1 hsl hsl1 k1 => ⟨rfl, ?_⟩⟩
    have s1 := Same.made hqa hdxq k1
    have hslqa : sl ≠ qa := fun z => by rw [z, upd_same] at hsl; cases hsl
    obtain ⟨hqa0, hqaq⟩ := n4 hqa
    obtain ⟨hsl0, hslq⟩ : H sl = none ∧ sl ≠ qr := by
      rw [upd_ne hslqa] at hsl
      by_cases z : sl = dxq
      · rw [z, upd_same] at hsl; cases hsl
      · rw [upd_ne z] at hsl
        exact n4 hsl
    refine ⟨_, rfl, _, _, _, _, rfl, s1 _ _ hq4, T.c_QuestionReader, T.n_QuestionReader_question, by walk_at "few", ?_⟩
    exact k _ qa sl (fun b o e n => (upd_ne n).trans (s1 _ _ (k4 n e))) hqa0 hsl0 ⟨hF, free hqa0, free hsl0, ht, hlen, hqaq.symm, hslq.symm, hslqa.symm, ⟨0, ⟨dx, upd_same⟩, Nat.zero_le _, rfl, Nat.zero_le _⟩, ⟨.non, [], ⟨dxq, (upd_ne hqaq).trans hi1⟩, (upd_ne hslq).trans hsl1, trivial, rfl⟩⟩
theorem ok_QuestionReader_add_node (T : Facts K mg) : OkFn P w K mg base (L2.CX P w) 1 (He.ma K (He.ga K "QuestionReader") "add_node") 1 (spQr (α := Unit) K [] qNode WNon fun _ => True) := by
  refine mk_fn T.d_QuestionReader_add_node sc_QuestionReader_add_node (fun _ _ _ _ _ _ us hl => match us, hl with | [_], _ => rfl) (fun vs H Q E h => ?_) (fun cdv A outer s H vs Q E hr h => ?_)
  · obtain ⟨_, _, _, rfl, _⟩ := h
    rfl
  · obtain ⟨F, B, s, rfl, sF, S, -, k⟩ := h
    refine ⟨_, (pss_cons (ps_fldaug (pv 0) pe_int in_add)
      (pss_one (ps_if (pt_cmpR op_gt (pe_fld (pv 0) rfl) (pe_num rfl T.i_MOST_NODES) (nomark _))
        (pss_one (rz_W T rfl rfl (takes_of rfl rfl rfl rfl)))
        pss_nil))), ?_⟩
    obtain ⟨i, ⟨dx, h1⟩, hi, hd, hst⟩ := S.rd
    refine ⟨_, rfl, _, _, _, _, _, rfl, h1, T.c_QuestionReader, T.n_QuestionReader_nodes, rfl, ?_⟩
    refine ⟨_, _, rfl, rfl, _, _, h1, by walk_at "few", ?_⟩
    obtain ⟨g1, S1⟩ := S.put (s' := { s with nodes := s.nodes + 1 }) sF h1 rfl hi hd hst
    refine ⟨_, rfl, _, _, _, _, _, rfl, upd_same, T.c_QuestionReader, T.n_QuestionReader_nodes, rfl, ?_⟩
    walk_at "v"
    unfold qNode at k
    by_cases h30 : 30 ≤ s.nodes
    · rw [if_pos h30] at k
      refine if_pos_of (decide_eq_true (by omega)) ?_
      exact k _ F g1
    · rw [if_neg h30] at k
      refine if_neg_of (decide_eq_false (by omega)) ?_
      exact k _ F _ g1 S1 rfl
theorem ok_QuestionReader_pass_stage (T : Facts K mg) : OkFn P w K mg base (L2.CX P w) 1 (He.ma K (He.ga K "QuestionReader") "pass_stage") 3 (spPass K) := by
  refine mk_fn T.d_QuestionReader_pass_stage sc_QuestionReader_pass_stage (fun _ _ _ _ _ _ us hl => match us, hl with | [_, _, _], _ => rfl) (fun vs H Q E h => ?_) (fun cdv A outer s H vs Q E hr h => ?_)
  · obtain ⟨_, _, _, _, _, rfl, _⟩ := h
    rfl
  · obtain ⟨F, B, s, a, b, rfl, sF, S, k⟩ := h
    refine ⟨_, (pss_cons (ps_if (pt_cmpR op_gt (pe_fld (pv 0) rfl) (pv 1) (nomark _))
        (pss_one (rz_W T rfl rfl (takes_of rfl rfl rfl rfl)))
        pss_nil)
      (pss_one (ps_fld (pv 0) (pv 2) rfl))), ?_⟩
    obtain ⟨i, ⟨dx, h1⟩, hi, hd, hst⟩ := S.rd
    refine ⟨_, rfl, _, _, _, _, _, rfl, h1, T.c_QuestionReader, T.n_QuestionReader_stage, rfl, ?_⟩
    walk_at "v"
    unfold qStage at k
    by_cases hg : a < s.stage
    · rw [if_pos hg] at k
      refine if_pos_of (decide_eq_true (by omega)) ?_
      exact k _ F (Go.refl sF)
    · rw [if_neg hg] at k
      refine if_neg_of (decide_eq_false (by omega)) ?_
      obtain ⟨g1, S1⟩ := S.put (s' := { s with stage := b }) sF h1 rfl hi hd hst
      refine ⟨_, rfl, _, rfl, _, _, _, _, rfl, h1, T.c_QuestionReader, T.n_QuestionReader_stage, by walk_at "few", ?_⟩
      exact k _ F _ g1 S1 rfl
theorem ok_QuestionReader_number_up_to (T : Facts K mg) : OkFn P w K mg base (L2.CX P w) 3 (He.ma K (He.ga K "QuestionReader") "number_up_to") 2 (spNum K) := by
  refine mk_fn T.d_QuestionReader_number_up_to sc_QuestionReader_number_up_to (fun _ _ _ _ _ _ us hl => match us, hl with | [_, _], _ => rfl) (fun vs H Q E h => ?_) (fun cdv A outer s H vs Q E hr h => ?_)
  · obtain ⟨_, _, _, _, rfl, _⟩ := h
    rfl
  · obtain ⟨F, B, s, n, rfl, sF, S, k⟩ := h
    refine ⟨_, (pss_cons (ps_asg (c_fn (ok_read_number T) (hr.mono (by decide)) rfl T.g_read_number (pX (takes_of rfl rfl rfl rfl)) (pa_cons (pe_fld (pv 0) rfl) (pa_cons (pe_fld (pv 0) rfl) (pa_cons pe_int (pa_cons (pv 1) pa_nil))))) (pg_tup rfl (pgs_cons (pg_name (i := 2) sc_QuestionReader_number_up_to.nd rfl (.inl rfl)) (pgs_cons (pg_name (i := 3) sc_QuestionReader_number_up_to.nd rfl (.inl rfl)) pgs_nil))))
      (pss_cons (ps_fld (pv 0) (pv 3) rfl)
      (pss_one (ps_ret (pv 2))))), ?_⟩
    obtain ⟨i, ⟨dx, h1⟩, hi, hd, hst⟩ := S.rd
    refine ⟨_, rfl, _, _, _, _, _, rfl, h1, T.c_QuestionReader, T.n_QuestionReader_text, rfl, ?_⟩
    refine ⟨_, rfl, _, _, _, _, _, rfl, h1, T.c_QuestionReader, T.n_QuestionReader_at, rfl, ?_⟩
    walk_at "v"
    unfold qNum at k
    refine ⟨B.ta, B.t, i, 0, n, rfl, sF _ _ S.txt, hi, by omega, fun z r hz H1 p e s1 hp he1 he2 => ?_, fun hno H1 s1 => ?_⟩
    · rw [hd] at hz
      rw [hz] at k
      obtain ⟨e1, e2, e3⟩ := rdNumber_sound hz
      refine ⟨p, _, rfl, SqT.of hp, rfl, ?_⟩
      refine ⟨_, _, rfl, _, _, rfl, rfl, ?_⟩
      dsimp only [gName]
      have g1 : Go B.S H F H1 F := Go.idle sF s1
      have S1 := S.go (S := []) (Go.idle sF s1) sF (by simp)
      have hie : i ≤ e := by
        have h3 := congrArg List.length he1
        have h4 := congrArg List.length e1
        rw [List.length_drop] at h3
        rw [← hd, List.length_drop, List.length_append] at h4
        omega
      obtain ⟨g2, S2⟩ := S1.put (s' := { s with rest := r }) g1.same (s1 _ _ h1) rfl he2 he1 (by show s.plan.steps.length ≤ e; omega)
      refine ⟨_, rfl, _, rfl, _, _, _, _, rfl, s1 _ _ h1, T.c_QuestionReader, T.n_QuestionReader_at, by walk_at "few", ?_⟩
      refine ⟨_, rfl, k _ F _ (g1.trans g2 (fun b h _ => h)) S2 ?_⟩
      show V.int z = V.int ((z.toNat : Nat) : Int)
      congr 1
      omega
    · rw [hd] at hno
      rw [hno] at k
      exact k H1 F (Go.idle sF s1)
theorem ok_QuestionReader_read_key (T : Facts K mg) : OkFn P w K mg base (L2.CX P w) 6 (He.ma K (He.ga K "QuestionReader") "read_key") 1 (spQr K [] qKey WKey fun _ => True) := by
  refine mk_fn T.d_QuestionReader_read_key sc_QuestionReader_read_key (fun _ _ _ _ _ _ us hl => match us, hl with | [_], _ => rfl) (fun vs H Q E h => ?_) (fun cdv A outer s H vs Q E hr h => ?_)
  · obtain ⟨_, _, _, rfl, _⟩ := h
    rfl
  · obtain ⟨F, B, s, rfl, sF, S, -, k⟩ := h
    refine ⟨_, (pss_cons (ps_asg (c_fn (ok_read_leaf T) (hr.mono (by decide)) rfl T.g_read_leaf (pX (takes_of rfl rfl rfl rfl)) (pa_cons (pe_fld (pv 0) rfl) (pa_cons (pe_fld (pv 0) rfl) pa_nil))) (pg_tup rfl (pgs_cons (pg_name (i := 1) sc_QuestionReader_read_key.nd rfl (.inl rfl)) (pgs_cons (pg_name (i := 2) sc_QuestionReader_read_key.nd rfl (.inl rfl)) pgs_nil))))
      (pss_cons (ps_fld (pv 0) (pv 2) rfl)
      (pss_one (ps_ret (pv 1))))), ?_⟩
    obtain ⟨i, ⟨dx, h1⟩, hi, hd, hst⟩ := S.rd
    refine ⟨_, rfl, _, _, _, _, _, rfl, h1, T.c_QuestionReader, T.n_QuestionReader_text, rfl, ?_⟩
    refine ⟨_, rfl, _, _, _, _, _, rfl, h1, T.c_QuestionReader, T.n_QuestionReader_at, rfl, ?_⟩
    walk_at "v"
    unfold qKey at k
    refine ⟨F, B.ta, B.t, i, rfl, sF, S.txt, hi, fun z r hz H1 p kk e s1 hp hk he1 he2 => ?_, fun hno H1 s1 => ?_⟩
    · rw [hd] at hz
      rw [hz] at k
      obtain ⟨e1, e2⟩ := rdLeaf_sound hz
      refine ⟨p, _, rfl, SqT.of hp, rfl, ?_⟩
      refine ⟨_, _, rfl, _, _, rfl, rfl, ?_⟩
      dsimp only [gName]
      have g0 : Go [] H F H1 _ := Go.new (S := []) sF s1
      have S1 := S.go g0 sF (by simp)
      have hie : i ≤ e := by
        have h3 := congrArg List.length he1
        have h4 := congrArg List.length e1
        rw [List.length_drop] at h3
        rw [← hd, List.length_drop, List.length_append] at h4
        omega
      obtain ⟨g2, S2⟩ := S1.put (s' := { s with rest := r }) g0.same (s1 _ _ h1) rfl he2 he1 (by show s.plan.steps.length ≤ e; omega)
      refine ⟨_, rfl, _, rfl, _, _, _, _, rfl, s1 _ _ h1, T.c_QuestionReader, T.n_QuestionReader_at, by walk_at "few", ?_⟩
      exact ⟨_, rfl, k _ _ _ ((g0.wide (by simp) : Go B.S H F H1 _).trans g2 (fun b h _ => h)) S2 ⟨kk, rfl, hk, e2⟩⟩
    · rw [hd] at hno
      rw [hno] at k
      exact k H1 F (Go.idle sF s1)
theorem ok_QuestionReader_add_step (T : Facts K mg) : OkFn P w K mg base (L2.CX P w) 2 (He.ma K (He.ga K "QuestionReader") "add_step") 2 (spAddStep K) := by
  refine mk_fn T.d_QuestionReader_add_step sc_QuestionReader_add_step (fun _ _ _ _ _ _ us hl => match us, hl with | [_, _], _ => rfl) (fun vs H Q E h => ?_) (fun cdv A outer s H vs Q E hr h => ?_)
  · obtain ⟨_, _, _, _, _, rfl, _⟩ := h
    rfl
  · obtain ⟨F, B, s, a, wy, rfl, sF, S, ha, hroom, k⟩ := h
    refine ⟨_, (pss_cons (ps_expr (c_meth (pv 0) T.c_QuestionReader T.m_QuestionReader_pass_stage (ok_QuestionReader_pass_stage T) (hr.mono (by decide)) (pX (takes_of rfl rfl rfl rfl)) (pa_cons (pe_num rfl T.i_AT_STEPS) (pa_cons (pe_num rfl T.i_AT_STEPS) pa_nil))))
      (pss_one (ps_expr (pe_bm PySem.F.plainAttrs_list PySem.F.slot_list_append PySem.F.type_list_append mt_append (pe_fld (pe_fld (pv 0) rfl) rfl) (pa_cons (pv 1) pa_nil))))), ?_⟩
    obtain ⟨i, ⟨dx, h1⟩, hi, hd, hst⟩ := S.rd
    refine ⟨_, rfl, _, _, _, rfl, h1, rfl, ?_⟩
    walk_at "v"
    refine ⟨F, B, s, 0, 0, rfl, sF, S, ?_⟩
    unfold qStep at k
    unfold qStage
    by_cases hg : 0 < s.stage
    · rw [if_pos hg] at k ⊢
      exact k
    · rw [if_neg hg] at k ⊢
      intro H1 F1 v g1 S1 hv
      obtain ⟨i1, ⟨dx1, h11⟩, hi1, hd1, hst1⟩ := S1.rd
      obtain ⟨c, as, ⟨dq, e5⟩, e6, e7, e8⟩ := S1.q
      refine ⟨_, rfl, _, _, _, _, _, rfl, h11, T.c_QuestionReader, T.n_QuestionReader_question, rfl, ?_⟩
      refine ⟨_, _, _, _, _, rfl, e5, T.c_Question, T.n_Question_steps, rfl, ?_⟩
      refine ⟨.inl ⟨rfl, _, SqL.of e6⟩, ?_⟩
      walk_at "v"
      have hshort := S.short
      have e7l := e7.length
      refine ⟨B.sl, _, _, rfl, rfl, e6, ?_, ?_⟩
      · rw [List.length_map, e7l, sizeLine_eq]
        show s.plan.steps.length < _
        omega
      · have g2 : Go [B.sl] H1 F1 _ F1 := Go.put (o := .lst (as.map V.ref ++ [V.ref a])) g1.same (by simp) S1.f3
        have hil : i = i1 := by
          have h3 := congrArg List.length hd
          have h4 := congrArg List.length hd1
          rw [List.length_drop] at h3 h4
          have : ({ s with stage := 0 } : QS).rest.length = s.rest.length := rfl
          omega
        have hdl := congrArg List.length hd
        rw [List.length_drop] at hdl
        refine k _ F1 _ (g1.trans g2 (by intro b hb _; simp at hb; simp [hb, Qb.S])) ⟨S1.f1, S1.f2, S1.f3, S1.txt, S1.short, S1.n1, S1.n2, S1.n3, ⟨i1, ⟨dx1, g2.keep _ _ h11 (by simpa using S1.n2)⟩, hi1, hd1, ?_⟩, ⟨c, as ++ [a], ⟨dq, g2.keep _ _ e5 (by simpa using S1.n3)⟩, ?_, ?_, e8⟩⟩ rfl
        · show (s.plan.steps ++ [wy]).length ≤ i1
          simp
          omega
        · rw [upd_same, List.map_append]
          rfl
        · exact StepsAt.snoc (ha.mono (g1.held sF)) e7
end
end TS
end
section
set_option Elab.async false
set_option linter.all false
set_option maxRecDepth 100000
set_option maxHeartbeats 4000000
namespace TS
open PySem PySem.Spec PyProof.Rows L2
open Vapaqf (Head Way Token Test matches_ faultOf Plan)
open Vapaqa (Text Name stepText placeText textBefore off isSmall isDigit isSign)
local macro_rules | `(tactic| walk_at "v") => `(tactic| repeat (first | refine ⟨_, rfl, ?_⟩ | refine ⟨_, _, rfl, rfl, ?_⟩ | refine ⟨_, _, rfl, ?_⟩))
local macro_rules | `(tactic| walk_at "few") => `(tactic| first | decide | (show 0 < 1000; decide) | (show 1 < 1000; decide) | (show 2 < 1000; decide) | (show 3 < 1000; decide) | (show 4 < 1000; decide) | (show 5 < 1000; decide) | (show 6 < 1000; decide))
/-! ### conditions -/
def qCmp (s : QS) : Option (Test × QS) := (qNode s).bind fun a => (qNode a.2).bind fun b => (some (qSkips wSame b.2)).bind fun x =>
  if x.1 = true then (qKey x.2).bind fun y => some (.same y.1, y.2)
  else (some (qSkips wLess x.2)).bind fun x2 => if x2.1 = true then (qKey x2.2).bind fun y => some (.less y.1, y.2)
    else (qKey x2.2).bind fun y => (qNeed wMore y.2).bind fun z => some (.more y.1, z.2)
def qPair (rd : QS → Option (Test × QS)) (s : QS) : Option (Test × QS) := (rd s).bind fun y => (some (qSkips wAnd y.2)).bind fun x =>
  if x.1 = true then (rd x.2).bind fun z => some (.and_ y.1 z.1, z.2)
  else (qNeed wOr x.2).bind fun u => (rd u.2).bind fun z => some (.or_ y.1 z.1, z.2)
def qCond : Nat → QS → Option (Test × QS)
  | 0, _ => none
  | f + 1, s => (qNode s).bind fun a => (some (qSkips wNot a.2)).bind fun x =>
    if x.1 = true then (qCond f x.2).bind fun y => (qNeed [41] y.2).bind fun z => some (.not_ y.1, z.2)
    else (qNeed [40] x.2).bind fun b => (if (([40] : Text).isPrefixOf b.2.rest || wNot.isPrefixOf b.2.rest) = true then qPair (qCond f) b.2 else qCmp b.2).bind fun y => (qNeed [41] y.2).bind fun z => some (y.1, z.2)
def WTest (K : PySem.W.Frag) : Hp → Test → V → Prop := fun F x v => ∃ b, v = .ref b ∧ TestAt K F b x
theorem made_new {K : PySem.W.Frag} {F H H3 : Hp} {x dx : Addr} {C : Str} {fs : List (Str × V)} (sF : Same F H) (hx : H x = none) (hdx : H dx = none) (hi : H3 x = some (.ins (He.ga K C) dx fs)) (k3 : ∀ b o, (upd (upd H dx (.own x)) x (.ins (He.ga K C) dx [])) b = some o → b ≠ x → H3 b = some o) :
    Go [] H F H3 (Gr H F H3) ∧ InsAt K (Gr H F H3) C x fs := by
  have s3 := Same.made hx hdx k3
  exact ⟨Go.new sF s3, dx, by rw [Gr.new hx]; exact hi⟩
/-- nodes only grow -/
theorem qNode_eq {s : QS} {x : Unit × QS} (h : qNode s = some x) : s.nodes < 30 ∧ x.2 = { s with nodes := s.nodes + 1 } := by
  unfold qNode at h
  split at h
  · cases h
  · have := Option.some.inj h
    subst this
    exact ⟨by omega, rfl⟩
theorem qSkips_nodes (w : Text) (s : QS) : (qSkips w s).2.nodes = s.nodes := by
  unfold qSkips
  split <;> rfl
theorem qNeed_nodes {w : Text} {s : QS} {x : Unit × QS} (h : qNeed w s = some x) : x.2.nodes = s.nodes := by
  unfold qNeed at h
  cases ho : off w s.rest with
  | none => rw [ho] at h; cases h
  | some r =>
    rw [ho] at h
    have := Option.some.inj h
    subst this
    rfl
theorem qKey_nodes {s : QS} {x : Vapaqa.Tree × QS} (h : qKey s = some x) : x.2.nodes = s.nodes := by
  unfold qKey at h
  cases ho : rdLeaf s.rest with
  | none => rw [ho] at h; cases h
  | some r =>
    rw [ho] at h
    have := Option.some.inj h
    subst this
    rfl
theorem qCmp_nodes {s : QS} {x : Test × QS} (h : qCmp s = some x) : tdepth x.1 = 0 ∧ s.nodes + 2 = x.2.nodes ∧ x.2.nodes ≤ 30 := by
  unfold qCmp at h
  cases ha : qNode s with
  | none => rw [ha] at h; cases h
  | some a =>
    obtain ⟨n1, e1⟩ := qNode_eq ha
    rw [ha, Option.bind_some] at h
    cases hb : qNode a.2 with
    | none => rw [hb] at h; cases h
    | some b =>
      obtain ⟨n2, e2⟩ := qNode_eq hb
      rw [hb, Option.bind_some, Option.bind_some] at h
      have n3 := qSkips_nodes wSame b.2
      have n4 := qSkips_nodes wLess (qSkips wSame b.2).2
      rw [e1] at n2 e2
      rw [e2] at n3 n4
      split at h
      · cases hk : qKey (qSkips wSame b.2).2 with
        | none => rw [hk] at h; cases h
        | some y =>
          rw [hk, Option.bind_some] at h
          have := qKey_nodes hk
          have e := Option.some.inj h
          subst e
          rw [e2] at this
          refine ⟨rfl, ?_, ?_⟩ <;> simp_all
          omega
      · rw [Option.bind_some] at h
        split at h
        · cases hk : qKey (qSkips wLess (qSkips wSame b.2).2).2 with
          | none => rw [hk] at h; cases h
          | some y =>
            rw [hk, Option.bind_some] at h
            have := qKey_nodes hk
            have e := Option.some.inj h
            subst e
            rw [e2] at this
            refine ⟨rfl, ?_, ?_⟩ <;> simp_all
            omega
        · cases hk : qKey (qSkips wLess (qSkips wSame b.2).2).2 with
          | none => rw [hk] at h; cases h
          | some y =>
            rw [hk, Option.bind_some] at h
            have := qKey_nodes hk
            cases hz : qNeed wMore y.2 with
            | none => rw [hz] at h; cases h
            | some z =>
              rw [hz, Option.bind_some] at h
              have hz2 := qNeed_nodes hz
              have e := Option.some.inj h
              subst e
              rw [e2] at this
              refine ⟨rfl, ?_, ?_⟩ <;> simp_all
              omega
theorem qPair_nodes {rd : QS → Option (Test × QS)} (hrd : ∀ s x, rd s = some x → tdepth x.1 + s.nodes < x.2.nodes ∧ x.2.nodes ≤ 30) {s : QS} {x : Test × QS} (h : qPair rd s = some x) : tdepth x.1 + s.nodes ≤ x.2.nodes ∧ x.2.nodes ≤ 30 := by
  unfold qPair at h
  cases hy : rd s with
  | none => rw [hy] at h; cases h
  | some y =>
    obtain ⟨n1, n2⟩ := hrd _ _ hy
    rw [hy, Option.bind_some, Option.bind_some] at h
    have n3 := qSkips_nodes wAnd y.2
    split at h
    · cases hz : rd (qSkips wAnd y.2).2 with
      | none => rw [hz] at h; cases h
      | some z =>
        obtain ⟨n4, n5⟩ := hrd _ _ hz
        rw [hz, Option.bind_some] at h
        have e := Option.some.inj h
        subst e
        show max (tdepth y.1) (tdepth z.1) + 1 + s.nodes ≤ z.2.nodes ∧ z.2.nodes ≤ 30
        omega
    · cases hu : qNeed wOr (qSkips wAnd y.2).2 with
      | none => rw [hu] at h; cases h
      | some u =>
        have n6 := qNeed_nodes hu
        rw [hu, Option.bind_some] at h
        cases hz : rd u.2 with
        | none => rw [hz] at h; cases h
        | some z =>
          obtain ⟨n4, n5⟩ := hrd _ _ hz
          rw [hz, Option.bind_some] at h
          have e := Option.some.inj h
          subst e
          show max (tdepth y.1) (tdepth z.1) + 1 + s.nodes ≤ z.2.nodes ∧ z.2.nodes ≤ 30
          omega
theorem qCond_nodes : ∀ (f : Nat) (s : QS) (x : Test × QS), qCond f s = some x → tdepth x.1 + s.nodes < x.2.nodes ∧ x.2.nodes ≤ 30
  | 0, _, _, h => by cases h
  | f + 1, s, x, h => by
    unfold qCond at h
    cases ha : qNode s with
    | none => rw [ha] at h; cases h
    | some a =>
      obtain ⟨n1, e1⟩ := qNode_eq ha
      rw [ha, Option.bind_some, Option.bind_some] at h
      have n0 : a.2.nodes = s.nodes + 1 := by rw [e1]
      have n2 := qSkips_nodes wNot a.2
      split at h
      · cases hy : qCond f (qSkips wNot a.2).2 with
        | none => rw [hy] at h; cases h
        | some y =>
          obtain ⟨n3, n4⟩ := qCond_nodes f _ _ hy
          rw [hy, Option.bind_some] at h
          cases hz : qNeed [41] y.2 with
          | none => rw [hz] at h; cases h
          | some z =>
            have n5 := qNeed_nodes hz
            rw [hz, Option.bind_some] at h
            have e := Option.some.inj h
            subst e
            show tdepth y.1 + 1 + s.nodes < z.2.nodes ∧ z.2.nodes ≤ 30
            omega
      · cases hb : qNeed [40] (qSkips wNot a.2).2 with
        | none => rw [hb] at h; cases h
        | some b =>
          have n5 := qNeed_nodes hb
          rw [hb, Option.bind_some] at h
          have key : ∀ y, (if (([40] : Text).isPrefixOf b.2.rest || wNot.isPrefixOf b.2.rest) = true then qPair (qCond f) b.2 else qCmp b.2) = some y → tdepth y.1 + s.nodes < y.2.nodes ∧ y.2.nodes ≤ 30 := by
            intro y hy
            split at hy
            · have := qPair_nodes (fun s x => qCond_nodes f s x) hy
              omega
            · have := qCmp_nodes hy
              omega
          cases hy : (if (([40] : Text).isPrefixOf b.2.rest || wNot.isPrefixOf b.2.rest) = true then qPair (qCond f) b.2 else qCmp b.2) with
          | none => rw [hy] at h; cases h
          | some y =>
            have k := key y hy
            rw [hy, Option.bind_some] at h
            cases hz : qNeed [41] y.2 with
            | none => rw [hz] at h; cases h
            | some z =>
              have n5 := qNeed_nodes hz
              rw [hz, Option.bind_some] at h
              have e := Option.some.inj h
              subst e
              show tdepth y.1 + s.nodes < z.2.nodes ∧ z.2.nodes ≤ 30
              omega
theorem QsAt.at {K : PySem.W.Frag} {F H : Hp} {B : Qb} {s : QS} (S : QsAt K F H B s) : ∃ dx i, H B.qr = some (.ins (He.ga K "QuestionReader") dx (rdF B i s.nodes s.stage)) := by
  obtain ⟨i, ⟨dx, h1⟩, -⟩ := S.rd
  exact ⟨dx, i, h1⟩
def spCond (K : PySem.W.Frag) (f : Nat) : Sp := spQr K [] (qCond f) (WTest K) fun s => 1 ≤ f ∧ 32 ≤ f + s.nodes
def spPair (K : PySem.W.Frag) (f : Nat) : Sp := spQr K [] (qPair (qCond f)) (WTest K) fun s => 1 ≤ f ∧ 32 ≤ f + s.nodes
section
variable {P : Program} {w : World} {K : PySem.W.Frag} {mg : Str → Option Value} {base : Heap}
theorem ok_QuestionReader_read_comparison (T : Facts K mg) : OkFn P w K mg base (L2.CX P w) 7 (He.ma K (He.ga K "QuestionReader") "read_comparison") 1 (spQr K [] qCmp (WTest K) fun _ => True) := by
  refine mk_fn T.d_QuestionReader_read_comparison sc_QuestionReader_read_comparison (fun _ _ _ _ _ _ us hl => match us, hl with | [_], _ => rfl) (fun vs H Q E h => ?_) (fun cdv A outer s H vs Q E hr h => ?_)
  · obtain ⟨_, _, _, rfl, _⟩ := h
    rfl
  · obtain ⟨F, B, s, rfl, sF, S, -, k⟩ := h
    refine ⟨_, (pss_cons (ps_expr (c_meth0 (pv 0) T.c_QuestionReader T.m_QuestionReader_add_node (ok_QuestionReader_add_node T) (hr.mono (by decide)) (pX (takes_of rfl rfl rfl rfl))))
      (pss_cons (ps_expr (c_meth0 (pv 0) T.c_QuestionReader T.m_QuestionReader_add_node (ok_QuestionReader_add_node T) (hr.mono (by decide)) (pX (takes_of rfl rfl rfl rfl))))
      (pss_cons (ps_if (pt_val (c_meth (pv 0) T.c_QuestionReader T.m_QuestionReader_skips (ok_QuestionReader_skips T) (hr.mono (by decide)) (pX (takes_of rfl rfl rfl rfl)) (pa_cons pe_str pa_nil)))
        (pss_one (ps_ret (c_make T.k_SameAs (ok_SameAs_init T) (hr.mono (by decide)) rfl T.g_SameAs pass0 (pa_cons (c_meth0 (pv 0) T.c_QuestionReader T.m_QuestionReader_read_key (ok_QuestionReader_read_key T) (hr.mono (by decide)) (pX (takes_of rfl rfl rfl rfl))) pa_nil))))
        pss_nil)
      (pss_cons (ps_if (pt_val (c_meth (pv 0) T.c_QuestionReader T.m_QuestionReader_skips (ok_QuestionReader_skips T) (hr.mono (by decide)) (pX (takes_of rfl rfl rfl rfl)) (pa_cons pe_str pa_nil)))
        (pss_one (ps_ret (c_make T.k_BeforeLeaf (ok_BeforeLeaf_init T) (hr.mono (by decide)) rfl T.g_BeforeLeaf pass0 (pa_cons (c_meth0 (pv 0) T.c_QuestionReader T.m_QuestionReader_read_key (ok_QuestionReader_read_key T) (hr.mono (by decide)) (pX (takes_of rfl rfl rfl rfl))) pa_nil))))
        pss_nil)
      (pss_cons (ps_set (i := 1) sc_QuestionReader_read_comparison.nd rfl (.inl rfl) (c_meth0 (pv 0) T.c_QuestionReader T.m_QuestionReader_read_key (ok_QuestionReader_read_key T) (hr.mono (by decide)) (pX (takes_of rfl rfl rfl rfl))))
      (pss_cons (ps_expr (c_meth (pv 0) T.c_QuestionReader T.m_QuestionReader_need (ok_QuestionReader_need T) (hr.mono (by decide)) (pX (takes_of rfl rfl rfl rfl)) (pa_cons pe_str pa_nil)))
      (pss_one (ps_ret (c_make T.k_BehindLeaf (ok_BehindLeaf_init T) (hr.mono (by decide)) rfl T.g_BehindLeaf pass0 (pa_cons (pv 1) pa_nil)))))))))), ?_⟩
    obtain ⟨dx, i, h1⟩ := S.at
    unfold qCmp at k
    refine ⟨_, rfl, _, _, _, rfl, h1, rfl, ?_⟩
    refine ⟨F, B, s, rfl, sF, S, trivial, k.bind fun x s1 H1 F1 v e1 g1 S1 hv k => ?_⟩
    obtain ⟨dx, i, h1⟩ := S1.at
    refine ⟨_, rfl, _, _, _, rfl, h1, rfl, ?_⟩
    refine ⟨F1, B, s1, rfl, g1.same, S1, trivial, k.bind fun x s2 H2 F2 v e2 g2 S2 hv k => ?_⟩
    obtain ⟨dx, i, h1⟩ := S2.at
    refine ⟨_, rfl, _, _, _, rfl, h1, rfl, ?_⟩
    walk_at "v"
    refine ⟨F2, B, s2, _, wSame, rfl, g2.same, S2, rfl, by decide, k.bind fun b s3 H3 F3 v e3 g3 S3 hv k => ?_⟩
    subst hv
    obtain ⟨dx, i, h1⟩ := S3.at
    refine ⟨_, rfl, ?_⟩
    cases b with
    | true =>
      rw [if_pos rfl] at k
      refine if_pos_of rfl ?_
      refine ⟨_, rfl, _, _, _, rfl, h1, rfl, ?_⟩
      refine ⟨F3, B, s3, rfl, g3.same, S3, trivial, k.bind fun y s4 H4 F4 v e4 g4 S4 hv k => ?_⟩
      obtain ⟨ka, rfl, hk, hlf⟩ := hv
      walk_at "v"
      intro x dx4 hx hdx hne
      refine ⟨x, dx4, _, rfl, upd_same, fun H5 hi5 k5 => ⟨rfl, ?_⟩⟩
      obtain ⟨g5, hi⟩ := made_new g4.same hx hdx hi5 k5
      exact k H5 _ _ (g5.wide (by simp)) (S4.go g5 g4.same (by simp)) ⟨x, rfl, ka, hi, hk.mono (g5.held g4.same), hlf⟩
    | false =>
      rw [if_neg (by simp)] at k
      refine if_neg_of rfl ?_
      refine ⟨_, rfl, _, _, _, rfl, h1, rfl, ?_⟩
      walk_at "v"
      refine ⟨F3, B, s3, _, wLess, rfl, g3.same, S3, rfl, by decide, k.bind fun b s4 H4 F4 v e4 g4 S4 hv k => ?_⟩
      subst hv
      obtain ⟨dx, i, h1⟩ := S4.at
      refine ⟨_, rfl, ?_⟩
      cases b with
      | true =>
        rw [if_pos rfl] at k
        refine if_pos_of rfl ?_
        refine ⟨_, rfl, _, _, _, rfl, h1, rfl, ?_⟩
        refine ⟨F4, B, s4, rfl, g4.same, S4, trivial, k.bind fun y s5 H5 F5 v e5 g5 S5 hv k => ?_⟩
        obtain ⟨ka, rfl, hk, hlf⟩ := hv
        walk_at "v"
        intro x dx4 hx hdx hne
        refine ⟨x, dx4, _, rfl, upd_same, fun H6 hi6 k6 => ⟨rfl, ?_⟩⟩
        obtain ⟨g6, hi⟩ := made_new g5.same hx hdx hi6 k6
        exact k H6 _ _ (g6.wide (by simp)) (S5.go g6 g5.same (by simp)) ⟨x, rfl, ka, hi, hk.mono (g6.held g5.same), hlf⟩
      | false =>
        rw [if_neg (by simp)] at k
        refine if_neg_of rfl ?_
        refine ⟨_, rfl, _, _, _, rfl, h1, rfl, ?_⟩
        refine ⟨F4, B, s4, rfl, g4.same, S4, trivial, k.bind fun y s5 H5 F5 v e5 g5 S5 hv k => ?_⟩
        obtain ⟨ka, rfl, hk, hlf⟩ := hv
        dsimp only [gName]
        obtain ⟨dx, i, h1⟩ := S5.at
        refine ⟨_, rfl, _, _, _, rfl, h1, rfl, ?_⟩
        walk_at "v"
        refine ⟨F5, B, s5, _, wMore, rfl, g5.same, S5, rfl, by decide, k.bind fun _ s6 H6 F6 v e6 g6 S6 hv k => ?_⟩
        walk_at "v"
        intro x dx4 hx hdx hne
        refine ⟨x, dx4, _, rfl, upd_same, fun H7 hi7 k7 => ⟨rfl, ?_⟩⟩
        obtain ⟨g7, hi⟩ := made_new g6.same hx hdx hi7 k7
        exact k H7 _ _ (g7.wide (by simp)) (S6.go g7 g6.same (by simp)) ⟨x, rfl, ka, hi, (hk.mono (g6.held g5.same)).mono (g7.held g6.same), hlf⟩
theorem ok_QuestionReader_read_pair (T : Facts K mg) {f : Nat} (G : OkFn P w K mg base (L2.CX P w) (2*f+8) (He.ma K (He.ga K "QuestionReader") "read_condition") 1 (spCond K f)) : OkFn P w K mg base (L2.CX P w) (2*f+9) (He.ma K (He.ga K "QuestionReader") "read_pair") 1 (spPair K f) := by
  refine mk_fn T.d_QuestionReader_read_pair sc_QuestionReader_read_pair (fun _ _ _ _ _ _ us hl => match us, hl with | [_], _ => rfl) (fun vs H Q E h => ?_) (fun cdv A outer s H vs Q E hr h => ?_)
  · obtain ⟨_, _, _, rfl, _⟩ := h
    rfl
  · obtain ⟨F, B, s, rfl, sF, S, pre, k⟩ := h
    refine ⟨_, (pss_cons (ps_set (i := 1) sc_QuestionReader_read_pair.nd rfl (.inl rfl) (c_meth0 (pv 0) T.c_QuestionReader T.m_QuestionReader_read_condition G (hr.mono (by omega)) (pX (takes_of rfl rfl rfl rfl))))
      (pss_cons (ps_if (pt_val (c_meth (pv 0) T.c_QuestionReader T.m_QuestionReader_skips (ok_QuestionReader_skips T) (hr.mono (by omega)) (pX (takes_of rfl rfl rfl rfl)) (pa_cons pe_str pa_nil)))
        (pss_one (ps_ret (c_make T.k_BothOf (ok_BothOf_init T) (hr.mono (by omega)) rfl T.g_BothOf pass0 (pa_cons (pv 1) (pa_cons (c_meth0 (pv 0) T.c_QuestionReader T.m_QuestionReader_read_condition G (hr.mono (by omega)) (pX (takes_of rfl rfl rfl rfl))) pa_nil)))))
        pss_nil)
      (pss_cons (ps_expr (c_meth (pv 0) T.c_QuestionReader T.m_QuestionReader_need (ok_QuestionReader_need T) (hr.mono (by omega)) (pX (takes_of rfl rfl rfl rfl)) (pa_cons pe_str pa_nil)))
      (pss_one (ps_ret (c_make T.k_EitherOf (ok_EitherOf_init T) (hr.mono (by omega)) rfl T.g_EitherOf pass0 (pa_cons (pv 1) (pa_cons (c_meth0 (pv 0) T.c_QuestionReader T.m_QuestionReader_read_condition G (hr.mono (by omega)) (pX (takes_of rfl rfl rfl rfl))) pa_nil)))))))), ?_⟩
    obtain ⟨dx, i, h1⟩ := S.at
    unfold qPair at k
    refine ⟨_, rfl, _, _, _, rfl, h1, rfl, ?_⟩
    refine ⟨F, B, s, rfl, sF, S, pre, k.bind fun x s1 H1 F1 v e1 g1 S1 hv k => ?_⟩
    obtain ⟨a1, rfl, ha1⟩ := hv
    have n1 := (qCond_nodes f s _ e1).1
    simp only at n1
    dsimp only [gName]
    obtain ⟨dx, i, h1⟩ := S1.at
    refine ⟨_, rfl, _, _, _, rfl, h1, rfl, ?_⟩
    walk_at "v"
    refine ⟨F1, B, s1, _, wAnd, rfl, g1.same, S1, rfl, by decide, k.bind fun b s2 H2 F2 v e2 g2 S2 hv k => ?_⟩
    subst hv
    have n2 : s2.nodes = s1.nodes := by
      have := qSkips_nodes wAnd s1
      rw [Option.some.inj e2] at this
      exact this
    obtain ⟨dx, i, h1⟩ := S2.at
    refine ⟨_, rfl, ?_⟩
    cases b with
    | true =>
      rw [if_pos rfl] at k
      refine if_pos_of rfl ?_
      walk_at "v"
      refine ⟨_, _, _, rfl, h1, rfl, ?_⟩
      refine ⟨F2, B, s2, rfl, g2.same, S2, ⟨pre.1, by omega⟩, k.bind fun y s3 H3 F3 v e3 g3 S3 hv k => ?_⟩
      obtain ⟨a2, rfl, ha2⟩ := hv
      intro x dx4 hx hdx hne
      refine ⟨x, dx4, _, _, rfl, upd_same, fun H4 hi4 k4 => ⟨rfl, ?_⟩⟩
      obtain ⟨g4, hi⟩ := made_new g3.same hx hdx hi4 k4
      exact k H4 _ _ (g4.wide (by simp)) (S3.go g4 g3.same (by simp)) ⟨x, rfl, a1, a2, hi, ((ha1.mono (g2.held g1.same)).mono (g3.held g2.same)).mono (g4.held g3.same), ha2.mono (g4.held g3.same)⟩
    | false =>
      rw [if_neg (by simp)] at k
      refine if_neg_of rfl ?_
      refine ⟨_, rfl, _, _, _, rfl, h1, rfl, ?_⟩
      walk_at "v"
      refine ⟨F2, B, s2, _, wOr, rfl, g2.same, S2, rfl, by decide, k.bind fun u s3 H3 F3 v e3 g3 S3 hv k => ?_⟩
      have n3 := qNeed_nodes e3
      simp only at n3
      obtain ⟨dx, i, h1⟩ := S3.at
      walk_at "v"
      refine ⟨_, _, _, rfl, h1, rfl, ?_⟩
      refine ⟨F3, B, s3, rfl, g3.same, S3, ⟨pre.1, by omega⟩, k.bind fun y s4 H4 F4 v e4 g4 S4 hv k => ?_⟩
      obtain ⟨a2, rfl, ha2⟩ := hv
      intro x dx4 hx hdx hne
      refine ⟨x, dx4, _, _, rfl, upd_same, fun H5 hi5 k5 => ⟨rfl, ?_⟩⟩
      obtain ⟨g5, hi⟩ := made_new g4.same hx hdx hi5 k5
      exact k H5 _ _ (g5.wide (by simp)) (S4.go g5 g4.same (by simp)) ⟨x, rfl, a1, a2, hi, (((ha1.mono (g2.held g1.same)).mono (g3.held g2.same)).mono (g4.held g3.same)).mono (g5.held g4.same), ha2.mono (g5.held g4.same)⟩
theorem ok_QuestionReader_read_condition (T : Facts K mg) {f : Nat} (G : OkFn P w K mg base (L2.CX P w) (2*f+8) (He.ma K (He.ga K "QuestionReader") "read_condition") 1 (spCond K f)) : OkFn P w K mg base (L2.CX P w) (2*(f+1)+8) (He.ma K (He.ga K "QuestionReader") "read_condition") 1 (spCond K (f+1)) := by
  refine mk_fn T.d_QuestionReader_read_condition sc_QuestionReader_read_condition (fun _ _ _ _ _ _ us hl => match us, hl with | [_], _ => rfl) (fun vs H Q E h => ?_) (fun cdv A outer s H vs Q E hr h => ?_)
  · obtain ⟨_, _, _, rfl, _⟩ := h
    rfl
  · obtain ⟨F, B, s, rfl, sF, S, pre, k⟩ := h
    refine ⟨_, (pss_cons (ps_expr (c_meth0 (pv 0) T.c_QuestionReader T.m_QuestionReader_add_node (ok_QuestionReader_add_node T) (hr.mono (by omega)) (pX (takes_of rfl rfl rfl rfl))))
      (pss_cons (ps_if (pt_val (c_meth (pv 0) T.c_QuestionReader T.m_QuestionReader_skips (ok_QuestionReader_skips T) (hr.mono (by omega)) (pX (takes_of rfl rfl rfl rfl)) (pa_cons pe_str pa_nil)))
        (pss_cons (ps_set (i := 1) sc_QuestionReader_read_condition.nd rfl (.inl rfl) (c_meth0 (pv 0) T.c_QuestionReader T.m_QuestionReader_read_condition G (hr.mono (by omega)) (pX (takes_of rfl rfl rfl rfl))))
        (pss_cons (ps_expr (c_meth (pv 0) T.c_QuestionReader T.m_QuestionReader_need (ok_QuestionReader_need T) (hr.mono (by omega)) (pX (takes_of rfl rfl rfl rfl)) (pa_cons pe_str pa_nil)))
        (pss_one (ps_ret (c_make T.k_Negation (ok_Negation_init T) (hr.mono (by omega)) rfl T.g_Negation pass0 (pa_cons (pv 1) pa_nil))))))
        pss_nil)
      (pss_cons (ps_expr (c_meth (pv 0) T.c_QuestionReader T.m_QuestionReader_need (ok_QuestionReader_need T) (hr.mono (by omega)) (pX (takes_of rfl rfl rfl rfl)) (pa_cons pe_str pa_nil)))
      (pss_cons (ps_if (PW.pt (pw_or (pt_val (c_meth (pv 0) T.c_QuestionReader T.m_QuestionReader_sees (ok_QuestionReader_sees T) (hr.mono (by omega)) pass0 (pa_cons pe_str pa_nil))) (pw_or1 (pt_val (c_meth (pv 0) T.c_QuestionReader T.m_QuestionReader_sees (ok_QuestionReader_sees T) (hr.mono (by omega)) pass0 (pa_cons pe_str pa_nil))))))
        (pss_one (ps_set (i := 2) sc_QuestionReader_read_condition.nd rfl (.inl rfl) (c_meth0 (pv 0) T.c_QuestionReader T.m_QuestionReader_read_pair (ok_QuestionReader_read_pair T G) (hr.mono (by omega)) (pX (takes_of rfl rfl rfl rfl)))))
        (pss_one (ps_set (i := 2) sc_QuestionReader_read_condition.nd rfl (.inl rfl) (c_meth0 (pv 0) T.c_QuestionReader T.m_QuestionReader_read_comparison (ok_QuestionReader_read_comparison T) (hr.mono (by omega)) (pX (takes_of rfl rfl rfl rfl))))))
      (pss_cons (ps_expr (c_meth (pv 0) T.c_QuestionReader T.m_QuestionReader_need (ok_QuestionReader_need T) (hr.mono (by omega)) (pX (takes_of rfl rfl rfl rfl)) (pa_cons pe_str pa_nil)))
      (pss_one (ps_ret (pv 2)))))))), ?_⟩
    obtain ⟨dx, i, h1⟩ := S.at
    unfold qCond at k
    refine ⟨_, rfl, _, _, _, rfl, h1, rfl, ?_⟩
    refine ⟨F, B, s, rfl, sF, S, trivial, k.bind fun x s1 H1 F1 v e1 g1 S1 hv k => ?_⟩
    obtain ⟨n0, n1⟩ := qNode_eq e1
    have n1' : s1.nodes = s.nodes + 1 := congrArg QS.nodes n1
    obtain ⟨dx, i, h1⟩ := S1.at
    refine ⟨_, rfl, _, _, _, rfl, h1, rfl, ?_⟩
    walk_at "v"
    refine ⟨F1, B, s1, _, wNot, rfl, g1.same, S1, rfl, by decide, k.bind fun b s2 H2 F2 v e2 g2 S2 hv k => ?_⟩
    subst hv
    have n2 : s2.nodes = s1.nodes := by
      have := qSkips_nodes wNot s1
      rw [Option.some.inj e2] at this
      exact this
    obtain ⟨dx, i, h1⟩ := S2.at
    refine ⟨_, rfl, ?_⟩
    cases b with
    | true =>
      rw [if_pos rfl] at k
      refine if_pos_of rfl ?_
      refine ⟨_, rfl, _, _, _, rfl, h1, rfl, ?_⟩
      refine ⟨F2, B, s2, rfl, g2.same, S2, ⟨by omega, by omega⟩, k.bind fun y s3 H3 F3 v e3 g3 S3 hv k => ?_⟩
      obtain ⟨a1, rfl, ha1⟩ := hv
      dsimp only [gName]
      obtain ⟨dx, i, h1⟩ := S3.at
      refine ⟨_, rfl, _, _, _, rfl, h1, rfl, ?_⟩
      walk_at "v"
      refine ⟨F3, B, s3, _, [41], rfl, g3.same, S3, rfl, by decide, k.bind fun u s4 H4 F4 v e4 g4 S4 hv k => ?_⟩
      walk_at "v"
      intro x dx4 hx hdx hne
      refine ⟨x, dx4, _, rfl, upd_same, fun H5 hi5 k5 => ⟨rfl, ?_⟩⟩
      obtain ⟨g5, hi⟩ := made_new g4.same hx hdx hi5 k5
      exact k H5 _ _ (g5.wide (by simp)) (S4.go g5 g4.same (by simp)) ⟨x, rfl, a1, hi, (ha1.mono (g4.held g3.same)).mono (g5.held g4.same)⟩
    | false =>
      rw [if_neg (by simp)] at k
      refine if_neg_of rfl ?_
      refine ⟨_, rfl, _, _, _, rfl, h1, rfl, ?_⟩
      walk_at "v"
      refine ⟨F2, B, s2, _, [40], rfl, g2.same, S2, rfl, by decide, k.bind fun u s3 H3 F3 v e3 g3 S3 hv k => ?_⟩
      have n3 := qNeed_nodes e3
      simp only at n3
      obtain ⟨dx, i, h1⟩ := S3.at
      dsimp only
      refine seq_cut (R := fun σ' H5 => ∃ (F5 : Hp) (s5 : QS) (y : Test) (a1 : Addr) (u : Option V), σ' = [some (.ref B.qr), u, some (.ref a1)] ∧ Same F5 H5 ∧ QsAt K F5 H5 B s5 ∧ TestAt K F5 a1 y ∧ Told K F5 H5 B ((qNeed [41] s5).bind fun z => some (y, z.2)) (WTest K) Q E) (fun nx kx => ?_) ?_
      · refine if_cut (R := fun b H4 => Same H3 H4 ∧ b = (([40] : Text).isPrefixOf s3.rest || wNot.isPrefixOf s3.rest)) (fun Q' kq => ?_) ?_ ?_
        · refine ⟨_, rfl, _, _, _, rfl, h1, rfl, ?_⟩
          walk_at "v"
          refine ⟨F3, B, s3, _, [40], rfl, g3.same, S3, rfl, by decide, fun H4 s4 => ?_⟩
          refine ⟨_, rfl, ?_⟩
          cases hp : ([40] : Text).isPrefixOf s3.rest with
          | true =>
            refine if_pos_of rfl ?_
            exact kq _ _ ⟨s4, by rw [hp, Bool.true_or]⟩
          | false =>
            refine if_neg_of rfl ?_
            refine ⟨_, rfl, _, _, _, rfl, s4 _ _ h1, rfl, ?_⟩
            walk_at "v"
            refine ⟨F3, B, s3, _, wNot, rfl, g3.same.trans s4, S3.go (S := []) (Go.idle g3.same s4) g3.same (by simp), rfl, by decide, fun H5 s5 => ?_⟩
            exact ⟨_, rfl, kq _ _ ⟨s4.trans s5, by rw [hp, Bool.false_or]⟩⟩
        · rintro H4 ⟨s4, hb⟩
          simp only [← hb, if_true] at k
          have g4 : Go [] H3 F3 H4 F3 := Go.idle g3.same s4
          refine ⟨_, rfl, _, _, _, rfl, s4 _ _ h1, rfl, ?_⟩
          refine ⟨F3, B, s3, rfl, g4.same, S3.go g4 g3.same (by simp), ⟨by omega, by omega⟩, (k.step (g4.wide (by simp))).bind fun y s5 H5 F5 v e5 g5 S5 hv k => ?_⟩
          obtain ⟨a1, rfl, ha1⟩ := hv
          exact kx _ _ ⟨F5, s5, y, a1, _, rfl, g5.same, S5, ha1, k⟩
        · rintro H4 ⟨s4, hb⟩
          simp only [← hb, Bool.false_eq_true, if_false] at k
          have g4 : Go [] H3 F3 H4 F3 := Go.idle g3.same s4
          refine ⟨_, rfl, _, _, _, rfl, s4 _ _ h1, rfl, ?_⟩
          refine ⟨F3, B, s3, rfl, g4.same, S3.go g4 g3.same (by simp), trivial, (k.step (g4.wide (by simp))).bind fun y s5 H5 F5 v e5 g5 S5 hv k => ?_⟩
          obtain ⟨a1, rfl, ha1⟩ := hv
          exact kx _ _ ⟨F5, s5, y, a1, _, rfl, g5.same, S5, ha1, k⟩
      · rintro σ' H5 ⟨F5, s5, y, a1, u, rfl, sF5, S5, ha1, k⟩
        obtain ⟨dx, i, h1⟩ := S5.at
        refine ⟨_, rfl, _, _, _, rfl, h1, rfl, ?_⟩
        walk_at "v"
        refine ⟨F5, B, s5, _, [41], rfl, sF5, S5, rfl, by decide, k.bind fun u s6 H6 F6 v e6 g6 S6 hv k => ?_⟩
        exact ⟨_, rfl, k H6 F6 _ (Go.refl g6.same) S6 ⟨a1, rfl, ha1.mono (g6.held sF5)⟩⟩
theorem ok_QuestionReader_read_condition0 (T : Facts K mg) : OkFn P w K mg base (L2.CX P w) 8 (He.ma K (He.ga K "QuestionReader") "read_condition") 1 (spCond K 0) := by
  refine mk_fn T.d_QuestionReader_read_condition sc_QuestionReader_read_condition (fun _ _ _ _ _ _ us hl => match us, hl with | [_], _ => rfl) (fun vs H Q E h => ?_) (fun cdv A outer s H vs Q E hr h => ?_)
  · obtain ⟨_, _, _, rfl, _⟩ := h
    rfl
  · obtain ⟨F, B, s, -, -, -, pre, -⟩ := h
    exact absurd pre.1 (by decide)
theorem ok_cond (T : Facts K mg) : ∀ f : Nat, OkFn P w K mg base (L2.CX P w) (2 * f + 8) (He.ma K (He.ga K "QuestionReader") "read_condition") 1 (spCond K f)
  | 0 => ok_QuestionReader_read_condition0 T
  | f + 1 => ok_QuestionReader_read_condition T (ok_cond T f)
end
end TS
end
section
set_option Elab.async false
set_option linter.all false
set_option maxRecDepth 100000
set_option maxHeartbeats 4000000
namespace TS
open PySem PySem.Spec PyProof.Rows L2
open Vapaqf (Head Way Token Test matches_ faultOf Plan)
open Vapaqa (Text Name stepText placeText textBefore off isSmall isDigit isSign)
local macro_rules | `(tactic| walk_at "v") => `(tactic| repeat (first | refine ⟨_, rfl, ?_⟩ | refine ⟨_, _, rfl, rfl, ?_⟩ | refine ⟨_, _, rfl, ?_⟩))
local macro_rules | `(tactic| walk_at "few") => `(tactic| first | decide | (show 0 < 1000; decide) | (show 1 < 1000; decide) | (show 2 < 1000; decide) | (show 3 < 1000; decide) | (show 4 < 1000; decide) | (show 5 < 1000; decide) | (show 6 < 1000; decide))
/-! ### brackets -/
def qHigh (low : Nat) (s : QS) : Option (Way × QS) := (qNeed [58] s).bind fun a => (if ([93] : Text).isPrefixOf a.2.rest = true then some (none, a.2) else (qNum 100 a.2).bind fun y => some (some y.1, y.2)).bind fun h => (qNeed [93] h.2).bind fun z => some (.items low h.1, z.2)
def qBrackets (s : QS) : Option (Way × QS) := (some (qSkips [93] s)).bind fun x => if x.1 = true then some (.each, x.2)
  else if ([58] : Text).isPrefixOf x.2.rest = true then qHigh 0 x.2
  else (qNum 100 x.2).bind fun y => (some (qSkips [93] y.2)).bind fun z => if z.1 = true then some (.items y.1 (some (y.1 + 1)), z.2) else qHigh y.1 z.2
def WWay (K : PySem.W.Frag) : Hp → Way → V → Prop := fun F x v => ∃ a, v = .ref a ∧ StepAt K F a x
section
variable {P : Program} {w : World} {K : PySem.W.Frag} {mg : Str → Option Value} {base : Heap}
theorem ok_QuestionReader_read_brackets (T : Facts K mg) : OkFn P w K mg base (L2.CX P w) 6 (He.ma K (He.ga K "QuestionReader") "read_brackets") 1 (spQr K [] qBrackets (WWay K) fun _ => True) := by
  refine mk_fn T.d_QuestionReader_read_brackets sc_QuestionReader_read_brackets (fun _ _ _ _ _ _ us hl => match us, hl with | [_], _ => rfl) (fun vs H Q E h => ?_) (fun cdv A outer s H vs Q E hr h => ?_)
  · obtain ⟨_, _, _, rfl, _⟩ := h
    rfl
  · obtain ⟨F, B, s, rfl, sF, S, -, k⟩ := h
    refine ⟨_, (pss_cons (ps_if (pt_val (c_meth (pv 0) T.c_QuestionReader T.m_QuestionReader_skips (ok_QuestionReader_skips T) (hr.mono (by decide)) (pX (takes_of rfl rfl rfl rfl)) (pa_cons pe_str pa_nil)))
        (pss_one (ps_ret (by exact pe_each T rfl)))
        pss_nil)
      (pss_cons (ps_set (i := 1) sc_QuestionReader_read_brackets.nd rfl (.inl rfl) pe_int)
      (pss_cons (ps_if (pt_not (pt_val (c_meth (pv 0) T.c_QuestionReader T.m_QuestionReader_sees (ok_QuestionReader_sees T) (hr.mono (by decide)) pass0 (pa_cons pe_str pa_nil))))
        (pss_cons (ps_set (i := 1) sc_QuestionReader_read_brackets.nd rfl (.inl rfl) (c_meth (pv 0) T.c_QuestionReader T.m_QuestionReader_number_up_to (ok_QuestionReader_number_up_to T) (hr.mono (by decide)) (pX (takes_of rfl rfl rfl rfl)) (pa_cons (pe_num rfl T.i_HIGHEST_ITEM) pa_nil)))
        (pss_one (ps_if (pt_val (c_meth (pv 0) T.c_QuestionReader T.m_QuestionReader_skips (ok_QuestionReader_skips T) (hr.mono (by decide)) (pX (takes_of rfl rfl rfl rfl)) (pa_cons pe_str pa_nil)))
          (pss_one (ps_ret (c_make T.k_ItemsStep (ok_ItemsStep_init T) (hr.mono (by decide)) rfl T.g_ItemsStep pass0 (pa_cons (pv 1) (pa_cons (pe_op op_add (pv 1) pe_int) pa_nil)))))
          pss_nil)))
        pss_nil)
      (pss_cons (ps_expr (c_meth (pv 0) T.c_QuestionReader T.m_QuestionReader_need (ok_QuestionReader_need T) (hr.mono (by decide)) (pX (takes_of rfl rfl rfl rfl)) (pa_cons pe_str pa_nil)))
      (pss_cons (ps_set (i := 2) sc_QuestionReader_read_brackets.nd rfl (.inl rfl) pe_non)
      (pss_cons (ps_if (pt_not (pt_val (c_meth (pv 0) T.c_QuestionReader T.m_QuestionReader_sees (ok_QuestionReader_sees T) (hr.mono (by decide)) pass0 (pa_cons pe_str pa_nil))))
        (pss_one (ps_set (i := 2) sc_QuestionReader_read_brackets.nd rfl (.inl rfl) (c_meth (pv 0) T.c_QuestionReader T.m_QuestionReader_number_up_to (ok_QuestionReader_number_up_to T) (hr.mono (by decide)) (pX (takes_of rfl rfl rfl rfl)) (pa_cons (pe_num rfl T.i_HIGHEST_ITEM) pa_nil))))
        pss_nil)
      (pss_cons (ps_expr (c_meth (pv 0) T.c_QuestionReader T.m_QuestionReader_need (ok_QuestionReader_need T) (hr.mono (by decide)) (pX (takes_of rfl rfl rfl rfl)) (pa_cons pe_str pa_nil)))
      (pss_one (ps_ret (c_make T.k_ItemsStep (ok_ItemsStep_init T) (hr.mono (by decide)) rfl T.g_ItemsStep pass0 (pa_cons (pv 1) (pa_cons (pv 2) pa_nil)))))))))))), ?_⟩
    obtain ⟨dx, i, h1⟩ := S.at
    unfold qBrackets at k
    refine ⟨_, rfl, _, _, _, rfl, h1, rfl, ?_⟩
    walk_at "v"
    refine ⟨F, B, s, _, [93], rfl, sF, S, rfl, by decide, k.bind fun b s1 H1 F1 v e1 g1 S1 hv k => ?_⟩
    subst hv
    obtain ⟨dx, i, h1⟩ := S1.at
    refine ⟨_, rfl, ?_⟩
    cases b with
    | true =>
      rw [if_pos rfl] at k
      refine if_pos_of rfl ?_
      intro y dxy hy hdxy hne
      obtain ⟨g2, hi⟩ := made_new (C := "EachStep") (fs := []) g1.same hy hdxy upd_same (fun b o e _ => e)
      exact k _ _ _ (g2.wide (by simp)) (S1.go g2 g1.same (by simp)) ⟨y, rfl, hi⟩
    | false =>
      rw [if_neg (by simp)] at k
      refine if_neg_of rfl ?_
      dsimp only [tNext]
      refine seq_set ?_
      refine seq_cut (R := fun σ' H' => ∃ (F' : Hp) (s' : QS) (low : Nat), σ' = [some (.ref B.qr), some (.int (low : Int)), none] ∧ Same F' H' ∧ QsAt K F' H' B s' ∧ Told K F' H' B (qHigh low s') (WWay K) Q E) (fun nx kx => ?_) ?_
      · refine ⟨_, rfl, _, _, _, rfl, h1, rfl, ?_⟩
        walk_at "v"
        refine ⟨F1, B, s1, _, [58], rfl, g1.same, S1, rfl, by decide, fun H2 s2 => ?_⟩
        have g2 : Go [] H1 F1 H2 F1 := Go.idle g1.same s2
        have S2 := S1.go g2 g1.same (by simp)
        refine ⟨_, rfl, ?_⟩
        cases hp : ([58] : Text).isPrefixOf s1.rest with
        | true =>
          simp only [hp, if_true] at k
          refine if_neg_of rfl ?_
          exact kx _ _ ⟨F1, s1, 0, rfl, g2.same, S2, k.step (g2.wide (by simp))⟩
        | false =>
          simp only [hp, Bool.false_eq_true, if_false] at k
          refine if_pos_of rfl ?_
          refine ⟨_, rfl, _, _, _, rfl, s2 _ _ h1, rfl, ?_⟩
          walk_at "v"
          refine ⟨F1, B, s1, 100, rfl, g2.same, S2, (k.step (g2.wide (by simp))).bind fun n s3 H3 F3 v e3 g3 S3 hv k => ?_⟩
          subst hv
          dsimp only [gName]
          obtain ⟨dx, i, h3⟩ := S3.at
          refine ⟨_, rfl, _, _, _, rfl, h3, rfl, ?_⟩
          walk_at "v"
          refine ⟨F3, B, s3, _, [93], rfl, g3.same, S3, rfl, by decide, k.bind fun b s4 H4 F4 v e4 g4 S4 hv k => ?_⟩
          subst hv
          refine ⟨_, rfl, ?_⟩
          cases b with
          | true =>
            rw [if_pos rfl] at k
            refine if_pos_of rfl ?_
            walk_at "v"
            intro x dx4 hx hdx hne
            refine ⟨x, dx4, _, _, rfl, upd_same, fun H5 hi5 k5 => ⟨rfl, ?_⟩⟩
            obtain ⟨g5, hi⟩ := made_new g4.same hx hdx hi5 k5
            exact k H5 _ _ (g5.wide (by simp)) (S4.go g5 g4.same (by simp)) ⟨x, rfl, hi⟩
          | false =>
            rw [if_neg (by simp)] at k
            refine if_neg_of rfl ?_
            exact kx _ _ ⟨F4, s4, n, rfl, g4.same, S4, k⟩
      · rintro σ' H2 ⟨F2, s2, low, rfl, sF2, S2, k⟩
        unfold qHigh at k
        obtain ⟨dx, i, h2⟩ := S2.at
        refine ⟨_, rfl, _, _, _, rfl, h2, rfl, ?_⟩
        walk_at "v"
        refine ⟨F2, B, s2, _, [58], rfl, sF2, S2, rfl, by decide, k.bind fun u s3 H3 F3 v e3 g3 S3 hv k => ?_⟩
        dsimp only
        refine seq_set ?_
        refine seq_cut (R := fun σ' H' => ∃ (F' : Hp) (s' : QS) (hh : Option Nat), σ' = [some (.ref B.qr), some (.int (low : Int)), some (highV hh)] ∧ Same F' H' ∧ QsAt K F' H' B s' ∧ Told K F' H' B ((qNeed [93] s').bind fun z => some (.items low hh, z.2)) (WWay K) Q E) (fun nx kx => ?_) ?_
        · obtain ⟨dx, i, h3⟩ := S3.at
          refine ⟨_, rfl, _, _, _, rfl, h3, rfl, ?_⟩
          walk_at "v"
          refine ⟨F3, B, s3, _, [93], rfl, g3.same, S3, rfl, by decide, fun H4 s4 => ?_⟩
          have g4 : Go [] H3 F3 H4 F3 := Go.idle g3.same s4
          have S4 := S3.go g4 g3.same (by simp)
          refine ⟨_, rfl, ?_⟩
          cases hp : ([93] : Text).isPrefixOf s3.rest with
          | true =>
            simp only [hp, if_true, Option.bind_some] at k
            refine if_neg_of rfl ?_
            exact kx _ _ ⟨F3, s3, none, rfl, g4.same, S4, k.step (g4.wide (by simp))⟩
          | false =>
            simp only [hp, Bool.false_eq_true, if_false, Option.bind_assoc, Option.bind_some] at k
            refine if_pos_of rfl ?_
            refine ⟨_, rfl, _, _, _, rfl, s4 _ _ h3, rfl, ?_⟩
            walk_at "v"
            refine ⟨F3, B, s3, 100, rfl, g4.same, S4, (k.step (g4.wide (by simp))).bind fun n s5 H5 F5 v e5 g5 S5 hv k => ?_⟩
            subst hv
            exact kx _ _ ⟨F5, s5, some n, rfl, g5.same, S5, k⟩
        · rintro σ' H4 ⟨F4, s4, hh, rfl, sF4, S4, k⟩
          obtain ⟨dx, i, h4⟩ := S4.at
          refine ⟨_, rfl, _, _, _, rfl, h4, rfl, ?_⟩
          walk_at "v"
          refine ⟨F4, B, s4, _, [93], rfl, sF4, S4, rfl, by decide, k.bind fun u s5 H5 F5 v e5 g5 S5 hv k => ?_⟩
          walk_at "v"
          intro x dx4 hx hdx hne
          refine ⟨x, dx4, _, _, rfl, upd_same, fun H6 hi6 k6 => ⟨rfl, ?_⟩⟩
          obtain ⟨g6, hi⟩ := made_new g5.same hx hdx hi6 k6
          exact k H6 _ _ (g6.wide (by simp)) (S5.go g6 g5.same (by simp)) ⟨x, rfl, hi⟩
end
end TS
end
section
set_option Elab.async false
set_option linter.all false
set_option maxRecDepth 100000
set_option maxHeartbeats 4000000
namespace TS
open PySem PySem.Spec PyProof.Rows L2
open Vapaqf (Head Way Token Test matches_ faultOf Plan)
open Vapaqa (Text Name stepText placeText textBefore off isSmall isDigit isSign)
local macro_rules | `(tactic| walk_at "v") => `(tactic| repeat (first | refine ⟨_, rfl, ?_⟩ | refine ⟨_, _, rfl, rfl, ?_⟩ | refine ⟨_, _, rfl, ?_⟩))
local macro_rules | `(tactic| walk_at "few") => `(tactic| first | decide | (show 0 < 1000; decide) | (show 1 < 1000; decide) | (show 2 < 1000; decide) | (show 3 < 1000; decide) | (show 4 < 1000; decide) | (show 5 < 1000; decide) | (show 6 < 1000; decide))
/-! ### links and chains -/
def qName (s : QS) : Option (Name × QS) := (rdName s.rest).bind fun x => some (x.1, { s with rest := x.2 })
def qTest (t : Test) (s : QS) : QS := { s with plan := { s.plan with test := some t } }
def qDeep (s : QS) : QS := { s with plan := { s.plan with deep := true } }
def qLink (s : QS) : Option (Unit × QS) := (some (qSkips wWhere s)).bind fun x => if x.1 = true then (qStage 1 2 x.2).bind fun a => (qCond 31 a.2).bind fun c => (qNeed [41] (qTest c.1 c.2))
  else (some (qSkips [46, 46] x.2)).bind fun x2 => if x2.1 = true then (qStage 0 1 x2.2).bind fun a => some ((), qDeep a.2)
  else (some (qSkips [46, 91] x2.2)).bind fun x3 => if x3.1 = true then (qBrackets x3.2).bind fun wy => qStep wy.1 wy.2
  else (qNeed [46] x3.2).bind fun a => if a.2.rest.head?.any isSmall = true then (qName a.2).bind fun n => qStep (.field n.1) n.2 else some ((), a.2)
def qChain : Nat → QS → Option (Unit × QS)
  | 0, _ => none
  | f + 1, s => (qNode s).bind fun a => (some (qSkips [40] a.2)).bind fun x => if x.1 = true then (qChain f x.2).bind fun b => (qNeed wPipe b.2).bind fun c => (qChain f c.2).bind fun d => qNeed [41] d.2 else qLink x.2
/-- the plan stands, and nothing is added to the rest -/
structure Le (s s' : QS) : Prop where
  plan : s'.plan = s.plan
  rest : s'.rest.length ≤ s.rest.length
  nodes : s.nodes = s'.nodes
theorem Le.trans {a b c : QS} (h : Le a b) (h2 : Le b c) : Le a c := ⟨h2.plan.trans h.plan, Nat.le_trans h2.rest h.rest, h.nodes.trans h2.nodes⟩
theorem Le.refl (a : QS) : Le a a := ⟨rfl, Nat.le_refl _, rfl⟩
theorem qNeed_le {w : Text} {s : QS} {x : Unit × QS} (h : qNeed w s = some x) : Le s x.2 ∧ s.rest.length = w.length + x.2.rest.length := by
  unfold qNeed at h
  cases ho : off w s.rest with
  | none => rw [ho] at h; cases h
  | some r =>
    rw [ho] at h
    have := Option.some.inj h
    subst this
    have := off_len ho
    exact ⟨⟨rfl, by show r.length ≤ _; omega, rfl⟩, this⟩
theorem qSkips_le (w : Text) (s : QS) : Le s (qSkips w s).2 ∧ ((qSkips w s).1 = true → s.rest.length = w.length + (qSkips w s).2.rest.length) := by
  unfold qSkips
  cases ho : off w s.rest with
  | none => exact ⟨.refl _, fun h => by cases h⟩
  | some r =>
    have := off_len ho
    exact ⟨⟨rfl, by show r.length ≤ _; omega, rfl⟩, fun _ => this⟩
theorem qNum_le {n : Nat} {s : QS} {x : Nat × QS} (h : qNum n s = some x) : Le s x.2 := by
  unfold qNum at h
  cases ho : rdNumber 0 (n : Int) s.rest with
  | none => rw [ho] at h; cases h
  | some r =>
    rw [ho] at h
    have := Option.some.inj h
    subst this
    obtain ⟨e, -, -⟩ := rdNumber_sound (z := r.1) (r := r.2) ho
    have := congrArg List.length e
    rw [List.length_append] at this
    exact ⟨rfl, by show r.2.length ≤ _; omega, rfl⟩
theorem qHigh_le {low : Nat} {s : QS} {x : Way × QS} (h : qHigh low s = some x) : Le s x.2 := by
  unfold qHigh at h
  cases ha : qNeed [58] s with
  | none => rw [ha] at h; cases h
  | some a =>
    rw [ha, Option.bind_some] at h
    have l1 := (qNeed_le ha).1
    have fin : ∀ (hh : Option Nat) (s2 : QS), Le s s2 → ((qNeed [93] s2).bind fun z => some (Way.items low hh, z.2)) = some x → Le s x.2 := by
      intro hh s2 l2 h
      cases hz : qNeed [93] s2 with
      | none => rw [hz] at h; cases h
      | some z =>
        rw [hz, Option.bind_some] at h
        have := Option.some.inj h
        subst this
        exact l2.trans (qNeed_le hz).1
    split at h
    · exact fin _ _ l1 h
    · cases hn : qNum 100 a.2 with
      | none => rw [hn] at h; cases h
      | some y =>
        rw [hn, Option.bind_some, Option.bind_some] at h
        exact fin _ _ (l1.trans (qNum_le hn)) h
theorem qBrackets_le {s : QS} {x : Way × QS} (h : qBrackets s = some x) : Le s x.2 := by
  unfold qBrackets at h
  rw [Option.bind_some] at h
  have l1 := (qSkips_le [93] s).1
  split at h
  · have := Option.some.inj h
    subst this
    exact l1
  · split at h
    · exact l1.trans (qHigh_le h)
    · cases hn : qNum 100 (qSkips [93] s).2 with
      | none => rw [hn] at h; cases h
      | some y =>
        rw [hn, Option.bind_some, Option.bind_some] at h
        have l2 := l1.trans (qNum_le hn)
        have l3 := l2.trans (qSkips_le [93] y.2).1
        split at h
        · have := Option.some.inj h
          subst this
          exact l3
        · exact l3.trans (qHigh_le h)
theorem qStage_eq {a b : Nat} {s : QS} {x : Unit × QS} (h : qStage a b s = some x) : x.2 = { s with stage := b } := by
  unfold qStage at h
  split at h
  · cases h
  · have := Option.some.inj h
    subst this
    rfl
theorem qStep_nodes {wy : Way} {s : QS} {x : Unit × QS} (h : qStep wy s = some x) : x.2.nodes = s.nodes := by
  unfold qStep at h
  split at h
  · cases h
  · have := Option.some.inj h
    subst this
    rfl
theorem Told.non {α : Type} {K : PySem.W.Frag} {F H : Hp} {B : Qb} {r : Option (α × QS)} {Q : VK} {E : XK} (k : Told K F H B r WNon Q E) : Told K F H B r WNon (fun _ H1 => Q .non H1) E := by
  cases r with
  | none => exact k
  | some x => exact fun H1 F1 v g q w => k H1 F1 .non g q rfl
theorem QsAt.atq {K : PySem.W.Frag} {F H : Hp} {B : Qb} {s : QS} (S : QsAt K F H B s) : ∃ dq c, H B.qa = some (.ins (He.ga K "Question") dq (questF s.plan B.sl c)) ∧ TestV K F c s.plan.test := by
  obtain ⟨c, as, ⟨dq, e5⟩, e6, e7, e8⟩ := S.q
  exact ⟨dq, c, e5, e8⟩
theorem QsAt.putQ {K : PySem.W.Frag} {F H : Hp} {B : Qb} {s : QS} {p : Plan} {c c' : V} {dq : Addr} (S : QsAt K F H B s) (sF : Same F H) (hq : H B.qa = some (.ins (He.ga K "Question") dq (questF s.plan B.sl c))) (hst : p.steps = s.plan.steps) (hT : TestV K F c' p.test) :
    Go B.S H F (upd H B.qa (.ins (He.ga K "Question") dq (questF p B.sl c'))) F ∧ QsAt K F (upd H B.qa (.ins (He.ga K "Question") dq (questF p B.sl c'))) B { s with plan := p } := by
  obtain ⟨c0, as, e5, e6, e7, e8⟩ := S.q
  obtain ⟨i, ⟨dx, h1⟩, h2, h3, h4⟩ := S.rd
  refine ⟨Go.put sF (by simp [Qb.S]) S.f2, S.f1, S.f2, S.f3, S.txt, S.short, S.n1, S.n2, S.n3, ⟨i, ⟨dx, (upd_ne S.n1).trans h1⟩, h2, h3, by rw [hst]; exact h4⟩, ⟨c', as, ⟨dq, upd_same⟩, (upd_ne S.n3.symm).trans e6, ?_, hT⟩⟩
  show StepsAt K F as p.steps
  rw [hst]
  exact e7
theorem QsAt.room {K : PySem.W.Frag} {F H : Hp} {B : Qb} {s : QS} (S : QsAt K F H B s) : s.plan.steps.length + s.rest.length ≤ B.t.length := by
  obtain ⟨i, -, h2, h3, h4⟩ := S.rd
  have := congrArg List.length h3
  rw [List.length_drop] at this
  omega
section
variable {P : Program} {w : World} {K : PySem.W.Frag} {mg : Str → Option Value} {base : Heap}
theorem ok_QuestionReader_read_link (T : Facts K mg) : OkFn P w K mg base (L2.CX P w) 71 (He.ma K (He.ga K "QuestionReader") "read_link") 1 (spQr K [] qLink WNon fun s => 1 ≤ s.nodes) := by
  refine mk_fn T.d_QuestionReader_read_link sc_QuestionReader_read_link (fun _ _ _ _ _ _ us hl => match us, hl with | [_], _ => rfl) (fun vs H Q E h => ?_) (fun cdv A outer s H vs Q E hr h => ?_)
  · obtain ⟨_, _, _, rfl, _⟩ := h
    rfl
  · obtain ⟨F, B, s, rfl, sF, S, pre, k⟩ := h
    refine ⟨_, (pss_one (ps_if (pt_val (c_meth (pv 0) T.c_QuestionReader T.m_QuestionReader_skips (ok_QuestionReader_skips T) (hr.mono (by decide)) (pX (takes_of rfl rfl rfl rfl)) (pa_cons pe_str pa_nil)))
        (pss_cons (ps_expr (c_meth (pv 0) T.c_QuestionReader T.m_QuestionReader_pass_stage (ok_QuestionReader_pass_stage T) (hr.mono (by decide)) (pX (takes_of rfl rfl rfl rfl)) (pa_cons (pe_num rfl T.i_BEHIND_DEEP) (pa_cons (pe_num rfl T.i_BEHIND_WHERE) pa_nil))))
        (pss_cons (ps_fld (pe_fld (pv 0) rfl) (c_meth0 (pv 0) T.c_QuestionReader T.m_QuestionReader_read_condition (ok_cond T 31) (hr.mono (by decide)) (pX (takes_of rfl rfl rfl rfl))) rfl)
        (pss_one (ps_expr (c_meth (pv 0) T.c_QuestionReader T.m_QuestionReader_need (ok_QuestionReader_need T) (hr.mono (by decide)) (pX (takes_of rfl rfl rfl rfl)) (pa_cons pe_str pa_nil))))))
        (pss_one (ps_if (pt_val (c_meth (pv 0) T.c_QuestionReader T.m_QuestionReader_skips (ok_QuestionReader_skips T) (hr.mono (by decide)) (pX (takes_of rfl rfl rfl rfl)) (pa_cons pe_str pa_nil)))
          (pss_cons (ps_expr (c_meth (pv 0) T.c_QuestionReader T.m_QuestionReader_pass_stage (ok_QuestionReader_pass_stage T) (hr.mono (by decide)) (pX (takes_of rfl rfl rfl rfl)) (pa_cons (pe_num rfl T.i_AT_STEPS) (pa_cons (pe_num rfl T.i_BEHIND_DEEP) pa_nil))))
          (pss_one (ps_fld (pe_fld (pv 0) rfl) pe_bl rfl)))
          (pss_one (ps_if (pt_val (c_meth (pv 0) T.c_QuestionReader T.m_QuestionReader_skips (ok_QuestionReader_skips T) (hr.mono (by decide)) (pX (takes_of rfl rfl rfl rfl)) (pa_cons pe_str pa_nil)))
            (pss_one (ps_expr (c_meth (pv 0) T.c_QuestionReader T.m_QuestionReader_add_step (ok_QuestionReader_add_step T) (hr.mono (by decide)) (pX (takes_of rfl rfl rfl rfl)) (pa_cons (c_meth0 (pv 0) T.c_QuestionReader T.m_QuestionReader_read_brackets (ok_QuestionReader_read_brackets T) (hr.mono (by decide)) (pX (takes_of rfl rfl rfl rfl))) pa_nil))))
            (pss_cons (ps_expr (c_meth (pv 0) T.c_QuestionReader T.m_QuestionReader_need (ok_QuestionReader_need T) (hr.mono (by decide)) (pX (takes_of rfl rfl rfl rfl)) (pa_cons pe_str pa_nil)))
            (pss_one (ps_if (pt_val (c_fn (ok_small T) (hr.mono (by decide)) rfl T.g_is_small_letter pass0 (pa_cons (c_fn (ok_byte_at T) (hr.mono (by decide)) rfl T.g_byte_at pass0 (pa_cons (pe_fld (pv 0) rfl) (pa_cons (pe_fld (pv 0) rfl) pa_nil))) pa_nil)))
              (pss_cons (ps_asg (c_fn (ok_read_name T) (hr.mono (by decide)) rfl T.g_read_name (pX (takes_of rfl rfl rfl rfl)) (pa_cons (pe_fld (pv 0) rfl) (pa_cons (pe_fld (pv 0) rfl) pa_nil))) (pg_tup rfl (pgs_cons (pg_name (i := 1) sc_QuestionReader_read_link.nd rfl (.inl rfl)) (pgs_cons (pg_name (i := 2) sc_QuestionReader_read_link.nd rfl (.inl rfl)) pgs_nil))))
              (pss_cons (ps_fld (pv 0) (pv 2) rfl)
              (pss_one (ps_expr (c_meth (pv 0) T.c_QuestionReader T.m_QuestionReader_add_step (ok_QuestionReader_add_step T) (hr.mono (by decide)) (pX (takes_of rfl rfl rfl rfl)) (pa_cons (c_make T.k_FieldStep (ok_FieldStep_init T) (hr.mono (by decide)) rfl T.g_FieldStep pass0 (pa_cons (pv 1) pa_nil)) pa_nil))))))
              pss_nil))))))))), ?_⟩
    obtain ⟨dx, i, h1⟩ := S.at
    unfold qLink at k
    refine ⟨_, rfl, _, _, _, rfl, h1, rfl, ?_⟩
    walk_at "v"
    refine ⟨F, B, s, _, wWhere, rfl, sF, S, rfl, by decide, k.bind fun b s1 H1 F1 v e1 g1 S1 hv k => ?_⟩
    subst hv
    have l1 := qSkips_le wWhere s
    rw [Option.some.inj e1] at l1
    obtain ⟨dx, i, h1⟩ := S1.at
    refine ⟨_, rfl, ?_⟩
    cases b with
    | true =>
      rw [if_pos rfl] at k
      refine if_pos_of rfl ?_
      refine ⟨_, rfl, _, _, _, rfl, h1, rfl, ?_⟩
      walk_at "v"
      refine ⟨F1, B, s1, 1, 2, rfl, g1.same, S1, k.bind fun u s2 H2 F2 v e2 g2 S2 hv k => ?_⟩
      have n2 : s2.nodes = s1.nodes := by
        have z := congrArg QS.nodes (qStage_eq e2)
        exact z
      have n1 := l1.1.nodes
      simp only at n1
      obtain ⟨dx, i, h2⟩ := S2.at
      refine ⟨_, rfl, _, _, _, rfl, h2, rfl, ?_⟩
      refine ⟨F2, B, s2, rfl, g2.same, S2, ⟨by decide, by omega⟩, k.bind fun c s3 H3 F3 v e3 g3 S3 hv k => ?_⟩
      obtain ⟨a1, rfl, ha1⟩ := hv
      have hd := qCond_nodes 31 _ _ e3
      simp only at hd
      obtain ⟨dx, i, h3⟩ := S3.at
      obtain ⟨dq, c0, hq, -⟩ := S3.atq
      obtain ⟨g4, S4⟩ := S3.putQ (p := { s3.plan with test := some c }) (c' := .ref a1) g3.same hq rfl ⟨a1, rfl, ha1, by omega⟩
      refine ⟨_, rfl, _, _, _, _, _, rfl, h3, T.c_QuestionReader, T.n_QuestionReader_question, rfl, ?_⟩
      refine ⟨_, _, _, _, rfl, hq, T.c_Question, T.n_Question_condition, by walk_at "few", ?_⟩
      dsimp only
      obtain ⟨dx, i, h4⟩ := S4.at
      refine ⟨_, rfl, _, _, _, rfl, h4, rfl, ?_⟩
      walk_at "v"
      exact ⟨F3, B, _, _, [41], rfl, g4.same, S4, rfl, by decide, Told.non (k.step g4)⟩
    | false =>
      rw [if_neg (by simp)] at k
      refine if_neg_of rfl ?_
      refine ⟨_, rfl, _, _, _, rfl, h1, rfl, ?_⟩
      walk_at "v"
      refine ⟨F1, B, s1, _, [46, 46], rfl, g1.same, S1, rfl, by decide, k.bind fun b s2 H2 F2 v e2 g2 S2 hv k => ?_⟩
      subst hv
      obtain ⟨dx, i, h2⟩ := S2.at
      refine ⟨_, rfl, ?_⟩
      cases b with
      | true =>
        rw [if_pos rfl] at k
        refine if_pos_of rfl ?_
        refine ⟨_, rfl, _, _, _, rfl, h2, rfl, ?_⟩
        walk_at "v"
        refine ⟨F2, B, s2, 0, 1, rfl, g2.same, S2, k.bind fun u s3 H3 F3 v e3 g3 S3 hv k => ?_⟩
        obtain ⟨dx, i, h3⟩ := S3.at
        obtain ⟨dq, c0, hq, hT⟩ := S3.atq
        obtain ⟨g4, S4⟩ := S3.putQ (p := { s3.plan with deep := true }) (c' := c0) g3.same hq rfl hT
        walk_at "v"
        refine ⟨_, _, _, _, _, rfl, h3, T.c_QuestionReader, T.n_QuestionReader_question, rfl, ?_⟩
        refine ⟨_, _, _, _, rfl, hq, T.c_Question, T.n_Question_deep, by walk_at "few", ?_⟩
        exact k _ F3 _ g4 S4 rfl
      | false =>
        rw [if_neg (by simp)] at k
        refine if_neg_of rfl ?_
        refine ⟨_, rfl, _, _, _, rfl, h2, rfl, ?_⟩
        walk_at "v"
        refine ⟨F2, B, s2, _, [46, 91], rfl, g2.same, S2, rfl, by decide, k.bind fun b s3 H3 F3 v e3 g3 S3 hv k => ?_⟩
        subst hv
        have l3 := qSkips_le [46, 91] s2
        rw [Option.some.inj e3] at l3
        obtain ⟨dx, i, h3⟩ := S3.at
        refine ⟨_, rfl, ?_⟩
        cases b with
        | true =>
          rw [if_pos rfl] at k
          refine if_pos_of rfl ?_
          refine ⟨_, rfl, _, _, _, rfl, h3, rfl, ?_⟩
          refine ⟨_, rfl, _, _, _, rfl, h3, rfl, ?_⟩
          refine ⟨F3, B, s3, rfl, g3.same, S3, trivial, k.bind fun wy s4 H4 F4 v e4 g4 S4 hv k => ?_⟩
          obtain ⟨a1, rfl, ha1⟩ := hv
          have l4 := qBrackets_le e4
          refine ⟨F4, B, s4, a1, wy, rfl, g4.same, S4, ha1, ?_, Told.non k⟩
          have r2 := S2.room
          have h5 := l3.2 rfl
          have h6 := l4.rest
          have h7 := l4.plan
          have h8 := l3.1.plan
          simp only [List.length_cons, List.length_nil] at h5 h6 h7 h8
          rw [h7, h8]
          omega
        | false =>
          rw [if_neg (by simp)] at k
          refine if_neg_of rfl ?_
          refine ⟨_, rfl, _, _, _, rfl, h3, rfl, ?_⟩
          walk_at "v"
          refine ⟨F3, B, s3, _, [46], rfl, g3.same, S3, rfl, by decide, k.bind fun u s4 H4 F4 v e4 g4 S4 hv k => ?_⟩
          have l4 := qNeed_le e4
          obtain ⟨i, ⟨dx, h4⟩, hi, hd, hst⟩ := S4.rd
          refine ⟨_, rfl, _, _, _, _, _, rfl, h4, T.c_QuestionReader, T.n_QuestionReader_text, rfl, ?_⟩
          refine ⟨_, rfl, _, _, _, _, _, rfl, h4, T.c_QuestionReader, T.n_QuestionReader_at, rfl, ?_⟩
          walk_at "v"
          refine ⟨B.ta, B.t, i, rfl, g4.same _ _ S4.txt, ?_⟩
          walk_at "v"
          have esm : smallI (byteAt (B.t.drop i)) = s4.rest.head?.any isSmall := by rw [smallI_at, hd]
          cases hsm : s4.rest.head?.any isSmall with
          | false =>
            simp only [hsm, Bool.false_eq_true, if_false] at k
            refine if_neg_of (esm.trans hsm) ?_
            exact k H4 F4 _ (Go.refl g4.same) S4 rfl
          | true =>
            simp only [hsm, if_true] at k
            refine if_pos_of (esm.trans hsm) ?_
            refine ⟨_, rfl, _, _, _, _, _, rfl, h4, T.c_QuestionReader, T.n_QuestionReader_text, rfl, ?_⟩
            refine ⟨_, rfl, _, _, _, _, _, rfl, h4, T.c_QuestionReader, T.n_QuestionReader_at, rfl, ?_⟩
            walk_at "v"
            unfold qName at k
            refine ⟨F4, B.ta, B.t, i, rfl, g4.same, S4.txt, hi, fun n r hn H5 p b e s5 hp hb he1 he2 => ?_, fun hno H5 s5 => ?_⟩
            · rw [hd] at hn
              simp only [hn, Option.bind_some] at k
              obtain ⟨⟨hnn, hnl⟩, hnlt⟩ := rdName_ok hn
              have g5 : Go [] H4 F4 H5 _ := Go.new (S := []) g4.same s5
              have S5 := S4.go g5 g4.same (by simp)
              refine ⟨p, _, rfl, SqT.of hp, rfl, ?_⟩
              refine ⟨_, _, rfl, _, _, rfl, rfl, ?_⟩
              dsimp only [gName]
              have hie : i ≤ e := by
                have h3 := congrArg List.length he1
                have h6 := congrArg List.length hd
                rw [List.length_drop] at h3 h6
                omega
              obtain ⟨g6, S6⟩ := S5.put (s' := { s4 with rest := r }) g5.same (s5 _ _ h4) rfl he2 he1 (by show s4.plan.steps.length ≤ e; omega)
              refine ⟨_, rfl, _, rfl, _, _, _, _, rfl, s5 _ _ h4, T.c_QuestionReader, T.n_QuestionReader_at, by walk_at "few", ?_⟩
              dsimp only
              have kk := (k.step (g5.wide (by simp))).step g6
              obtain ⟨dx7, i7, h7⟩ := S6.at
              refine ⟨_, rfl, _, _, _, rfl, h7, rfl, ?_⟩
              walk_at "v"
              intro x dx8 hx hdx hne
              refine ⟨x, dx8, _, rfl, upd_same, fun H8 hi8 k8 => ⟨rfl, ?_⟩⟩
              obtain ⟨g8, hi8'⟩ := made_new g6.same hx hdx hi8 k8
              refine ⟨_, B, _, x, .field n, rfl, g8.same, S6.go g8 g6.same (by simp), ⟨b, hi8', g8.held g6.same _ _ (g6.held g5.same _ _ hb)⟩, ?_, Told.non (kk.step (g8.wide (by simp)))⟩
              have r2 := S3.room
              have h9 := l4.2
              have h10 := l4.1.plan
              simp only [List.length_cons, List.length_nil] at h9 h10
              show s4.plan.steps.length + 1 + r.length ≤ _
              rw [h10]
              omega
            · rw [hd] at hno
              simp only [hno, Option.bind_none] at k
              exact k H5 F4 (Go.idle g4.same s5)
end
end TS
end
section
set_option Elab.async false
set_option linter.all false
set_option maxRecDepth 100000
set_option maxHeartbeats 4000000
namespace TS
open PySem PySem.Spec PyProof.Rows L2
open Vapaqf (Head Way Token Test matches_ faultOf Plan)
open Vapaqa (Text Name stepText placeText textBefore off isSmall isDigit isSign)
local macro_rules | `(tactic| walk_at "v") => `(tactic| repeat (first | refine ⟨_, rfl, ?_⟩ | refine ⟨_, _, rfl, rfl, ?_⟩ | refine ⟨_, _, rfl, ?_⟩))
local macro_rules | `(tactic| walk_at "few") => `(tactic| first | decide | (show 0 < 1000; decide) | (show 1 < 1000; decide) | (show 2 < 1000; decide) | (show 3 < 1000; decide) | (show 4 < 1000; decide) | (show 5 < 1000; decide) | (show 6 < 1000; decide))
theorem qLink_nodes {s : QS} {x : Unit × QS} (h : qLink s = some x) : s.nodes ≤ x.2.nodes := by
  unfold qLink at h
  rw [Option.bind_some] at h
  have l1 := (qSkips_le wWhere s).1.nodes
  split at h
  · cases ha : qStage 1 2 (qSkips wWhere s).2 with
    | none => rw [ha] at h; cases h
    | some a =>
      have n1 := congrArg QS.nodes (qStage_eq ha)
      rw [ha, Option.bind_some] at h
      cases hc : qCond 31 a.2 with
      | none => rw [hc] at h; cases h
      | some c =>
        have n2 := (qCond_nodes _ _ _ hc).1
        rw [hc, Option.bind_some] at h
        have n3 := qNeed_nodes h
        have n4 : (qTest c.1 c.2).nodes = c.2.nodes := rfl
        simp only at n1
        omega
  · rw [Option.bind_some] at h
    have l2 := (qSkips_le [46, 46] (qSkips wWhere s).2).1.nodes
    split at h
    · cases ha : qStage 0 1 (qSkips [46, 46] (qSkips wWhere s).2).2 with
      | none => rw [ha] at h; cases h
      | some a =>
        have n1 := congrArg QS.nodes (qStage_eq ha)
        rw [ha, Option.bind_some] at h
        have := Option.some.inj h
        subst this
        simp only at n1
        show s.nodes ≤ a.2.nodes
        omega
    · rw [Option.bind_some] at h
      have l3 := (qSkips_le [46, 91] (qSkips [46, 46] (qSkips wWhere s).2).2).1.nodes
      split at h
      · cases hb : qBrackets (qSkips [46, 91] (qSkips [46, 46] (qSkips wWhere s).2).2).2 with
        | none => rw [hb] at h; cases h
        | some b =>
          have l4 := (qBrackets_le hb).nodes
          rw [hb, Option.bind_some] at h
          have := qStep_nodes h
          omega
      · cases ha : qNeed [46] (qSkips [46, 91] (qSkips [46, 46] (qSkips wWhere s).2).2).2 with
        | none => rw [ha] at h; cases h
        | some a =>
          have n1 := qNeed_nodes ha
          rw [ha, Option.bind_some] at h
          split at h
          · cases hn : qName a.2 with
            | none => rw [hn] at h; cases h
            | some n =>
              have n2 : n.2.nodes = a.2.nodes := by
                unfold qName at hn
                cases hr : rdName a.2.rest with
                | none => rw [hr] at hn; cases hn
                | some r =>
                  rw [hr] at hn
                  have := Option.some.inj hn
                  subst this
                  rfl
              rw [hn, Option.bind_some] at h
              have := qStep_nodes h
              omega
          · have := Option.some.inj h
            subst this
            show s.nodes ≤ a.2.nodes
            omega
theorem qChain_nodes : ∀ (f : Nat) (s : QS) (x : Unit × QS), qChain f s = some x → s.nodes ≤ x.2.nodes
  | 0, _, _, h => by cases h
  | f + 1, s, x, h => by
    unfold qChain at h
    cases ha : qNode s with
    | none => rw [ha] at h; cases h
    | some a =>
      obtain ⟨n1, e1⟩ := qNode_eq ha
      have n0 : a.2.nodes = s.nodes + 1 := by rw [e1]
      rw [ha, Option.bind_some, Option.bind_some] at h
      have n2 := qSkips_nodes [40] a.2
      split at h
      · cases hb : qChain f (qSkips [40] a.2).2 with
        | none => rw [hb] at h; cases h
        | some b =>
          have n3 := qChain_nodes f _ _ hb
          rw [hb, Option.bind_some] at h
          cases hc : qNeed wPipe b.2 with
          | none => rw [hc] at h; cases h
          | some c =>
            have n4 := qNeed_nodes hc
            rw [hc, Option.bind_some] at h
            cases hd : qChain f c.2 with
            | none => rw [hd] at h; cases h
            | some d =>
              have n5 := qChain_nodes f _ _ hd
              rw [hd, Option.bind_some] at h
              have n6 := qNeed_nodes h
              omega
      · have := qLink_nodes h
        omega
def qTried (s : QS) : QS := { s with plan := { s.plan with tried := true } }
def qLimit (n : Nat) (s : QS) : QS := { s with plan := { s.plan with limit := some n } }
def qGather (n : Nat) (s : QS) : QS := { s with plan := { s.plan with gather := n } }
def qTold (s : QS) : Option (Unit × QS) := (some (qSkips wTry s)).bind fun x => if x.1 = true then (qNode x.2).bind fun a => (qChain 32 (qTried a.2)).bind fun b => qNeed [41] b.2
  else (some (qSkips wFirst x.2)).bind fun y => if y.1 = true then (qNode y.2).bind fun a => (qNum 60 a.2).bind fun n => (qNeed [44, 32] (qLimit n.1 n.2)).bind fun c => (qChain 32 c.2).bind fun d => qNeed [41] d.2
  else qChain 32 y.2
def qWhole (s : QS) : Option (Unit × QS) := ((some (qSkips wCount s)).bind fun x => if x.1 = true then some ((), qGather 1 x.2) else (some (qSkips wSum x.2)).bind fun y => if y.1 = true then some ((), qGather 2 y.2) else some ((), y.2)).bind fun a =>
  (if a.2.plan.gather = 0 then qTold a.2 else (qNode a.2).bind fun b => (qTold b.2).bind fun c => qNeed [41] c.2).bind fun d => if d.2.rest = [] then some ((), d.2) else none
/-- the question that a text asks -/
def questOf (t : Text) : Option Plan := (qWhole ⟨t, 0, 0, planAt 0⟩).map fun x => x.2.plan
def spChain (K : PySem.W.Frag) (f : Nat) : Sp := spQr K [] (qChain f) WNon fun s => 1 ≤ f ∧ 32 ≤ f + s.nodes
def spWhole (K : PySem.W.Frag) : Sp := fun vs H Q E => ∃ (F : Hp) (B : Qb) (s : QS), vs = [.ref B.qr] ∧ Same F H ∧ QsAt K F H B s ∧ Told K F H B (qWhole s) (fun _ _ v => v = .ref B.qa) Q E
def spQuestionOf (K : PySem.W.Frag) : Sp := fun vs H Q E => ∃ (F : Hp) (ta : Addr) (t : Text), vs = [.ref ta] ∧ Same F H ∧ TextAt F ta t ∧ t.length ≤ 100000 ∧
  (∀ p, questOf t = some p → ∀ (H' : Hp) (qa : Addr), Same H H' → QuestAt K (Gr H F H') qa p → Q (.ref qa) H') ∧
  (questOf t = none → ∀ H', Same H H' → E (CW K) none H')
section
variable {P : Program} {w : World} {K : PySem.W.Frag} {mg : Str → Option Value} {base : Heap}
theorem ok_QuestionReader_read_chain (T : Facts K mg) {f : Nat} (G : OkFn P w K mg base (L2.CX P w) (f+72) (He.ma K (He.ga K "QuestionReader") "read_chain") 1 (spChain K f)) : OkFn P w K mg base (L2.CX P w) (f+1+72) (He.ma K (He.ga K "QuestionReader") "read_chain") 1 (spChain K (f+1)) := by
  refine mk_fn T.d_QuestionReader_read_chain sc_QuestionReader_read_chain (fun _ _ _ _ _ _ us hl => match us, hl with | [_], _ => rfl) (fun vs H Q E h => ?_) (fun cdv A outer s H vs Q E hr h => ?_)
  · obtain ⟨_, _, _, rfl, _⟩ := h
    rfl
  · obtain ⟨F, B, s, rfl, sF, S, pre, k⟩ := h
    refine ⟨_, (pss_cons (ps_expr (c_meth0 (pv 0) T.c_QuestionReader T.m_QuestionReader_add_node (ok_QuestionReader_add_node T) (hr.mono (by omega)) (pX (takes_of rfl rfl rfl rfl))))
      (pss_one (ps_if (pt_val (c_meth (pv 0) T.c_QuestionReader T.m_QuestionReader_skips (ok_QuestionReader_skips T) (hr.mono (by omega)) (pX (takes_of rfl rfl rfl rfl)) (pa_cons pe_str pa_nil)))
        (pss_cons (ps_expr (c_meth0 (pv 0) T.c_QuestionReader T.m_QuestionReader_read_chain G (hr.mono (by omega)) (pX (takes_of rfl rfl rfl rfl))))
        (pss_cons (ps_expr (c_meth (pv 0) T.c_QuestionReader T.m_QuestionReader_need (ok_QuestionReader_need T) (hr.mono (by omega)) (pX (takes_of rfl rfl rfl rfl)) (pa_cons pe_str pa_nil)))
        (pss_cons (ps_expr (c_meth0 (pv 0) T.c_QuestionReader T.m_QuestionReader_read_chain G (hr.mono (by omega)) (pX (takes_of rfl rfl rfl rfl))))
        (pss_one (ps_expr (c_meth (pv 0) T.c_QuestionReader T.m_QuestionReader_need (ok_QuestionReader_need T) (hr.mono (by omega)) (pX (takes_of rfl rfl rfl rfl)) (pa_cons pe_str pa_nil)))))))
        (pss_one (ps_expr (c_meth0 (pv 0) T.c_QuestionReader T.m_QuestionReader_read_link (ok_QuestionReader_read_link T) (hr.mono (by omega)) (pX (takes_of rfl rfl rfl rfl)))))))), ?_⟩
    obtain ⟨dx, i, h1⟩ := S.at
    unfold qChain at k
    refine ⟨_, rfl, _, _, _, rfl, h1, rfl, ?_⟩
    refine ⟨F, B, s, rfl, sF, S, trivial, k.bind fun x s1 H1 F1 v e1 g1 S1 hv k => ?_⟩
    obtain ⟨n0, n1⟩ := qNode_eq e1
    have n1' : s1.nodes = s.nodes + 1 := congrArg QS.nodes n1
    obtain ⟨dx, i, h1⟩ := S1.at
    refine ⟨_, rfl, _, _, _, rfl, h1, rfl, ?_⟩
    walk_at "v"
    refine ⟨F1, B, s1, _, [40], rfl, g1.same, S1, rfl, by decide, k.bind fun b s2 H2 F2 v e2 g2 S2 hv k => ?_⟩
    subst hv
    have n2 : s2.nodes = s1.nodes := by
      have := qSkips_nodes [40] s1
      rw [Option.some.inj e2] at this
      exact this
    obtain ⟨dx, i, h2⟩ := S2.at
    refine ⟨_, rfl, ?_⟩
    cases b with
    | true =>
      rw [if_pos rfl] at k
      refine if_pos_of rfl ?_
      refine ⟨_, rfl, _, _, _, rfl, h2, rfl, ?_⟩
      refine ⟨F2, B, s2, rfl, g2.same, S2, ⟨by omega, by omega⟩, k.bind fun u s3 H3 F3 v e3 g3 S3 hv k => ?_⟩
      have n3 := qChain_nodes f _ _ e3
      simp only at n3
      obtain ⟨dx, i, h3⟩ := S3.at
      refine ⟨_, rfl, _, _, _, rfl, h3, rfl, ?_⟩
      walk_at "v"
      refine ⟨F3, B, s3, _, wPipe, rfl, g3.same, S3, rfl, by decide, k.bind fun u s4 H4 F4 v e4 g4 S4 hv k => ?_⟩
      have n4 := qNeed_nodes e4
      simp only at n4
      obtain ⟨dx, i, h4⟩ := S4.at
      refine ⟨_, rfl, _, _, _, rfl, h4, rfl, ?_⟩
      refine ⟨F4, B, s4, rfl, g4.same, S4, ⟨by omega, by omega⟩, k.bind fun u s5 H5 F5 v e5 g5 S5 hv k => ?_⟩
      obtain ⟨dx, i, h5⟩ := S5.at
      refine ⟨_, rfl, _, _, _, rfl, h5, rfl, ?_⟩
      walk_at "v"
      exact ⟨F5, B, s5, _, [41], rfl, g5.same, S5, rfl, by decide, Told.non k⟩
    | false =>
      rw [if_neg (by simp)] at k
      refine if_neg_of rfl ?_
      refine ⟨_, rfl, _, _, _, rfl, h2, rfl, ?_⟩
      exact ⟨F2, B, s2, rfl, g2.same, S2, by omega, Told.non k⟩
theorem ok_QuestionReader_read_chain0 (T : Facts K mg) : OkFn P w K mg base (L2.CX P w) 72 (He.ma K (He.ga K "QuestionReader") "read_chain") 1 (spChain K 0) := by
  refine mk_fn T.d_QuestionReader_read_chain sc_QuestionReader_read_chain (fun _ _ _ _ _ _ us hl => match us, hl with | [_], _ => rfl) (fun vs H Q E h => ?_) (fun cdv A outer s H vs Q E hr h => ?_)
  · obtain ⟨_, _, _, rfl, _⟩ := h
    rfl
  · obtain ⟨F, B, s, -, -, -, pre, -⟩ := h
    exact absurd pre.1 (by decide)
theorem ok_chain (T : Facts K mg) : ∀ f : Nat, OkFn P w K mg base (L2.CX P w) (f + 72) (He.ma K (He.ga K "QuestionReader") "read_chain") 1 (spChain K f)
  | 0 => ok_QuestionReader_read_chain0 T
  | f + 1 => ok_QuestionReader_read_chain T (ok_chain T f)
theorem ok_QuestionReader_read_told (T : Facts K mg) : OkFn P w K mg base (L2.CX P w) 105 (He.ma K (He.ga K "QuestionReader") "read_told") 1 (spQr K [] qTold WNon fun _ => True) := by
  refine mk_fn T.d_QuestionReader_read_told sc_QuestionReader_read_told (fun _ _ _ _ _ _ us hl => match us, hl with | [_], _ => rfl) (fun vs H Q E h => ?_) (fun cdv A outer s H vs Q E hr h => ?_)
  · obtain ⟨_, _, _, rfl, _⟩ := h
    rfl
  · obtain ⟨F, B, s, rfl, sF, S, -, k⟩ := h
    refine ⟨_, (pss_one (ps_if (pt_val (c_meth (pv 0) T.c_QuestionReader T.m_QuestionReader_skips (ok_QuestionReader_skips T) (hr.mono (by decide)) (pX (takes_of rfl rfl rfl rfl)) (pa_cons pe_str pa_nil)))
        (pss_cons (ps_expr (c_meth0 (pv 0) T.c_QuestionReader T.m_QuestionReader_add_node (ok_QuestionReader_add_node T) (hr.mono (by decide)) (pX (takes_of rfl rfl rfl rfl))))
        (pss_cons (ps_fld (pe_fld (pv 0) rfl) pe_bl rfl)
        (pss_cons (ps_expr (c_meth0 (pv 0) T.c_QuestionReader T.m_QuestionReader_read_chain (ok_chain T 32) (hr.mono (by decide)) (pX (takes_of rfl rfl rfl rfl))))
        (pss_one (ps_expr (c_meth (pv 0) T.c_QuestionReader T.m_QuestionReader_need (ok_QuestionReader_need T) (hr.mono (by decide)) (pX (takes_of rfl rfl rfl rfl)) (pa_cons pe_str pa_nil)))))))
        (pss_one (ps_if (pt_val (c_meth (pv 0) T.c_QuestionReader T.m_QuestionReader_skips (ok_QuestionReader_skips T) (hr.mono (by decide)) (pX (takes_of rfl rfl rfl rfl)) (pa_cons pe_str pa_nil)))
          (pss_cons (ps_expr (c_meth0 (pv 0) T.c_QuestionReader T.m_QuestionReader_add_node (ok_QuestionReader_add_node T) (hr.mono (by decide)) (pX (takes_of rfl rfl rfl rfl))))
          (pss_cons (ps_fld (pe_fld (pv 0) rfl) (c_meth (pv 0) T.c_QuestionReader T.m_QuestionReader_number_up_to (ok_QuestionReader_number_up_to T) (hr.mono (by decide)) (pX (takes_of rfl rfl rfl rfl)) (pa_cons (pe_num rfl T.i_MOST_FIRST) pa_nil)) rfl)
          (pss_cons (ps_expr (c_meth (pv 0) T.c_QuestionReader T.m_QuestionReader_need (ok_QuestionReader_need T) (hr.mono (by decide)) (pX (takes_of rfl rfl rfl rfl)) (pa_cons pe_str pa_nil)))
          (pss_cons (ps_expr (c_meth0 (pv 0) T.c_QuestionReader T.m_QuestionReader_read_chain (ok_chain T 32) (hr.mono (by decide)) (pX (takes_of rfl rfl rfl rfl))))
          (pss_one (ps_expr (c_meth (pv 0) T.c_QuestionReader T.m_QuestionReader_need (ok_QuestionReader_need T) (hr.mono (by decide)) (pX (takes_of rfl rfl rfl rfl)) (pa_cons pe_str pa_nil))))))))
          (pss_one (ps_expr (c_meth0 (pv 0) T.c_QuestionReader T.m_QuestionReader_read_chain (ok_chain T 32) (hr.mono (by decide)) (pX (takes_of rfl rfl rfl rfl))))))))), ?_⟩
    obtain ⟨dx, i, h1⟩ := S.at
    unfold qTold at k
    refine ⟨_, rfl, _, _, _, rfl, h1, rfl, ?_⟩
    walk_at "v"
    refine ⟨F, B, s, _, wTry, rfl, sF, S, rfl, by decide, k.bind fun b s1 H1 F1 v e1 g1 S1 hv k => ?_⟩
    subst hv
    obtain ⟨dx, i, h1⟩ := S1.at
    refine ⟨_, rfl, ?_⟩
    cases b with
    | true =>
      rw [if_pos rfl] at k
      refine if_pos_of rfl ?_
      refine ⟨_, rfl, _, _, _, rfl, h1, rfl, ?_⟩
      refine ⟨F1, B, s1, rfl, g1.same, S1, trivial, k.bind fun u s2 H2 F2 v e2 g2 S2 hv k => ?_⟩
      obtain ⟨dx, i, h2⟩ := S2.at
      obtain ⟨dq, c0, hq, hT⟩ := S2.atq
      obtain ⟨g3, S3⟩ := S2.putQ (p := { s2.plan with tried := true }) (c' := c0) g2.same hq rfl hT
      walk_at "v"
      refine ⟨_, _, _, _, _, rfl, h2, T.c_QuestionReader, T.n_QuestionReader_question, rfl, ?_⟩
      refine ⟨_, _, _, _, rfl, hq, T.c_Question, T.n_Question_tried, by walk_at "few", ?_⟩
      dsimp only
      have k := k.step g3
      obtain ⟨dx, i, h3⟩ := S3.at
      refine ⟨_, rfl, _, _, _, rfl, h3, rfl, ?_⟩
      refine ⟨F2, B, _, rfl, g3.same, S3, ⟨by decide, by omega⟩, k.bind fun u s4 H4 F4 v e4 g4 S4 hv k => ?_⟩
      obtain ⟨dx, i, h4⟩ := S4.at
      refine ⟨_, rfl, _, _, _, rfl, h4, rfl, ?_⟩
      walk_at "v"
      exact ⟨F4, B, s4, _, [41], rfl, g4.same, S4, rfl, by decide, Told.non k⟩
    | false =>
      rw [if_neg (by simp)] at k
      refine if_neg_of rfl ?_
      refine ⟨_, rfl, _, _, _, rfl, h1, rfl, ?_⟩
      walk_at "v"
      refine ⟨F1, B, s1, _, wFirst, rfl, g1.same, S1, rfl, by decide, k.bind fun b s2 H2 F2 v e2 g2 S2 hv k => ?_⟩
      subst hv
      obtain ⟨dx, i, h2⟩ := S2.at
      refine ⟨_, rfl, ?_⟩
      cases b with
      | true =>
        rw [if_pos rfl] at k
        refine if_pos_of rfl ?_
        refine ⟨_, rfl, _, _, _, rfl, h2, rfl, ?_⟩
        refine ⟨F2, B, s2, rfl, g2.same, S2, trivial, k.bind fun u s3 H3 F3 v e3 g3 S3 hv k => ?_⟩
        obtain ⟨dx, i, h3⟩ := S3.at
        dsimp only
        refine ⟨_, rfl, _, _, _, rfl, h3, rfl, ?_⟩
        walk_at "v"
        refine ⟨F3, B, s3, 60, rfl, g3.same, S3, k.bind fun n s4 H4 F4 v e4 g4 S4 hv k => ?_⟩
        subst hv
        obtain ⟨dx, i, h4⟩ := S4.at
        obtain ⟨dq, c0, hq, hT⟩ := S4.atq
        obtain ⟨g5, S5⟩ := S4.putQ (p := { s4.plan with limit := some n }) (c' := c0) g4.same hq rfl hT
        refine ⟨_, rfl, _, _, _, _, _, rfl, h4, T.c_QuestionReader, T.n_QuestionReader_question, rfl, ?_⟩
        refine ⟨_, _, _, _, rfl, hq, T.c_Question, T.n_Question_limit, by walk_at "few", ?_⟩
        dsimp only
        have k := k.step g5
        obtain ⟨dx, i, h5⟩ := S5.at
        refine ⟨_, rfl, _, _, _, rfl, h5, rfl, ?_⟩
        walk_at "v"
        refine ⟨F4, B, _, _, [44, 32], rfl, g5.same, S5, rfl, by decide, k.bind fun u s6 H6 F6 v e6 g6 S6 hv k => ?_⟩
        obtain ⟨dx, i, h6⟩ := S6.at
        refine ⟨_, rfl, _, _, _, rfl, h6, rfl, ?_⟩
        refine ⟨F6, B, s6, rfl, g6.same, S6, ⟨by decide, by omega⟩, k.bind fun u s7 H7 F7 v e7 g7 S7 hv k => ?_⟩
        obtain ⟨dx, i, h7⟩ := S7.at
        refine ⟨_, rfl, _, _, _, rfl, h7, rfl, ?_⟩
        walk_at "v"
        exact ⟨F7, B, s7, _, [41], rfl, g7.same, S7, rfl, by decide, Told.non k⟩
      | false =>
        rw [if_neg (by simp)] at k
        refine if_neg_of rfl ?_
        refine ⟨_, rfl, _, _, _, rfl, h2, rfl, ?_⟩
        exact ⟨F2, B, s2, rfl, g2.same, S2, ⟨by decide, by omega⟩, Told.non k⟩
def qRest (s : QS) : Option (Unit × QS) := (if s.plan.gather = 0 then qTold s else (qNode s).bind fun b => (qTold b.2).bind fun c => qNeed [41] c.2).bind fun d => if d.2.rest = [] then some ((), d.2) else none
theorem qWhole_eq (s : QS) : qWhole s = (some (qSkips wCount s)).bind fun x => if x.1 = true then qRest (qGather 1 x.2) else (some (qSkips wSum x.2)).bind fun y => if y.1 = true then qRest (qGather 2 y.2) else qRest y.2 := by
  unfold qWhole
  simp only [Option.bind_some]
  split
  · rfl
  · split <;> rfl
theorem ok_QuestionReader_read_whole (T : Facts K mg) : OkFn P w K mg base (L2.CX P w) 106 (He.ma K (He.ga K "QuestionReader") "read_whole") 1 (spWhole K) := by
  refine mk_fn T.d_QuestionReader_read_whole sc_QuestionReader_read_whole (fun _ _ _ _ _ _ us hl => match us, hl with | [_], _ => rfl) (fun vs H Q E h => ?_) (fun cdv A outer s H vs Q E hr h => ?_)
  · obtain ⟨_, _, _, rfl, _⟩ := h
    rfl
  · obtain ⟨F, B, s, rfl, sF, S, k⟩ := h
    refine ⟨_, (pss_cons (ps_if (pt_val (c_meth (pv 0) T.c_QuestionReader T.m_QuestionReader_skips (ok_QuestionReader_skips T) (hr.mono (by decide)) (pX (takes_of rfl rfl rfl rfl)) (pa_cons pe_str pa_nil)))
        (pss_one (ps_fld (pe_fld (pv 0) rfl) (pe_num rfl T.i_COUNT) rfl))
        (pss_one (ps_if (pt_val (c_meth (pv 0) T.c_QuestionReader T.m_QuestionReader_skips (ok_QuestionReader_skips T) (hr.mono (by decide)) (pX (takes_of rfl rfl rfl rfl)) (pa_cons pe_str pa_nil)))
          (pss_one (ps_fld (pe_fld (pv 0) rfl) (pe_num rfl T.i_SUM) rfl))
          pss_nil)))
      (pss_cons (ps_if (pt_cmpR op_eq (pe_fld (pe_fld (pv 0) rfl) rfl) (pe_num rfl T.i_TELL) (nomark _))
        (pss_one (ps_expr (c_meth0 (pv 0) T.c_QuestionReader T.m_QuestionReader_read_told (ok_QuestionReader_read_told T) (hr.mono (by decide)) (pX (takes_of rfl rfl rfl rfl)))))
        (pss_cons (ps_expr (c_meth0 (pv 0) T.c_QuestionReader T.m_QuestionReader_add_node (ok_QuestionReader_add_node T) (hr.mono (by decide)) (pX (takes_of rfl rfl rfl rfl))))
        (pss_cons (ps_expr (c_meth0 (pv 0) T.c_QuestionReader T.m_QuestionReader_read_told (ok_QuestionReader_read_told T) (hr.mono (by decide)) (pX (takes_of rfl rfl rfl rfl))))
        (pss_one (ps_expr (c_meth (pv 0) T.c_QuestionReader T.m_QuestionReader_need (ok_QuestionReader_need T) (hr.mono (by decide)) (pX (takes_of rfl rfl rfl rfl)) (pa_cons pe_str pa_nil)))))))
      (pss_cons (ps_if (pt_cmpR op_ne (pe_fld (pv 0) rfl) (pe_callB call_len_seq (by rfl) T.f_len boot_len (pa_cons (pe_fld (pv 0) rfl) pa_nil)) (nomark _))
        (pss_one (rz_W T rfl rfl (takes_of rfl rfl rfl rfl)))
        pss_nil)
      (pss_one (ps_ret (pe_fld (pv 0) rfl)))))), ?_⟩
    rw [qWhole_eq] at k
    refine seq_cut (R := fun σ' H' => σ' = [some (.ref B.qr)] ∧ ∃ (F' : Hp) (s' : QS), Same F' H' ∧ QsAt K F' H' B s' ∧ Told K F' H' B (qRest s') (fun _ _ v => v = .ref B.qa) Q E) (fun nx kx => ?_) ?_
    · obtain ⟨dx, i, h1⟩ := S.at
      refine ⟨_, rfl, _, _, _, rfl, h1, rfl, ?_⟩
      walk_at "v"
      refine ⟨F, B, s, _, wCount, rfl, sF, S, rfl, by decide, k.bind fun b s1 H1 F1 v e1 g1 S1 hv k => ?_⟩
      subst hv
      obtain ⟨dx, i, h1⟩ := S1.at
      refine ⟨_, rfl, ?_⟩
      cases b with
      | true =>
        rw [if_pos rfl] at k
        refine if_pos_of rfl ?_
        obtain ⟨dq, c0, hq, hT⟩ := S1.atq
        obtain ⟨g2, S2⟩ := S1.putQ (p := { s1.plan with gather := 1 }) (c' := c0) g1.same hq rfl hT
        walk_at "v"
        refine ⟨_, _, _, _, _, rfl, h1, T.c_QuestionReader, T.n_QuestionReader_question, rfl, ?_⟩
        refine ⟨_, _, _, _, rfl, hq, T.c_Question, T.n_Question_fold, by walk_at "few", ?_⟩
        exact kx _ _ ⟨rfl, F1, _, g2.same, S2, k.step g2⟩
      | false =>
        rw [if_neg (by simp)] at k
        refine if_neg_of rfl ?_
        refine ⟨_, rfl, _, _, _, rfl, h1, rfl, ?_⟩
        walk_at "v"
        refine ⟨F1, B, s1, _, wSum, rfl, g1.same, S1, rfl, by decide, k.bind fun b s2 H2 F2 v e2 g2 S2 hv k => ?_⟩
        subst hv
        obtain ⟨dx, i, h2⟩ := S2.at
        refine ⟨_, rfl, ?_⟩
        cases b with
        | true =>
          rw [if_pos rfl] at k
          refine if_pos_of rfl ?_
          obtain ⟨dq, c0, hq, hT⟩ := S2.atq
          obtain ⟨g3, S3⟩ := S2.putQ (p := { s2.plan with gather := 2 }) (c' := c0) g2.same hq rfl hT
          walk_at "v"
          refine ⟨_, _, _, _, _, rfl, h2, T.c_QuestionReader, T.n_QuestionReader_question, rfl, ?_⟩
          refine ⟨_, _, _, _, rfl, hq, T.c_Question, T.n_Question_fold, by walk_at "few", ?_⟩
          exact kx _ _ ⟨rfl, F2, _, g3.same, S3, k.step g3⟩
        | false =>
          rw [if_neg (by simp)] at k
          refine if_neg_of rfl ?_
          exact kx _ _ ⟨rfl, F2, s2, g2.same, S2, k⟩
    · rintro σ' H1 ⟨rfl, F1, s1, sF1, S1, k⟩
      unfold qRest at k
      refine seq_cut (R := fun σ' H' => σ' = [some (.ref B.qr)] ∧ ∃ (F' : Hp) (s' : QS), Same F' H' ∧ QsAt K F' H' B s' ∧ Told K F' H' B (if s'.rest = [] then some ((), s') else none) (fun _ _ v => v = .ref B.qa) Q E) (fun nx kx => ?_) ?_
      · obtain ⟨dx, i, h1⟩ := S1.at
        obtain ⟨dq, c0, hq, hT⟩ := S1.atq
        refine ⟨_, rfl, _, _, _, _, _, rfl, h1, T.c_QuestionReader, T.n_QuestionReader_question, rfl, ?_⟩
        refine ⟨_, _, _, _, _, rfl, hq, T.c_Question, T.n_Question_fold, rfl, ?_⟩
        walk_at "v"
        refine ⟨rfl, _, rfl, ?_⟩
        by_cases hg : s1.plan.gather = 0
        · rw [if_pos hg] at k
          refine if_pos_of (by rw [hg]; rfl) ?_
          refine ⟨_, rfl, _, _, _, rfl, h1, rfl, ?_⟩
          refine ⟨F1, B, s1, rfl, sF1, S1, trivial, k.bind fun u s2 H2 F2 v e2 g2 S2 hv k => ?_⟩
          exact kx _ _ ⟨rfl, F2, s2, g2.same, S2, k⟩
        · rw [if_neg hg, Option.bind_assoc] at k
          refine if_neg_of (decide_eq_false fun z => hg (by have := V.int.inj z; omega)) ?_
          refine ⟨_, rfl, _, _, _, rfl, h1, rfl, ?_⟩
          refine ⟨F1, B, s1, rfl, sF1, S1, trivial, k.bind fun u s2 H2 F2 v e2 g2 S2 hv k => ?_⟩
          rw [Option.bind_assoc] at k
          obtain ⟨dx, i, h2⟩ := S2.at
          refine ⟨_, rfl, _, _, _, rfl, h2, rfl, ?_⟩
          refine ⟨F2, B, s2, rfl, g2.same, S2, trivial, k.bind fun u s3 H3 F3 v e3 g3 S3 hv k => ?_⟩
          obtain ⟨dx, i, h3⟩ := S3.at
          refine ⟨_, rfl, _, _, _, rfl, h3, rfl, ?_⟩
          walk_at "v"
          refine ⟨F3, B, s3, _, [41], rfl, g3.same, S3, rfl, by decide, k.bind fun u s4 H4 F4 v e4 g4 S4 hv k => ?_⟩
          exact kx _ _ ⟨rfl, F4, s4, g4.same, S4, k⟩
      · rintro σ' H2 ⟨rfl, F2, s2, sF2, S2, k⟩
        obtain ⟨i, ⟨dx, h2⟩, hi, hd, -⟩ := S2.rd
        refine ⟨_, rfl, _, _, _, _, _, rfl, h2, T.c_QuestionReader, T.n_QuestionReader_at, rfl, ?_⟩
        refine ⟨_, rfl, _, _, _, _, _, rfl, h2, T.c_QuestionReader, T.n_QuestionReader_text, rfl, ?_⟩
        refine ⟨B.ta, _, rfl, .inl (SqL.of (sF2 _ _ S2.txt)), ?_⟩
        rw [bs_length]
        refine ⟨rfl, _, rfl, ?_⟩
        have hdl := congrArg List.length hd
        rw [List.length_drop] at hdl
        by_cases he : i = B.t.length
        · rw [if_pos (List.length_eq_zero_iff.mp (by omega))] at k
          refine if_neg_of (by rw [he]; simp) ?_
          refine ⟨_, rfl, _, _, _, _, _, rfl, h2, T.c_QuestionReader, T.n_QuestionReader_question, rfl, ?_⟩
          exact k H2 F2 _ (Go.refl sF2) S2 rfl
        · rw [if_neg (fun z => by rw [z, List.length_nil] at hdl; omega)] at k
          refine if_pos_of (by simp; omega) ?_
          exact k H2 F2 (Go.refl sF2)
theorem ok_question_of (T : Facts K mg) : OkFn P w K mg base (L2.CX P w) 107 (He.ga K "question_of") 1 (spQuestionOf K) := by
  refine mk_fn T.d_question_of sc_question_of (fun _ _ _ _ _ _ us hl => match us, hl with | [_], _ => rfl) (fun vs H Q E h => ?_) (fun cdv A outer s H vs Q E hr h => ?_)
  · obtain ⟨_, _, _, rfl, _⟩ := h
    rfl
  · obtain ⟨F, ta, t, rfl, sF, ht, hlen, q1, q2⟩ := h
    refine ⟨_, (pss_one (ps_ret (c_meth0 (c_make T.k_QuestionReader (ok_QuestionReader_init T) (hr.mono (by decide)) rfl T.g_QuestionReader pass0 (pa_cons (pv 0) pa_nil)) T.c_QuestionReader T.m_QuestionReader_read_whole (ok_QuestionReader_read_whole T) (hr.mono (by decide)) (pX (takes_of rfl rfl rfl rfl))))), ?_⟩
    have free : ∀ {b : Addr}, H b = none → F b = none := fun {b} e => by
      cases z : F b with
      | none => rfl
      | some o => have := sF _ _ z; rw [e] at this; cases this
    walk_at "v"
    intro qr dx hqr hdx hne
    have sm : Same F (upd (upd H dx (.own qr)) qr (.ins (He.ga K "QuestionReader") dx [])) := fun b o e => by
      have h2 := sF b o e
      rw [upd_ne (fun z => by rw [z, hqr] at h2; cases h2), upd_ne (fun z => by rw [z, hdx] at h2; cases h2)]
      exact h2
    refine ⟨F, qr, dx, ta, t, rfl, sm, free hqr, upd_same, ht, hlen, fun H1 qa sl k1 hqa hsl S1 => ⟨rfl, ?_⟩⟩
    have s1 : Same H H1 := Same.made hqr hdx k1
    have hn : ∀ {b : Addr}, (upd (upd H dx (.own qr)) qr (.ins (He.ga K "QuestionReader") dx [])) b = none → H b = none := fun {b} e => by
      by_cases z : b = qr
      · rw [z, upd_same] at e; cases e
      · rw [upd_ne z] at e
        by_cases z2 : b = dx
        · rw [z2, upd_same] at e; cases e
        · rw [upd_ne z2] at e; exact e
    have hqa0 := hn hqa
    have hsl0 := hn hsl
    obtain ⟨dx1, i1, h1⟩ := S1.at
    have g1 : Go [] H F H1 F := Go.idle sF s1
    refine ⟨_, _, _, rfl, h1, rfl, ?_⟩
    refine ⟨F, ⟨qr, qa, sl, ta, t⟩, _, rfl, g1.same, S1, ?_⟩
    have keep : ∀ {H2 F2 : Hp}, Go [qr, qa, sl] H1 F H2 F2 → Go [] H F H2 F2 := fun g => g1.trans g (by
      intro b hb hb0
      simp only [List.mem_cons, List.not_mem_nil, or_false] at hb
      rcases hb with rfl | rfl | rfl
      · exact absurd hqr hb0
      · exact absurd hqa0 hb0
      · exact absurd hsl0 hb0)
    unfold questOf at q1 q2
    cases hw : qWhole ⟨t, 0, 0, planAt 0⟩ with
    | none =>
      rw [hw] at q2
      exact fun H2 F2 g => q2 rfl H2 fun b o e => (keep g).keep _ _ e (by simp)
    | some x =>
      rw [hw] at q1
      obtain ⟨u, s2⟩ := x
      rintro H2 F2 v g S2 rfl
      have g2 := keep g
      obtain ⟨c, as, ⟨dq, e5⟩, e6, e7, e8⟩ := S2.q
      refine q1 s2.plan rfl H2 qa (fun b o e => g2.keep _ _ e (by simp)) ⟨sl, c, as, ⟨dq, ?_⟩, ?_, e7.mono g2.gr, e8.mono g2.gr⟩
      · rw [Gr.new hqa0]
        exact e5
      · rw [Gr.new hsl0]
        exact e6
end
end TS
end
section
set_option Elab.async false
set_option linter.all false
set_option maxRecDepth 100000
set_option maxHeartbeats 4000000
namespace TS
open PySem PySem.Spec PyProof.Rows L2
open Vapaqf (Head Way Token Test matches_ faultOf Plan)
open Vapaqa (Text Name stepText placeText textBefore off isSmall isDigit isSign)
local macro_rules | `(tactic| walk_at "v") => `(tactic| repeat (first | refine ⟨_, rfl, ?_⟩ | refine ⟨_, _, rfl, rfl, ?_⟩ | refine ⟨_, _, rfl, ?_⟩))
local macro_rules | `(tactic| walk_at "few") => `(tactic| first | decide | (show 0 < 1000; decide) | (show 1 < 1000; decide) | (show 2 < 1000; decide) | (show 3 < 1000; decide) | (show 4 < 1000; decide) | (show 5 < 1000; decide) | (show 6 < 1000; decide))
/-! ### the session: its state, and what a call gives -/
structure Sn where
  p : Plan
  sh : Shp
  se : Srch
inductive Res where
  | told (r : List Int) (s : Sn)
  | wrong
  | cannot
def Sn.asks (p : Plan) : Sn := ⟨p, .fresh, .fresh p⟩
def sAsk (t : Text) (_ : Sn) : Res := match questOf t with
  | none => .wrong
  | some p => .told [(p.steps.length : Int)] (.asks p)
def sToken (t : Text) (s : Sn) : Res := match tokOf t with
  | none => .wrong
  | some tk => match hear s.p s.sh s.se tk with
    | none => .cannot
    | some (sh, se, told) => .told (if told.isEmpty = true then [0] else told) ⟨s.p, sh, se⟩
def sTree (t : Text) (s : Sn) : Res := match treeToks t with
  | none => .wrong
  | some ts => match hearAll s.p s.sh s.se ts with
    | none => .cannot
    | some (sh, se, n, told) => .told ((n : Int) :: told) ⟨s.p, sh, se⟩
def sFinish (s : Sn) : Res := if s.sh.isWhole = true then .told (s.se.finish s.p) s else .cannot
def sAgain (s : Sn) : Res := .told [(s.sh.entries : Int)] (.asks s.p)
def sTokens (t : Text) (s : Sn) : Res := match treeToks t with
  | none => .wrong
  | some ts => .told ((ts.length : Int) :: ts.flatMap fun x => Vapaqf.toldText (Vapaqf.tokenText x)) s
def sAnswers (t : Text) (s : Sn) : Res := match treeToks t with
  | none => .wrong
  | some ts => match hearAll s.p .fresh (.fresh s.p) ts with
    | none => .cannot
    | some (_, se, n, told) => .told (((n : Int) :: told) ++ se.finish s.p) s
def sRoom (s : Sn) : Res := .told (roomOf s.sh s.se) s
def snF (qa st : Addr) : List (Str × V) := [("asked", .ref qa), ("stream", .ref st)]
/-- S: what may move -/
def SnAt (K : PySem.W.Frag) (F H : Hp) (sn : Addr) (S : List Addr) (s : Sn) : Prop := F sn = none ∧ ∃ qa st c a l fs, InsAt K H "Session" sn (snF qa st) ∧ QuestAt K F qa s.p ∧ StAt K F H st c a l fs s.p s.sh s.se ∧ sn ∉ st :: c :: a :: l :: fs ∧ S = sn :: c :: a :: l :: fs
def SessTold (K : PySem.W.Frag) (F H : Hp) (sn : Addr) (S : List Addr) (r : Res) (Q : VK) (E : XK) : Prop := match r with
  | .wrong => ∀ H', Same H H' → E (CW K) none H'
  | .cannot => ∀ H', Same H H' → E (CN K) none H'
  | .told r s => ∀ (H' F' : Hp) (S' : List Addr) (ra : Addr), Go S H F H' F' → SnAt K F' H' sn S' s → (∀ b ∈ S', b ∈ S ∨ H b = none) → F' ra = some (.lst (intsV r)) → Q (.ref ra) H'
def spSess (K : PySem.W.Frag) (f : Sn → Res) : Sp := fun vs H Q E => ∃ (F : Hp) (sn : Addr) (S : List Addr) (s : Sn), vs = [.ref sn] ∧ Same F H ∧ SnAt K F H sn S s ∧ Good s.p s.sh s.se ∧ SessTold K F H sn S (f s) Q E
def spSessT (K : PySem.W.Frag) (f : Text → Sn → Res) : Sp := fun vs H Q E => ∃ (F : Hp) (sn : Addr) (S : List Addr) (s : Sn) (ta : Addr) (t : Text), vs = [.ref sn, .ref ta] ∧ Same F H ∧ SnAt K F H sn S s ∧ Good s.p s.sh s.se ∧ TextAt F ta t ∧ t.length ≤ 100000 ∧ SessTold K F H sn S (f t s) Q E
def spSessInit (K : PySem.W.Frag) : Sp := fun vs H Q E => ∃ (F : Hp) (sn dx : Addr), vs = [.ref sn] ∧ Same F H ∧ F sn = none ∧ H sn = some (.ins (He.ga K "Session") dx []) ∧
  ∀ (H' F' : Hp) (S' : List Addr), Go [sn] H F H' F' → SnAt K F' H' sn S' (.asks (planAt 0)) → (∀ b ∈ S', b = sn ∨ H b = none) → Q .non H'
theorem hear_come {p : Plan} {sh : Shp} {se : Srch} {t : Token} : (hear p sh se t).map (fun x => x.1) = (sh.come t).map fun x => x.1 := by
  unfold hear
  cases h : sh.come t with
  | none => rfl
  | some x => obtain ⟨s1, q⟩ := x; cases q <;> rfl
theorem hearAll_come (p : Plan) : ∀ (ts : List Token) (sh : Shp) (se : Srch), (hearAll p sh se ts).map (fun x => x.1) = comeAll sh ts
  | [], sh, se => rfl
  | t :: ts, sh, se => by
    rw [hearAll_cons, comeAll_cons]
    have h := hear_come (p := p) (sh := sh) (se := se) (t := t)
    cases hh : hear p sh se t with
    | none =>
      rw [hh] at h
      cases hc : sh.come t with
      | none => rfl
      | some y => rw [hc] at h; cases h
    | some x =>
      rw [hh] at h
      cases hc : sh.come t with
      | none => rw [hc] at h; cases h
      | some y =>
        rw [hc] at h
        simp only [Option.map_some, Option.some.injEq] at h
        obtain ⟨s1, se1, told⟩ := x
        obtain ⟨s2, q⟩ := y
        simp only at h
        subst h
        have := hearAll_come p ts s1 se1
        simp only [Option.map_map, Function.comp_def]
        exact this
theorem tokOf_ok {t : Text} {v : Token} (h : tokOf t = some v) : TokOk v := by
  unfold tokOf at h
  split at h
  · cases hx : rdNameTok t with
    | none => rw [hx] at h; cases h
    | some x =>
      rw [hx, Option.bind_some] at h
      split at h
      · rw [← Option.some.inj h]
        exact (rdNameTok_ok (v := x.1) (r := x.2) hx).1
      · cases h
  · split at h
    · rw [Option.bind_some] at h
      split at h
      · rw [← Option.some.inj h]
        exact trivial
      · cases h
    · cases hx : rdHead t with
      | none => rw [hx] at h; cases h
      | some x =>
        rw [hx, Option.bind_some] at h
        split at h
        · rw [← Option.some.inj h]
          exact (rdHead_ok (v := x.1) (r := x.2) hx).1
        · cases h
theorem SnAt.new {K : PySem.W.Frag} {F H H' F' : Hp} {sn : Addr} {S : List Addr} {s : Sn} (g : Go [] H F H' F') (sF : Same F H) (h : SnAt K F H sn S s) : SnAt K F' H' sn S s := by
  obtain ⟨hF, qa, st, c, a, l, fs, ⟨dx, h1⟩, hq, hS, hn, rfl⟩ := h
  exact ⟨g.free (by rw [h1]; intro z; cases z) hF, qa, st, c, a, l, fs, ⟨dx, g.keep _ _ h1 (by simp)⟩, hq.mono (g.held sF), hS.go g sF (by simp), hn, rfl⟩
/-- a list is told, and nothing else moved -/
theorem SessTold.list {K : PySem.W.Frag} {F H : Hp} {sn : Addr} {S : List Addr} {s : Sn} {r : List Int} {Q : VK} {E : XK} (k : SessTold K F H sn S (.told r s) Q E) (sF : Same F H) (hs : SnAt K F H sn S s) {H' : Hp} {ra : Addr} (s1 : Same H H') (hra : H ra = none) (h : H' ra = some (.lst (intsV r))) : Q (.ref ra) H' := by
  have g : Go [] H F H' _ := Go.new (S := []) sF s1
  refine k H' _ S ra (g.wide (by simp)) (hs.new g sF) (fun b hb => .inl hb) ?_
  rw [Gr.new hra]
  exact h
/-- Stream(question) -/
theorem make_stream {K : PySem.W.Frag} {F H : Hp} {qa x dx : Addr} {p : Plan} {Q : VK} {E : XK} (sF : Same F H) (hq : QuestAt K F qa p) (hx : H x = none) (hdx : H dx = none) (hne : dx ≠ x) (k : ∀ (H' : Hp) (c a l : Addr), Same H H' → (∀ b ∈ [x, c, a, l], H b = none) → StAt K F H' x c a l [] p .fresh (.fresh p) → Q .non H') :
    spStreamInit K [.ref x, .ref qa] (upd (upd H dx (.own x)) x (.ins (He.ga K "Stream") dx [])) Q E := by
  have sm : Same F (upd (upd H dx (.own x)) x (.ins (He.ga K "Stream") dx [])) := fun b o e => by
    have h2 := sF b o e
    rw [upd_ne (fun z => by rw [z, hx] at h2; cases h2), upd_ne (fun z => by rw [z, hdx] at h2; cases h2)]
    exact h2
  have hn : ∀ {b : Addr}, (upd (upd H dx (.own x)) x (.ins (He.ga K "Stream") dx [])) b = none → H b = none := fun {b} e => by
    by_cases z : b = x
    · rw [z, upd_same] at e; cases e
    · rw [upd_ne z] at e
      by_cases z2 : b = dx
      · rw [z2, upd_same] at e; cases e
      · rw [upd_ne z2] at e; exact e
  have hxF : F x = none := by
    cases z : F x with
    | none => rfl
    | some o => have := sF _ _ z; rw [hx] at this; cases this
  refine ⟨F, x, dx, qa, p, rfl, sm, hxF, upd_same, hq, fun H' c a l kp fr S => k H' c a l (Same.made hx hdx kp) (fun b hb => ?_) S⟩
  rcases List.mem_cons.mp hb with rfl | hb
  · exact hx
  · exact hn (fr b hb)
theorem toks_len : ∀ (f : Nat) (sh : Shp) (s : Text) (ts : List Token), toks f sh s = some ts → ts.length ≤ s.length
  | 0, _, _, _, h => by cases h
  | f + 1, sh, s, ts, h => by
    unfold toks at h
    split at h
    · split at h
      · rw [← Option.some.inj h]
        exact Nat.zero_le _
      · cases h
    · cases hn : nextTok s sh with
      | none => rw [hn] at h; cases h
      | some x =>
        rw [hn, Option.bind_some] at h
        obtain ⟨h1, hl⟩ := nextTok_ok (v := x.1) (r := x.2) hn
        cases hc : sh.come x.1 with
        | none => rw [hc] at h; cases h
        | some y =>
          rw [hc, Option.bind_some] at h
          cases ht : toks f y.1 x.2 with
          | none => rw [ht] at h; cases h
          | some l =>
            rw [ht] at h
            simp only [Option.map_some, Option.some.injEq] at h
            have := toks_len f y.1 x.2 l ht
            rw [← h, List.length_cons]
            omega
theorem Good.hearAll {p : Plan} : ∀ {ts : List Token} {sh sh' : Shp} {se se' : Srch} {n : Nat} {told : List Int}, Good p sh se → (∀ t ∈ ts, TokOk t) → hearAll p sh se ts = some (sh', se', n, told) → Good p sh' se' ∧ told.length + 200 * sh.entries ≤ 200 * sh'.entries
  | [], sh, sh', se, se', n, told, G, _, e => by
    simp only [TS.hearAll, Option.some.injEq, Prod.mk.injEq] at e
    obtain ⟨rfl, rfl, rfl, rfl⟩ := e
    exact ⟨G, by simp⟩
  | t :: ts, sh, sh', se, se', n, told, G, tok, e => by
    rw [hearAll_cons] at e
    cases hh : TS.hear p sh se t with
    | none => rw [hh] at e; cases e
    | some x =>
      obtain ⟨s1, e1, t1⟩ := x
      rw [hh] at e
      simp only at e
      obtain ⟨G1, l1⟩ := G.hear (tok t List.mem_cons_self) hh
      cases ha : TS.hearAll p s1 e1 ts with
      | none => rw [ha] at e; cases e
      | some y =>
        obtain ⟨s2, e2, n2, t2⟩ := y
        rw [ha] at e
        simp only [Option.map_some, Option.some.injEq, Prod.mk.injEq] at e
        obtain ⟨rfl, rfl, rfl, rfl⟩ := e
        obtain ⟨G2, l2⟩ := G1.hearAll (fun t ht => tok t (List.mem_cons_of_mem _ ht)) ha
        refine ⟨G2, ?_⟩
        rw [List.length_append]
        omega
/-- a new stream is put into the session -/
theorem again_put {K : PySem.W.Frag} {F H H1 : Hp} {sn dx qa st st1 c1 a1 l1 : Addr} {p : Plan} (sF : Same F H) (hF : F sn = none) (h1 : H sn = some (.ins (He.ga K "Session") dx (snF qa st))) (hq : QuestAt K F qa p) (s1 : Same H H1) (fr : ∀ b ∈ [st1, c1, a1, l1], H b = none) (S1 : StAt K F H1 st1 c1 a1 l1 [] p .fresh (.fresh p)) :
    Go [sn] H F (upd H1 sn (.ins (He.ga K "Session") dx (snF qa st1))) F ∧ SnAt K F (upd H1 sn (.ins (He.ga K "Session") dx (snF qa st1))) sn (sn :: c1 :: a1 :: l1 :: []) (.asks p) ∧ ∀ b ∈ sn :: c1 :: a1 :: l1 :: [], b = sn ∨ H b = none := by
  have g1 : Go [] H F H1 F := Go.idle sF s1
  have g2 : Go [sn] H1 F _ F := Go.put (o := .ins (He.ga K "Session") dx (snF qa st1)) g1.same (by simp) hF
  have nsn : sn ∉ [st1, c1, a1, l1] := fun hb => by have := fr sn hb; rw [h1] at this; cases this
  refine ⟨(g1.wide (by simp) : Go [sn] H F H1 F).trans g2 (fun b h _ => h), ⟨hF, qa, st1, c1, a1, l1, [], ⟨dx, upd_same⟩, hq, S1.go g2 g1.same (fun b hb => by simp only [List.mem_singleton]; exact fun z => nsn (z ▸ hb)), nsn, rfl⟩, fun b hb => ?_⟩
  rcases List.mem_cons.mp hb with h | h
  · exact .inl h
  · exact .inr (fr b (List.mem_cons_of_mem _ h))
theorem finish_len {K : PySem.W.Frag} {F H : Hp} {c : Addr} {p : Plan} {se : Srch} (h : SeAt K F H c p se) : (se.finish p).length ≤ 70 := by
  obtain ⟨-, qa, cv, sv, -, -, h3, h4⟩ := h
  have pl : ∀ n q, se.endFault p = some (n, q) → PlaceOk q := by
    intro n q e
    unfold Srch.endFault at e
    cases hc : se.chain with
    | some f =>
      rw [hc] at e h3
      have e2 := Option.some.inj e
      subst e2
      obtain ⟨b, pa, -, -, -, ok⟩ := h3
      exact ok
    | none =>
      rw [hc] at e
      simp only at e
      split at e
      · cases ho : se.odd with
        | some q0 =>
          rw [ho] at e h4
          simp only [Option.some.injEq, Prod.mk.injEq] at e
          obtain ⟨b, pa, -, -, -, ok⟩ := h4
          rw [← e.2]
          exact ok
        | none =>
          rw [ho] at e
          simp only at e
          split at e
          · simp only [Option.some.injEq, Prod.mk.injEq] at e
            rw [← e.2]
            exact ⟨by simp, fun s h => (nomatch h)⟩
          · cases e
      · cases e
  unfold Srch.finish
  cases he : se.endFault p with
  | some f =>
    obtain ⟨n, q⟩ := f
    have h1 := placeText_len (pl n q he)
    have h2 := told_len (placeText q)
    show (2 :: (n : Int) :: toldPlace q).length ≤ 70
    unfold toldPlace
    simp only [List.length_cons]
    omega
  | none =>
    simp only
    split
    · simp
    · split <;> simp
theorem listed_len {ts : List Token} (tok : ∀ t ∈ ts, TokOk t) : ∀ i, ((ts.take i).flatMap fun x => Vapaqf.toldText (Vapaqf.tokenText x)).length ≤ 51 * i
  | 0 => by simp
  | i + 1 => by
    have h := listed_len tok i
    rw [List.take_add_one, List.flatMap_append, List.length_append]
    cases e : ts[i]? with
    | none => simp only [Option.toList, List.flatMap_nil, List.length_nil]; omega
    | some x =>
      have h2 := tokenText_len (tok x (List.mem_of_getElem? e))
      have h3 := told_len (Vapaqf.tokenText x)
      simp only [Option.toList, List.flatMap_cons, List.flatMap_nil, List.append_nil]
      omega
theorem quest_dot : questOf [46] = some (planAt 0) := by decide +kernel
section
variable {P : Program} {w : World} {K : PySem.W.Frag} {mg : Str → Option Value} {base : Heap}
theorem ok_Session_finish (T : Facts K mg) : OkFn P w K mg base (L2.CX P w) 7 (He.ma K (He.ga K "Session") "finish") 1 (spSess K sFinish) := by
  refine mk_fn T.d_Session_finish sc_Session_finish (fun _ _ _ _ _ _ us hl => match us, hl with | [_], _ => rfl) (fun vs H Q E h => ?_) (fun cdv A outer s H vs Q E hr h => ?_)
  · obtain ⟨_, _, _, _, rfl, _⟩ := h
    rfl
  · obtain ⟨F, sn, S, s, rfl, sF, ⟨hF, qa, st, c, a, l, fs, ⟨dx, h1⟩, hq, hS, hn, rfl⟩, G, k⟩ := h
    refine ⟨_, (pss_one (ps_ret (c_meth0 (pe_fld (pv 0) rfl) T.c_Stream T.m_Stream_finish (ok_Stream_finish T) (hr.mono (by decide)) (pX (takes_of rfl rfl rfl rfl))))), ?_⟩
    have hs : SnAt K F H sn (sn :: c :: a :: l :: fs) s := ⟨hF, qa, st, c, a, l, fs, ⟨dx, h1⟩, hq, hS, hn, rfl⟩
    obtain ⟨dx2, h2⟩ := hS.ins
    unfold sFinish at k
    refine ⟨_, rfl, _, _, _, _, _, rfl, h1, T.c_Session, T.n_Session_stream, rfl, ?_⟩
    refine ⟨_, _, _, rfl, h2, rfl, ?_⟩
    refine ⟨F, st, c, a, l, fs, s.p, s.sh, s.se, rfl, sF, hS, fun hw => ?_, fun hw H1 r s1 hr1 hr2 => ?_⟩
    · rw [hw, if_neg (by simp)] at k
      exact k H (Same.refl _)
    · rw [hw, if_pos rfl] at k
      exact SessTold.list k sF hs s1 hr1 hr2
theorem ok_Session_room (T : Facts K mg) : OkFn P w K mg base CX0 7 (He.ma K (He.ga K "Session") "room") 1 (spSess K sRoom) := by
  refine mk_fn T.d_Session_room sc_Session_room (fun _ _ _ _ _ _ us hl => match us, hl with | [_], _ => rfl) (fun vs H Q E h => ?_) (fun cdv A outer s H vs Q E hr h => ?_)
  · obtain ⟨_, _, _, _, rfl, _⟩ := h
    rfl
  · obtain ⟨F, sn, S, s, rfl, sF, ⟨hF, qa, st, c, a, l, fs, ⟨dx, h1⟩, hq, hS, hn, rfl⟩, G, k⟩ := h
    refine ⟨_, PSs.nox (pss_one (ps_ret (c_meth0 (pe_fld (pv 0) rfl) T.c_Stream T.m_Stream_room (ok_Stream_room T) (hr.mono (by decide)) pass0))), ?_⟩
    have hs : SnAt K F H sn (sn :: c :: a :: l :: fs) s := ⟨hF, qa, st, c, a, l, fs, ⟨dx, h1⟩, hq, hS, hn, rfl⟩
    obtain ⟨dx2, h2⟩ := hS.ins
    refine ⟨_, rfl, _, _, _, _, _, rfl, h1, T.c_Session, T.n_Session_stream, rfl, ?_⟩
    refine ⟨_, _, _, rfl, h2, rfl, ?_⟩
    exact ⟨F, st, c, a, l, fs, s.p, s.sh, s.se, rfl, sF, hS, fun H1 r s1 hr1 hr2 => SessTold.list k sF hs s1 hr1 hr2⟩
theorem ok_Session_begin_again (T : Facts K mg) : OkFn P w K mg base CX0 5 (He.ma K (He.ga K "Session") "begin_again") 1 (spSess K sAgain) := by
  refine mk_fn T.d_Session_begin_again sc_Session_begin_again (fun _ _ _ _ _ _ us hl => match us, hl with | [_], _ => rfl) (fun vs H Q E h => ?_) (fun cdv A outer s H vs Q E hr h => ?_)
  · obtain ⟨_, _, _, _, rfl, _⟩ := h
    rfl
  · obtain ⟨F, sn, S, s, rfl, sF, ⟨hF, qa, st, c, a, l, fs, ⟨dx, h1⟩, hq, hS, hn, rfl⟩, G, k⟩ := h
    refine ⟨_, PSs.nox (pss_cons (ps_set (i := 1) sc_Session_begin_again.nd rfl (.inl rfl) (pe_fld (pe_fld (pe_fld (pv 0) rfl) rfl) rfl))
      (pss_cons (ps_fld (pv 0) (c_make T.k_Stream (ok_Stream_init T) (hr.mono (by decide)) rfl T.g_Stream pass0 (pa_cons (pe_fld (pv 0) rfl) pa_nil)) rfl)
      (pss_one (ps_ret (pe_lst (pa_cons (pv 1) pa_nil)))))), ?_⟩
    obtain ⟨dx2, h2⟩ := hS.ins
    obtain ⟨dx3, h3⟩ := hS.sh.ins
    refine ⟨_, rfl, _, _, _, _, _, rfl, h1, T.c_Session, T.n_Session_stream, rfl, ?_⟩
    refine ⟨_, _, _, _, _, rfl, h2, T.c_Stream, T.n_Stream_shape, rfl, ?_⟩
    refine ⟨_, _, _, _, _, rfl, h3, T.c_Shape, T.n_Shape_entries, rfl, ?_⟩
    dsimp only [gName]
    refine ⟨_, rfl, _, _, _, _, _, rfl, h1, T.c_Session, T.n_Session_asked, rfl, ?_⟩
    intro st1 dxs hx1 hdx1 hne1
    refine make_stream sF hq hx1 hdx1 hne1 fun H1 c1 a1 l1 s1 fr S1 => ⟨rfl, ?_⟩
    refine ⟨_, rfl, _, _, _, _, rfl, s1 _ _ h1, T.c_Session, T.n_Session_stream, by walk_at "few", ?_⟩
    obtain ⟨g, hs, sub⟩ := again_put sF hF h1 hq s1 fr S1
    dsimp only
    walk_at "v"
    refine ⟨by show 1 ≤ sizeLine; decide, fun r hr2 => ?_⟩
    have s3 := upd_same_of (o := HO.lst [V.int (s.sh.entries : Int)]) hr2
    have g3 : Go [] _ F _ _ := Go.new (S := []) g.same s3
    refine k _ _ _ r ((g.wide (by simp) : Go (sn :: c :: a :: l :: fs) H F _ F).trans g3 (by simp)) (hs.new g3 g.same) (fun b hb => ?_) ?_
    · rcases sub b hb with h | h
      · exact .inl (by simp [h])
      · exact .inr h
    · exact (Gr.new hr2).trans upd_same
theorem ok_Session_ask (T : Facts K mg) : OkFn P w K mg base (L2.CX P w) 108 (He.ma K (He.ga K "Session") "ask") 2 (spSessT K sAsk) := by
  refine mk_fn T.d_Session_ask sc_Session_ask (fun _ _ _ _ _ _ us hl => match us, hl with | [_, _], _ => rfl) (fun vs H Q E h => ?_) (fun cdv A outer s H vs Q E hr h => ?_)
  · obtain ⟨_, _, _, _, _, _, rfl, _⟩ := h
    rfl
  · obtain ⟨F, sn, S, s, ta, t, rfl, sF, ⟨hF, qa, st, c, a, l, fs, ⟨dx, h1⟩, hq, hS, hn, rfl⟩, G, ht, hlen, k⟩ := h
    refine ⟨_, (pss_cons (ps_fld (pv 0) (c_fn (ok_question_of T) (hr.mono (by decide)) rfl T.g_question_of (pX (takes_of rfl rfl rfl rfl)) (pa_cons (pv 1) pa_nil)) rfl)
      (pss_cons (ps_fld (pv 0) (c_make T.k_Stream (ok_Stream_init T) (hr.mono (by decide)) rfl T.g_Stream pass0 (pa_cons (pe_fld (pv 0) rfl) pa_nil)) rfl)
      (pss_one (ps_ret (pe_lst (pa_cons (pe_callB call_len_seq (by rfl) T.f_len boot_len (pa_cons (pe_fld (pe_fld (pv 0) rfl) rfl) pa_nil)) pa_nil)))))), ?_⟩
    have sn_S : SnAt K F H sn (sn :: c :: a :: l :: fs) s := ⟨hF, qa, st, c, a, l, fs, ⟨dx, h1⟩, hq, hS, hn, rfl⟩
    unfold sAsk at k
    walk_at "v"
    refine ⟨F, ta, t, rfl, sF, ht, hlen, fun p hp H1 qa1 s1 hq1 => ?_, fun hno H1 s1 => ?_⟩
    rotate_left
    · rw [hno] at k
      exact k H1 s1
    simp only [hp] at k
    have g1 : Go [] H F H1 _ := Go.new (S := []) sF s1
    have hF1 : Gr H F H1 sn = none := g1.free (by rw [h1]; intro z; cases z) hF
    generalize Gr H F H1 = F1 at g1 hq1 hF1
    refine ⟨_, rfl, _, _, _, _, rfl, s1 _ _ h1, T.c_Session, T.n_Session_asked, by walk_at "few", ?_⟩
    have g2 : Go [sn] H1 F1 _ F1 := Go.put (o := .ins (He.ga K "Session") dx (snF qa1 st)) g1.same (by simp) hF1
    have h2 : upd H1 sn (.ins (He.ga K "Session") dx (snF qa1 st)) sn = _ := upd_same
    have g12 : Go [sn] H F _ F1 := (g1.wide (by simp) : Go [sn] H F H1 F1).trans g2 (fun b h _ => h)
    dsimp only
    refine ⟨_, rfl, _, _, _, _, _, rfl, h2, T.c_Session, T.n_Session_asked, rfl, ?_⟩
    intro st3 dxs hx3 hdx3 hne3
    refine make_stream g2.same hq1 hx3 hdx3 hne3 fun H3 c3 a3 l3 s3 fr S3 => ⟨rfl, ?_⟩
    refine ⟨_, rfl, _, _, _, _, rfl, s3 _ _ h2, T.c_Session, T.n_Session_stream, by walk_at "few", ?_⟩
    obtain ⟨g3, hs, sub⟩ := again_put g2.same hF1 h2 hq1 s3 fr S3
    have h4 : upd H3 sn (.ins (He.ga K "Session") dx (snF qa1 st3)) sn = _ := upd_same
    obtain ⟨sl, cc, as, ⟨dq, q5⟩, q6, q7, q8⟩ := id hq1
    dsimp only
    refine ⟨_, rfl, _, _, _, _, _, rfl, h4, T.c_Session, T.n_Session_asked, rfl, ?_⟩
    refine ⟨_, _, _, _, _, rfl, g3.same _ _ q5, T.c_Question, T.n_Question_steps, rfl, ?_⟩
    refine ⟨sl, _, rfl, .inl (SqL.of (g3.same _ _ q6)), ?_⟩
    walk_at "v"
    refine ⟨by show 1 ≤ sizeLine; decide, fun r hr2 => ?_⟩
    have s5 := upd_same_of (o := HO.lst [V.int ((as.map V.ref).length : Nat)]) hr2
    have g5 : Go [] _ F1 _ _ := Go.new (S := []) g3.same s5
    have g13 := g12.trans g3 (S := [sn]) (fun b h _ => h)
    refine k _ _ _ r ((g13.wide (by simp) : Go (sn :: c :: a :: l :: fs) H F _ F1).trans g5 (by simp)) (hs.new g5 g3.same) (fun b hb => ?_) ?_
    · rcases sub b hb with h | h
      · exact .inl (by simp [h])
      · refine .inr ?_
        cases z : H b with
        | none => rfl
        | some o => exact absurd h (g12.dom b (by rw [z]; intro y; cases y))
    · refine (Gr.new hr2).trans (upd_same.trans ?_)
      rw [List.length_map, q7.length]
      rfl
theorem ok_Session_hear_token (T : Facts K mg) : OkFn P w K mg base (L2.CX P w) 38 (He.ma K (He.ga K "Session") "hear_token") 2 (spSessT K sToken) := by
  refine mk_fn T.d_Session_hear_token sc_Session_hear_token (fun _ _ _ _ _ _ us hl => match us, hl with | [_, _], _ => rfl) (fun vs H Q E h => ?_) (fun cdv A outer s H vs Q E hr h => ?_)
  · obtain ⟨_, _, _, _, _, _, rfl, _⟩ := h
    rfl
  · obtain ⟨F, sn, S, s, ta, t, rfl, sF, ⟨hF, qa, st, c, a, l, fs, ⟨dx, h1⟩, hq, hS, hn, rfl⟩, G, ht, hlen, k⟩ := h
    refine ⟨_, (pss_cons (ps_set (i := 2) sc_Session_hear_token.nd rfl (.inl rfl) (c_meth (pe_fld (pv 0) rfl) T.c_Stream T.m_Stream_hear (ok_Stream_hear T) (hr.mono (by decide)) (pX (takes_of rfl rfl rfl rfl)) (pa_cons (c_fn (ok_token_of T) (hr.mono (by decide)) rfl T.g_token_of (pX (takes_of rfl rfl rfl rfl)) (pa_cons (pv 1) pa_nil)) pa_nil)))
      (pss_cons (ps_if (pt_cmpR op_eq (pe_callB call_len_seq (by rfl) T.f_len boot_len (pa_cons (pv 2) pa_nil)) pe_int (nomark _))
        (pss_one (ps_ret (pe_lst (pa_cons (pe_num rfl T.i_NOTHING_TOLD) pa_nil))))
        pss_nil)
      (pss_one (ps_ret (pv 2))))), ?_⟩
    have hs : SnAt K F H sn (sn :: c :: a :: l :: fs) s := ⟨hF, qa, st, c, a, l, fs, ⟨dx, h1⟩, hq, hS, hn, rfl⟩
    obtain ⟨dx2, h2⟩ := hS.ins
    unfold sToken at k
    refine ⟨_, rfl, _, _, _, _, _, rfl, h1, T.c_Session, T.n_Session_stream, rfl, ?_⟩
    refine ⟨_, _, _, rfl, h2, rfl, ?_⟩
    walk_at "v"
    refine ⟨F, ta, t, rfl, sF, ht, fun v hv H1 kk s1 hk => ?_, fun hno H1 s1 => ?_⟩
    rotate_left
    · rw [hno] at k
      exact k H1 s1
    simp only [hv] at k
    have g1 : Go [] H F H1 _ := Go.new (S := []) sF s1
    have S1 := hS.go g1 sF (by simp)
    have hs1 := hs.new g1 sF
    refine ⟨_, st, c, a, l, fs, s.p, s.sh, s.se, kk, v, rfl, g1.same, S1, G, hk, tokOf_ok hv, fun hno H2 s2 => ?_, fun sh' se' told hh H2 F2 fs2 r g2 S2 sub hr2 => ?_⟩
    · simp only [hno] at k
      exact k H2 (s1.trans s2)
    · simp only [hh] at k
      have hsn : sn ∉ c :: a :: l :: fs := fun hb => hn (List.mem_cons_of_mem _ hb)
      have hsn2 : sn ∉ st :: c :: a :: l :: fs2 := fun hb => by
        rcases List.mem_cons.mp hb with hb | hb
        · exact hn (by simp [hb])
        · rcases List.mem_cons.mp hb with hb | hb
          · exact hn (by simp [hb])
          · rcases List.mem_cons.mp hb with hb | hb
            · exact hn (by simp [hb])
            · rcases List.mem_cons.mp hb with hb | hb
              · exact hn (by simp [hb])
              · rcases sub sn hb with h | h
                · exact hn (by simp [h])
                · have := s1 _ _ h1; rw [h] at this; cases this
      have g12 : Go (sn :: c :: a :: l :: fs) H F H2 F2 := (g1.wide (by simp) : Go (sn :: c :: a :: l :: fs) H F H1 _).trans g2 (fun b hb _ => List.mem_cons_of_mem _ hb)
      have hs2 : SnAt K F2 H2 sn (sn :: c :: a :: l :: fs2) ⟨s.p, sh', se'⟩ := ⟨g2.free (by rw [s1 _ _ h1]; intro z; cases z) hs1.1, qa, st, c, a, l, fs2, ⟨dx, g2.keep _ _ (s1 _ _ h1) hsn⟩, hq.mono (g12.held sF), S2, hsn2, rfl⟩
      have sub2 : ∀ b ∈ sn :: c :: a :: l :: fs2, b ∈ sn :: c :: a :: l :: fs ∨ H b = none := fun b hb => by
        rcases List.mem_cons.mp hb with hb | hb
        · exact .inl (by simp [hb])
        · rcases List.mem_cons.mp hb with hb | hb
          · exact .inl (by simp [hb])
          · rcases List.mem_cons.mp hb with hb | hb
            · exact .inl (by simp [hb])
            · rcases List.mem_cons.mp hb with hb | hb
              · exact .inl (by simp [hb])
              · rcases sub b hb with h | h
                · exact .inl (by simp [h])
                · exact .inr (s1.free h)
      have hrr := g2.same _ _ hr2
      dsimp only [gName]
      walk_at "v"
      refine ⟨r, _, rfl, .inl (SqL.of hrr), ?_⟩
      have hli : (intsV told).length = told.length := by simp [intsV]
      walk_at "v"
      refine ⟨rfl, _, rfl, ?_⟩
      cases told with
      | nil =>
        refine if_pos_of rfl ?_
        walk_at "v"
        refine ⟨by show 1 ≤ sizeLine; decide, fun r2 hr3 => ?_⟩
        have s3 := upd_same_of (o := HO.lst [V.int 0]) hr3
        have g3 : Go [] H2 F2 _ _ := Go.new (S := []) g2.same s3
        refine k _ _ _ r2 (g12.trans g3 (by simp)) (hs2.new g3 g2.same) sub2 ?_
        rw [Gr.new hr3]
        exact upd_same
      | cons z zs =>
        refine if_neg_of (by rw [hli]; exact decide_eq_false fun z => by have := V.int.inj z; simp at this; omega) ?_
        refine ⟨_, rfl, k H2 F2 _ r g12 hs2 sub2 hr2⟩
theorem ok_Session_hear_tree (T : Facts K mg) : OkFn P w K mg base (L2.CX P w) 39 (He.ma K (He.ga K "Session") "hear_tree") 2 (spSessT K sTree) := by
  refine mk_fn T.d_Session_hear_tree sc_Session_hear_tree (fun _ _ _ _ _ _ us hl => match us, hl with | [_, _], _ => rfl) (fun vs H Q E h => ?_) (fun cdv A outer s H vs Q E hr h => ?_)
  · obtain ⟨_, _, _, _, _, _, rfl, _⟩ := h
    rfl
  · obtain ⟨F, sn, S, s, ta, t, rfl, sF, ⟨hF, qa, st, c, a, l, fs, ⟨dx, h1⟩, hq, hS, hn, rfl⟩, G, ht, hlen, k⟩ := h
    refine ⟨_, (pss_cons (ps_set (i := 2) sc_Session_hear_tree.nd rfl (.inl rfl) (c_fn (ok_tree_tokens T) (hr.mono (by decide)) rfl T.g_tree_tokens (pX (takes_of rfl rfl rfl rfl)) (pa_cons (pv 1) pa_nil)))
      (pss_cons (ps_expr (c_meth (pe_fld (pv 0) rfl) T.c_Stream T.m_Stream_rehearse (ok_Stream_rehearse T) (hr.mono (by decide)) (pX (takes_of rfl rfl rfl rfl)) (pa_cons (pv 2) pa_nil)))
      (pss_one (ps_ret (c_meth (pe_fld (pv 0) rfl) T.c_Stream T.m_Stream_hear_all (ok_Stream_hear_all T) (hr.mono (by decide)) (pX (takes_of rfl rfl rfl rfl)) (pa_cons (pv 2) pa_nil)))))), ?_⟩
    have hs : SnAt K F H sn (sn :: c :: a :: l :: fs) s := ⟨hF, qa, st, c, a, l, fs, ⟨dx, h1⟩, hq, hS, hn, rfl⟩
    obtain ⟨dx2, h2⟩ := hS.ins
    unfold sTree at k
    walk_at "v"
    refine ⟨F, ta, t, rfl, sF, ht, hlen, fun ts hts H1 tl s1 htl hTL => ?_, fun hno H1 s1 => ?_⟩
    rotate_left
    · rw [hno] at k
      exact k H1 s1
    simp only [hts] at k
    obtain ⟨tok, s', hcome, hwhole⟩ := toks_ok _ _ _ _ hts
    have g1 : Go [] H F H1 _ := Go.new (S := []) sF s1
    have S1 := hS.go g1 sF (by simp)
    have hs1 := hs.new g1 sF
    dsimp only [gName]
    refine ⟨_, rfl, _, _, _, _, _, rfl, s1 _ _ h1, T.c_Session, T.n_Session_stream, rfl, ?_⟩
    refine ⟨_, _, _, rfl, s1 _ _ h2, rfl, ?_⟩
    walk_at "v"
    refine ⟨_, st, c, a, l, fs, s.p, s.sh, s.se, tl, ts, rfl, g1.same, S1, G, hTL, tok, fun hno H2 s2 => ?_, fun s3 hs3 H2 s2 => ?_⟩
    · have hh := hearAll_come s.p ts s.sh s.se
      rw [hno] at hh
      cases ha : hearAll s.p s.sh s.se ts with
      | none =>
        simp only [ha] at k
        exact k H2 (s1.trans s2)
      | some y => rw [ha] at hh; cases hh
    · have hh := hearAll_come s.p ts s.sh s.se
      rw [hs3] at hh
      cases ha : hearAll s.p s.sh s.se ts with
      | none => rw [ha] at hh; cases hh
      | some y =>
        obtain ⟨sh', se', n, told⟩ := y
        simp only [ha] at k
        have g2 : Go [] H1 _ H2 _ := Go.idle g1.same s2
        have S2 := S1.go g2 g1.same (by simp)
        have hs2 := hs1.new g2 g1.same
        have s12 := s1.trans s2
        have g12 := g1.trans g2 (S := []) (by simp)
        refine ⟨_, rfl, _, _, _, _, _, rfl, s12 _ _ h1, T.c_Session, T.n_Session_stream, rfl, ?_⟩
        refine ⟨_, _, _, rfl, s12 _ _ h2, rfl, ?_⟩
        walk_at "v"
        refine ⟨_, st, c, a, l, fs, s.p, s.sh, s.se, tl, ts, rfl, g2.same, S2, G, hTL, tok, sh', se', n, told, ha, fun H3 F3 fs2 r g3 S3 sub hr3 => ?_⟩
        have hsn : sn ∉ c :: a :: l :: fs := fun hb => hn (List.mem_cons_of_mem _ hb)
        have hsn2 : sn ∉ st :: c :: a :: l :: fs2 := fun hb => by
          rcases List.mem_cons.mp hb with hb | hb
          · exact hn (by simp [hb])
          · rcases List.mem_cons.mp hb with hb | hb
            · exact hn (by simp [hb])
            · rcases List.mem_cons.mp hb with hb | hb
              · exact hn (by simp [hb])
              · rcases List.mem_cons.mp hb with hb | hb
                · exact hn (by simp [hb])
                · rcases sub sn hb with h | h
                  · exact hn (by simp [h])
                  · have := s12 _ _ h1; rw [h] at this; cases this
        have g13 : Go (sn :: c :: a :: l :: fs) H F H3 F3 := (g12.wide (by simp) : Go (sn :: c :: a :: l :: fs) H F H2 _).trans g3 (fun b hb _ => List.mem_cons_of_mem _ hb)
        refine k H3 F3 (sn :: c :: a :: l :: fs2) r g13 ⟨g3.free (by rw [s12 _ _ h1]; intro z; cases z) hs2.1, qa, st, c, a, l, fs2, ⟨dx, g3.keep _ _ (s12 _ _ h1) hsn⟩, hq.mono (g13.held sF), S3, hsn2, rfl⟩ (fun b hb => ?_) hr3
        rcases List.mem_cons.mp hb with hb | hb
        · exact .inl (by simp [hb])
        · rcases List.mem_cons.mp hb with hb | hb
          · exact .inl (by simp [hb])
          · rcases List.mem_cons.mp hb with hb | hb
            · exact .inl (by simp [hb])
            · rcases List.mem_cons.mp hb with hb | hb
              · exact .inl (by simp [hb])
              · rcases sub b hb with h | h
                · exact .inl (by simp [h])
                · exact .inr (s12.free h)
theorem ok_Session_list_tokens (T : Facts K mg) : OkFn P w K mg base (L2.CX P w) 9 (He.ma K (He.ga K "Session") "list_tokens") 2 (spSessT K sTokens) := by
  refine mk_fn T.d_Session_list_tokens sc_Session_list_tokens (fun _ _ _ _ _ _ us hl => match us, hl with | [_, _], _ => rfl) (fun vs H Q E h => ?_) (fun cdv A outer s H vs Q E hr h => ?_)
  · obtain ⟨_, _, _, _, _, _, rfl, _⟩ := h
    rfl
  · obtain ⟨F, sn, S, s, ta, t, rfl, sF, ⟨hF, qa, st, c, a, l, fs, ⟨dx, h1⟩, hq, hS, hn, rfl⟩, G, ht, hlen, k⟩ := h
    refine ⟨_, (pss_cons (ps_set (i := 2) sc_Session_list_tokens.nd rfl (.inl rfl) (c_fn (ok_tree_tokens T) (hr.mono (by decide)) rfl T.g_tree_tokens (pX (takes_of rfl rfl rfl rfl)) (pa_cons (pv 1) pa_nil)))
      (pss_cons (ps_set (i := 3) sc_Session_list_tokens.nd rfl (.inl rfl) (pe_lst (pa_cons (pe_callB call_len_seq (by rfl) T.f_len boot_len (pa_cons (pv 2) pa_nil)) pa_nil)))
      (pss_cons (ps_for (passes_of rfl) rfl (pi_list (pv 2)) (pg_name (i := 4) sc_Session_list_tokens.nd rfl (.inl rfl))
        (pss_one (ps_expr (pe_bm PySem.F.plainAttrs_list PySem.F.slot_list_extend PySem.F.type_list_extend mt_extend (pv 3) (pa_cons (c_fn (ok_counted T) (hr.mono (by decide)) rfl T.g_counted pass0 (pa_cons (pe_fld (pv 4) rfl) pa_nil)) pa_nil)))))
      (pss_one (ps_ret (pv 3)))))), ?_⟩
    have hs : SnAt K F H sn (sn :: c :: a :: l :: fs) s := ⟨hF, qa, st, c, a, l, fs, ⟨dx, h1⟩, hq, hS, hn, rfl⟩
    unfold sTokens at k
    walk_at "v"
    refine ⟨F, ta, t, rfl, sF, ht, hlen, fun ts hts H1 tl s1 htl hTL => ?_, fun hno H1 s1 => ?_⟩
    rotate_left
    · rw [hno] at k
      exact k H1 s1
    simp only [hts] at k
    obtain ⟨tok, s', hcome, hwhole⟩ := toks_ok _ _ _ _ hts
    have hcount := toks_len _ _ _ _ hts
    have g1 : Go [] H F H1 _ := Go.new (S := []) sF s1
    obtain ⟨as, hla, htk⟩ := hTL
    generalize Gr H F H1 = F1 at g1 hla htk
    have htl1 := g1.same _ _ hla
    dsimp only [gName]
    walk_at "v"
    refine ⟨tl, _, rfl, .inl (SqL.of htl1), ?_⟩
    walk_at "v"
    refine ⟨by show 1 ≤ sizeLine; decide, fun li hli => ?_⟩
    have s2 := upd_same_of (o := HO.lst [V.int ((as.map V.ref).length : Nat)]) hli
    have hli2 : upd H1 li (.lst [V.int ((as.map V.ref).length : Nat)]) li = some (.lst (intsV ((ts.length : Int) :: (ts.take 0).flatMap fun x => Vapaqf.toldText (Vapaqf.tokenText x)))) := by
      rw [upd_same, List.length_map, htk.length]
      rfl
    generalize upd H1 li (.lst [V.int ((as.map V.ref).length : Nat)]) = H2 at s2 hli2 ⊢
    have liF : F1 li = none := by
      cases z : F1 li with
      | none => rfl
      | some o => have := g1.same _ _ z; rw [hli] at this; cases this
    have hliH : H li = none := s1.free hli
    dsimp only [gName]
    walk_at "v"
    refine ⟨⟨as.map V.ref, SqL.of (s2 _ _ htl1)⟩, for_list (xs := as.map V.ref) (fun i σ H3 => Same F1 H3 ∧ Same H H3 ∧ H3 li = some (.lst (intsV ((ts.length : Int) :: (ts.take i).flatMap fun x => Vapaqf.toldText (Vapaqf.tokenText x)))) ∧ (ts.take i).length = i ∧ ∃ u, σ = [some (.ref sn), some (.ref ta), some (.ref tl), some (.ref li), u]) ⟨g1.same.trans s2, s1.trans s2, hli2, rfl, none, rfl⟩ (fun i σ H3 _ p => SqL.of (p.1 _ _ hla)) ?_ ?_⟩
    · rintro i v σ H3 hv ⟨s3, s3', hli3, htake, u, rfl⟩
      rw [List.getElem?_map] at hv
      cases ho : as[i]? with
      | none => rw [ho] at hv; cases hv
      | some tk =>
        rw [ho] at hv
        have hv' : v = .ref tk := (Option.some.inj hv).symm
        subst hv'
        obtain ⟨x, hxi, ⟨tx, kv, nv, ⟨dt, t1⟩, t2, -, -⟩⟩ := htk.get ho
        have hxl := (List.getElem?_eq_some_iff.mp hxi).1
        have hlen2 := tokenText_len (tok x (List.mem_of_getElem? hxi))
        walk_at "v"
        refine ⟨.inl ⟨rfl, _, SqL.of hli3⟩, ?_⟩
        walk_at "v"
        refine ⟨_, _, _, _, _, rfl, s3 _ _ t1, T.c_Token, T.n_Token_text, rfl, ?_⟩
        walk_at "v"
        refine ⟨tx, _, rfl, s3 _ _ t2, by rw [bs_length, sizeLine_eq]; omega, fun H4 p4 s4 hp4 h4 => ?_⟩
        rw [← told_text] at h4
        have bound : (((ts.take i).flatMap fun x => Vapaqf.toldText (Vapaqf.tokenText x))).length ≤ 51 * i := listed_len tok i
        refine ⟨li, p4, _, _, rfl, rfl, s4 _ _ hli3, h4, ?_, ?_⟩
        · have z1 : (intsV ((ts.length : Int) :: (ts.take i).flatMap fun x => Vapaqf.toldText (Vapaqf.tokenText x))).length = (((ts.take i).flatMap fun x => Vapaqf.toldText (Vapaqf.tokenText x))).length + 1 := by simp [intsV]
          have z2 : (intsV (Vapaqf.toldText (Vapaqf.tokenText x))).length = (Vapaqf.tokenText x).length + 1 := by simp [intsV, Vapaqf.toldText]
          rw [z1, z2, sizeLine_eq]
          omega
        · refine ⟨fun b o e => ?_, fun b o e => ?_, ?_, ?_, _, rfl⟩
          · rw [upd_ne (fun z => by rw [z, liF] at e; cases e)]
            exact s4 _ _ (s3 _ _ e)
          · rw [upd_ne (fun z => by rw [z, hliH] at e; cases e)]
            exact s4 _ _ (s3' _ _ e)
          · rw [upd_same, List.take_add_one, hxi, List.flatMap_append]
            simp [intsV]
          · rw [List.length_take]
            omega
    · rintro σ H3 ⟨s3, s3', hli3, htake, u, rfl⟩
      rw [List.length_map, htk.length, List.take_length] at hli3
      exact ⟨_, rfl, SessTold.list k sF hs s3' hliH hli3⟩
theorem ok_Session_answer_tree (T : Facts K mg) : OkFn P w K mg base (L2.CX P w) 39 (He.ma K (He.ga K "Session") "answer_tree") 2 (spSessT K sAnswers) := by
  refine mk_fn T.d_Session_answer_tree sc_Session_answer_tree (fun _ _ _ _ _ _ us hl => match us, hl with | [_, _], _ => rfl) (fun vs H Q E h => ?_) (fun cdv A outer s H vs Q E hr h => ?_)
  · obtain ⟨_, _, _, _, _, _, rfl, _⟩ := h
    rfl
  · obtain ⟨F, sn, S, s, ta, t, rfl, sF, ⟨hF, qa, st, c, a, l, fs, ⟨dx, h1⟩, hq, hS, hn, rfl⟩, G, ht, hlen, k⟩ := h
    refine ⟨_, (pss_cons (ps_set (i := 2) sc_Session_answer_tree.nd rfl (.inl rfl) (c_fn (ok_tree_tokens T) (hr.mono (by decide)) rfl T.g_tree_tokens (pX (takes_of rfl rfl rfl rfl)) (pa_cons (pv 1) pa_nil)))
      (pss_cons (ps_set (i := 3) sc_Session_answer_tree.nd rfl (.inl rfl) (c_make T.k_Stream (ok_Stream_init T) (hr.mono (by decide)) rfl T.g_Stream pass0 (pa_cons (pe_fld (pv 0) rfl) pa_nil)))
      (pss_cons (ps_set (i := 4) sc_Session_answer_tree.nd rfl (.inl rfl) (c_meth (pv 3) T.c_Stream T.m_Stream_hear_all (ok_Stream_hear_all T) (hr.mono (by decide)) (pX (takes_of rfl rfl rfl rfl)) (pa_cons (pv 2) pa_nil)))
      (pss_one (ps_ret (pe_op op_cat (pv 4) (c_meth0 (pv 3) T.c_Stream T.m_Stream_finish (ok_Stream_finish T) (hr.mono (by decide)) (pX (takes_of rfl rfl rfl rfl))))))))), ?_⟩
    have hs : SnAt K F H sn (sn :: c :: a :: l :: fs) s := ⟨hF, qa, st, c, a, l, fs, ⟨dx, h1⟩, hq, hS, hn, rfl⟩
    unfold sAnswers at k
    walk_at "v"
    refine ⟨F, ta, t, rfl, sF, ht, hlen, fun ts hts H1 tl s1 htl hTL => ?_, fun hno H1 s1 => ?_⟩
    rotate_left
    · rw [hno] at k
      exact k H1 s1
    simp only [hts] at k
    obtain ⟨tok, s', hcome, hwhole⟩ := toks_ok _ _ _ _ hts
    have g1 : Go [] H F H1 _ := Go.new (S := []) sF s1
    have hh := hearAll_come s.p ts .fresh (.fresh s.p)
    rw [hcome] at hh
    cases ha : hearAll s.p .fresh (.fresh s.p) ts with
    | none => rw [ha] at hh; cases hh
    | some y =>
      obtain ⟨sh', se', n, told⟩ := y
      rw [ha] at hh
      have e' : sh' = s' := Option.some.inj hh
      subst e'
      simp only [ha] at k
      obtain ⟨G', hl'⟩ := (Good.fresh s.p).hearAll tok ha
      have hfew := G'.ok.few
      dsimp only [gName]
      refine ⟨_, rfl, _, _, _, _, _, rfl, s1 _ _ h1, T.c_Session, T.n_Session_asked, rfl, ?_⟩
      intro st1 dxs hx1 hdx1 hne1
      refine make_stream g1.same (hq.mono (g1.held sF)) hx1 hdx1 hne1 fun H2 c1 a1 l1 s2 fr S2 => ⟨rfl, ?_⟩
      have s12 := s1.trans s2
      have g2 : Go [] H1 _ H2 _ := Go.idle g1.same s2
      obtain ⟨dx3, h3⟩ := S2.ins
      dsimp only [gName]
      walk_at "v"
      refine ⟨_, _, _, rfl, h3, rfl, ?_⟩
      walk_at "v"
      refine ⟨_, st1, c1, a1, l1, [], s.p, .fresh, .fresh s.p, tl, ts, rfl, g2.same, S2, Good.fresh _, hTL, tok, sh', se', n, told, ha, fun H3 F3 fs2 r g3 S3 sub hr3 => ?_⟩
      have s23 : ∀ b o, H b = some o → H3 b = some o := fun b o e => g3.keep _ _ (s12 _ _ e) (fun hb => by
        have h0 := s1.free (fr b (List.mem_cons_of_mem _ hb))
        rw [e] at h0
        cases h0)
      obtain ⟨dx4, h4⟩ := S3.ins
      dsimp only [gName]
      walk_at "v"
      refine ⟨_, _, _, rfl, h4, rfl, ?_⟩
      refine ⟨F3, st1, c1, a1, l1, fs2, s.p, sh', se', rfl, g3.same, S3, fun hno => ?_, fun _ H4 r4 s4 hr4 hr4' => ?_⟩
      · rw [hwhole] at hno
        cases hno
      · have hrr := s4 _ _ (g3.same _ _ hr3)
        refine ⟨r, r4, _, _, rfl, rfl, hrr, hr4', ?_, fun r5 hr5 => ?_⟩
        · have hf := finish_len S3.se
          have hl1 : Shp.fresh.entries = 0 := rfl
          rw [hl1] at hl'
          have z1 : (intsV ((n : Int) :: told)).length = told.length + 1 := by simp [intsV]
          have z2 : (intsV (se'.finish s.p)).length = (se'.finish s.p).length := by simp [intsV]
          rw [z1, z2, sizeLine_eq]
          omega
        · have e5 : intsV ((n : Int) :: told) ++ intsV (se'.finish s.p) = intsV (((n : Int) :: told) ++ se'.finish s.p) := by simp [intsV]
          rw [e5]
          have s5 := upd_same_of (o := HO.lst (intsV (((n : Int) :: told) ++ se'.finish s.p))) hr5
          refine SessTold.list k sF hs (fun b o e => s5 _ _ (s4 _ _ (s23 _ _ e))) ?_ upd_same
          cases z : H r5 with
          | none => rfl
          | some o => have := s4 _ _ (s23 _ _ z); rw [hr5] at this; cases this
theorem ok_Session_init (T : Facts K mg) : OkFn P w K mg base (L2.CX P w) 108 (He.ma K (He.ga K "Session") "__init__") 1 (spSessInit K) := by
  refine mk_fn T.d_Session_init sc_Session_init (fun _ _ _ _ _ _ us hl => match us, hl with | [_], _ => rfl) (fun vs H Q E h => ?_) (fun cdv A outer s H vs Q E hr h => ?_)
  · obtain ⟨_, _, _, rfl, _⟩ := h
    rfl
  · obtain ⟨F, sn, dx, rfl, sF, hF, hsn, k⟩ := h
    refine ⟨_, (pss_cons (ps_fld (pv 0) (c_fn (ok_question_of T) (hr.mono (by decide)) rfl T.g_question_of (pX (takes_of rfl rfl rfl rfl)) (pa_cons (c_fn (ok_codes T) (hr.mono (by decide)) rfl T.g_codes pass0 (pa_cons pe_str pa_nil)) pa_nil)) rfl)
      (pss_one (ps_fld (pv 0) (c_make T.k_Stream (ok_Stream_init T) (hr.mono (by decide)) rfl T.g_Stream pass0 (pa_cons (pe_fld (pv 0) rfl) pa_nil)) rfl))), ?_⟩
    have free : ∀ {b : Addr}, H b = none → F b = none := fun {b} e => by
      cases z : F b with
      | none => rfl
      | some o => have := sF _ _ z; rw [e] at this; cases this
    walk_at "v"
    refine ⟨by decide, fun H1 p1 s1 hp1 h1 => ?_⟩
    have h1' : H1 p1 = some (.lst (bs [46])) := h1
    have g1 : Go [] H F H1 _ := Go.new (S := []) sF s1
    have ht : TextAt (Gr H F H1) p1 [46] := by
      show Gr H F H1 p1 = _
      rw [Gr.new hp1]
      exact h1'
    have hF1 := g1.free (by rw [hsn]; intro z; cases z) hF
    generalize Gr H F H1 = F1 at g1 ht hF1
    refine ⟨F1, p1, [46], rfl, g1.same, ht, by decide, fun p hp H2 qa s2 hq => ?_, fun hno => ?_⟩
    rotate_left
    · rw [quest_dot] at hno
      cases hno
    rw [quest_dot] at hp
    have hp' := Option.some.inj hp
    subst hp'
    have g2 : Go [] H1 F1 H2 _ := Go.new (S := []) g1.same s2
    have hF2 := g2.free (by rw [s1 _ _ hsn]; intro z; cases z) hF1
    generalize Gr H1 F1 H2 = F2 at g2 hq hF2
    have g12 := g1.trans g2 (S := []) (by simp)
    have s12 := s1.trans s2
    refine ⟨_, rfl, _, _, _, _, rfl, s12 _ _ hsn, T.c_Session, T.n_Session_asked, by walk_at "few", ?_⟩
    have g3 : Go [sn] H2 F2 _ F2 := Go.put (o := .ins (He.ga K "Session") dx (putF "asked" (.ref qa) [])) g2.same (by simp) hF2
    have h3 : upd H2 sn (.ins (He.ga K "Session") dx (putF "asked" (.ref qa) [])) sn = _ := upd_same
    have g13 : Go [sn] H F _ F2 := (g12.wide (by simp) : Go [sn] H F H2 F2).trans g3 (fun b h _ => h)
    dsimp only
    refine ⟨_, rfl, _, _, _, _, _, rfl, h3, T.c_Session, T.n_Session_asked, rfl, ?_⟩
    intro st1 dxs hx1 hdx1 hne1
    refine make_stream g3.same hq hx1 hdx1 hne1 fun H4 c1 a1 l1 s4 fr S4 => ⟨rfl, ?_⟩
    refine ⟨_, rfl, _, _, _, _, rfl, s4 _ _ h3, T.c_Session, T.n_Session_stream, by walk_at "few", ?_⟩
    have g4 : Go [] _ F2 H4 F2 := Go.idle g3.same s4
    have g5 : Go [sn] H4 F2 _ F2 := Go.put (o := .ins (He.ga K "Session") dx (putF "stream" (.ref st1) (putF "asked" (.ref qa) []))) g4.same (by simp) hF2
    have nsn : sn ∉ [st1, c1, a1, l1] := fun hb => by have := fr sn hb; rw [h3] at this; cases this
    refine k _ F2 (sn :: c1 :: a1 :: l1 :: []) ((g13.trans g4 (S := [sn]) (by simp)).trans g5 (fun b h _ => h)) ⟨hF2, qa, st1, c1, a1, l1, [], ⟨dx, upd_same⟩, hq, S4.go g5 g4.same (fun b hb => by simp only [List.mem_singleton]; exact fun z => nsn (z ▸ hb)), nsn, rfl⟩ fun b hb => ?_
    rcases List.mem_cons.mp hb with h | h
    · exact .inl h
    · refine .inr ?_
      cases z : H b with
      | none => rfl
      | some o => exact absurd (fr b (List.mem_cons_of_mem _ h)) (g13.dom b (by rw [z]; intro y; cases y))
end
end TS
end
section
set_option Elab.async false
set_option linter.all false
set_option maxRecDepth 100000
set_option maxHeartbeats 4000000
namespace TS
open PySem PySem.Spec PyProof.Rows L2
open Vapaqf (Head Way Token Test matches_ faultOf Plan)
open Vapaqa (Text Name stepText placeText textBefore off isSmall isDigit isSign)
local macro_rules | `(tactic| walk_at "v") => `(tactic| repeat (first | refine ⟨_, rfl, ?_⟩ | refine ⟨_, _, rfl, rfl, ?_⟩ | refine ⟨_, _, rfl, ?_⟩))
local macro_rules | `(tactic| walk_at "few") => `(tactic| first | decide | (show 0 < 1000; decide) | (show 1 < 1000; decide) | (show 2 < 1000; decide) | (show 3 < 1000; decide) | (show 4 < 1000; decide) | (show 5 < 1000; decide) | (show 6 < 1000; decide))
def sDoes (n : Nat) (t : Text) (s : Sn) : Res := match n with
  | 0 => sAsk t s
  | 1 => sToken t s
  | 2 => sTree t s
  | 3 => sFinish s
  | 4 => sAgain s
  | 5 => sTokens t s
  | 6 => sAnswers t s
  | _ => sRoom s
/-- the list that a call is answered by, and the state behind it -/
def ansOf (n : Nat) (t : Text) (s : Sn) : List Int × Sn := match sDoes n t s with
  | .told r s' => (r, s')
  | .wrong => ([-1], s)
  | .cannot => ([-8], s)
def spObey (K : PySem.W.Frag) : Sp := fun vs H Q E => ∃ (F : Hp) (sn : Addr) (S : List Addr) (s : Sn) (n : Nat) (ta : Addr) (t : Text), vs = [.ref sn, .int (n : Int), .ref ta] ∧ n < 8 ∧ Same F H ∧ SnAt K F H sn S s ∧ Good s.p s.sh s.se ∧ TextAt F ta t ∧ t.length ≤ 100000 ∧ SessTold K F H sn S (sDoes n t s) Q E
def spAnswerOf (K : PySem.W.Frag) : Sp := fun vs H Q E => ∃ (F : Hp) (sn : Addr) (S : List Addr) (s : Sn) (n : Nat) (ta : Addr) (t : Text), vs = [.ref sn, .int (n : Int), .ref ta] ∧ n < 8 ∧ Same F H ∧ SnAt K F H sn S s ∧ Good s.p s.sh s.se ∧ TextAt F ta t ∧ t.length ≤ 100000 ∧ SessTold K F H sn S (.told (ansOf n t s).1 (ansOf n t s).2) Q E
section
variable {P : Program} {w : World} {K : PySem.W.Frag} {mg : Str → Option Value} {base : Heap}
theorem ok_obey (T : Facts K mg) : OkFn P w K mg base (L2.CX P w) 109 (He.ga K "obey") 3 (spObey K) := by
  refine mk_fn T.d_obey sc_obey (fun _ _ _ _ _ _ us hl => match us, hl with | [_, _, _], _ => rfl) (fun vs H Q E h => ?_) (fun cdv A outer s H vs Q E hr h => ?_)
  · obtain ⟨_, _, _, _, _, _, _, rfl, _⟩ := h
    rfl
  · obtain ⟨F, sn, S, s, n, ta, t, rfl, hn8, sF, hs, G, ht, hlen, k⟩ := h
    refine ⟨_, (pss_cons (ps_if (pt_cmpR op_eq (pv 1) (pe_num rfl T.i_QUESTION) (nomark _))
        (pss_one (ps_ret (c_meth (pv 0) T.c_Session T.m_Session_ask (ok_Session_ask T) (hr.mono (by decide)) (pX (takes_of rfl rfl rfl rfl)) (pa_cons (pv 2) pa_nil))))
        pss_nil)
      (pss_cons (ps_if (pt_cmpR op_eq (pv 1) (pe_num rfl T.i_TOKEN) (nomark _))
        (pss_one (ps_ret (c_meth (pv 0) T.c_Session T.m_Session_hear_token (ok_Session_hear_token T) (hr.mono (by decide)) (pX (takes_of rfl rfl rfl rfl)) (pa_cons (pv 2) pa_nil))))
        pss_nil)
      (pss_cons (ps_if (pt_cmpR op_eq (pv 1) (pe_num rfl T.i_FEED) (nomark _))
        (pss_one (ps_ret (c_meth (pv 0) T.c_Session T.m_Session_hear_tree (ok_Session_hear_tree T) (hr.mono (by decide)) (pX (takes_of rfl rfl rfl rfl)) (pa_cons (pv 2) pa_nil))))
        pss_nil)
      (pss_cons (ps_if (pt_cmpR op_eq (pv 1) (pe_num rfl T.i_FINISH) (nomark _))
        (pss_one (ps_ret (c_meth0 (pv 0) T.c_Session T.m_Session_finish (ok_Session_finish T) (hr.mono (by decide)) (pX (takes_of rfl rfl rfl rfl)))))
        pss_nil)
      (pss_cons (ps_if (pt_cmpR op_eq (pv 1) (pe_num rfl T.i_AGAIN) (nomark _))
        (pss_one (ps_ret (c_meth0 (pv 0) T.c_Session T.m_Session_begin_again (ok_Session_begin_again T) (hr.mono (by decide)) pass0)))
        pss_nil)
      (pss_cons (ps_if (pt_cmpR op_eq (pv 1) (pe_num rfl T.i_TOKENS) (nomark _))
        (pss_one (ps_ret (c_meth (pv 0) T.c_Session T.m_Session_list_tokens (ok_Session_list_tokens T) (hr.mono (by decide)) (pX (takes_of rfl rfl rfl rfl)) (pa_cons (pv 2) pa_nil))))
        pss_nil)
      (pss_cons (ps_if (pt_cmpR op_eq (pv 1) (pe_num rfl T.i_ANSWERS) (nomark _))
        (pss_one (ps_ret (c_meth (pv 0) T.c_Session T.m_Session_answer_tree (ok_Session_answer_tree T) (hr.mono (by decide)) (pX (takes_of rfl rfl rfl rfl)) (pa_cons (pv 2) pa_nil))))
        pss_nil)
      (pss_cons (ps_if (pt_cmpR op_eq (pv 1) (pe_num rfl T.i_ROOM) (nomark _))
        (pss_one (ps_ret (c_meth0 (pv 0) T.c_Session T.m_Session_room (ok_Session_room T) (hr.mono (by decide)) pass0)))
        pss_nil)
      (pss_one ps_never))))))))), ?_⟩
    obtain ⟨hF, qa, st, c, a, l, fs, ⟨dx, h1⟩, hq, hS, hn, hSe⟩ := id hs
    have no : ∀ m : Nat, n ≠ m → decide (V.int (n : Int) = V.int (m : Int)) = false := fun m h => decide_eq_false fun z => h (by have := V.int.inj z; omega)
    match n, hn8, k with
    | 0, _, k =>
      walk_at "v"
      refine ⟨rfl, _, rfl, if_pos_of rfl ?_⟩
      refine ⟨_, rfl, _, _, _, rfl, h1, rfl, ?_⟩
      walk_at "v"
      exact ⟨F, sn, S, s, ta, t, rfl, sF, hs, G, ht, hlen, k⟩
    | 1, _, k =>
      walk_at "v"
      refine ⟨rfl, _, rfl, if_neg_of rfl ?_⟩
      walk_at "v"
      refine ⟨rfl, _, rfl, if_pos_of rfl ?_⟩
      refine ⟨_, rfl, _, _, _, rfl, h1, rfl, ?_⟩
      walk_at "v"
      exact ⟨F, sn, S, s, ta, t, rfl, sF, hs, G, ht, hlen, k⟩
    | 2, _, k =>
      walk_at "v"
      refine ⟨rfl, _, rfl, if_neg_of rfl ?_⟩
      walk_at "v"
      refine ⟨rfl, _, rfl, if_neg_of rfl ?_⟩
      walk_at "v"
      refine ⟨rfl, _, rfl, if_pos_of rfl ?_⟩
      refine ⟨_, rfl, _, _, _, rfl, h1, rfl, ?_⟩
      walk_at "v"
      exact ⟨F, sn, S, s, ta, t, rfl, sF, hs, G, ht, hlen, k⟩
    | 3, _, k =>
      walk_at "v"
      refine ⟨rfl, _, rfl, if_neg_of rfl ?_⟩
      walk_at "v"
      refine ⟨rfl, _, rfl, if_neg_of rfl ?_⟩
      walk_at "v"
      refine ⟨rfl, _, rfl, if_neg_of rfl ?_⟩
      walk_at "v"
      refine ⟨rfl, _, rfl, if_pos_of rfl ?_⟩
      refine ⟨_, rfl, _, _, _, rfl, h1, rfl, ?_⟩
      exact ⟨F, sn, S, s, rfl, sF, hs, G, k⟩
    | 4, _, k =>
      walk_at "v"
      refine ⟨rfl, _, rfl, if_neg_of rfl ?_⟩
      walk_at "v"
      refine ⟨rfl, _, rfl, if_neg_of rfl ?_⟩
      walk_at "v"
      refine ⟨rfl, _, rfl, if_neg_of rfl ?_⟩
      walk_at "v"
      refine ⟨rfl, _, rfl, if_neg_of rfl ?_⟩
      walk_at "v"
      refine ⟨rfl, _, rfl, if_pos_of rfl ?_⟩
      refine ⟨_, rfl, _, _, _, rfl, h1, rfl, ?_⟩
      exact ⟨F, sn, S, s, rfl, sF, hs, G, k⟩
    | 5, _, k =>
      walk_at "v"
      refine ⟨rfl, _, rfl, if_neg_of rfl ?_⟩
      walk_at "v"
      refine ⟨rfl, _, rfl, if_neg_of rfl ?_⟩
      walk_at "v"
      refine ⟨rfl, _, rfl, if_neg_of rfl ?_⟩
      walk_at "v"
      refine ⟨rfl, _, rfl, if_neg_of rfl ?_⟩
      walk_at "v"
      refine ⟨rfl, _, rfl, if_neg_of rfl ?_⟩
      walk_at "v"
      refine ⟨rfl, _, rfl, if_pos_of rfl ?_⟩
      refine ⟨_, rfl, _, _, _, rfl, h1, rfl, ?_⟩
      walk_at "v"
      exact ⟨F, sn, S, s, ta, t, rfl, sF, hs, G, ht, hlen, k⟩
    | 6, _, k =>
      walk_at "v"
      refine ⟨rfl, _, rfl, if_neg_of rfl ?_⟩
      walk_at "v"
      refine ⟨rfl, _, rfl, if_neg_of rfl ?_⟩
      walk_at "v"
      refine ⟨rfl, _, rfl, if_neg_of rfl ?_⟩
      walk_at "v"
      refine ⟨rfl, _, rfl, if_neg_of rfl ?_⟩
      walk_at "v"
      refine ⟨rfl, _, rfl, if_neg_of rfl ?_⟩
      walk_at "v"
      refine ⟨rfl, _, rfl, if_neg_of rfl ?_⟩
      walk_at "v"
      refine ⟨rfl, _, rfl, if_pos_of rfl ?_⟩
      refine ⟨_, rfl, _, _, _, rfl, h1, rfl, ?_⟩
      walk_at "v"
      exact ⟨F, sn, S, s, ta, t, rfl, sF, hs, G, ht, hlen, k⟩
    | 7, _, k =>
      walk_at "v"
      refine ⟨rfl, _, rfl, if_neg_of rfl ?_⟩
      walk_at "v"
      refine ⟨rfl, _, rfl, if_neg_of rfl ?_⟩
      walk_at "v"
      refine ⟨rfl, _, rfl, if_neg_of rfl ?_⟩
      walk_at "v"
      refine ⟨rfl, _, rfl, if_neg_of rfl ?_⟩
      walk_at "v"
      refine ⟨rfl, _, rfl, if_neg_of rfl ?_⟩
      walk_at "v"
      refine ⟨rfl, _, rfl, if_neg_of rfl ?_⟩
      walk_at "v"
      refine ⟨rfl, _, rfl, if_neg_of rfl ?_⟩
      walk_at "v"
      refine ⟨rfl, _, rfl, if_pos_of rfl ?_⟩
      refine ⟨_, rfl, _, _, _, rfl, h1, rfl, ?_⟩
      exact ⟨F, sn, S, s, rfl, sF, hs, G, k⟩
    | m + 8, h, _ => exact absurd h (by omega)
theorem SessTold.mono {F H H1 : Hp} {sn : Addr} {S : List Addr} {r : List Int} {s : Sn} {Q : VK} {E : XK} (sF : Same F H) (s1 : Same H H1) (k : SessTold K F H sn S (.told r s) Q E) : SessTold K F H1 sn S (.told r s) Q E := fun H' F' S' ra g hs sub hr =>
  k H' F' S' ra ((Go.idle sF s1 : Go S H F H1 F).trans g (fun b h _ => h)) hs (fun b hb => (sub b hb).imp id fun h => s1.free h) hr
theorem ok_answer_of (T : Facts K mg) : OkFn P w K mg base CX0 110 (He.ga K "answer_of") 3 (spAnswerOf K) := by
  refine mk_fn T.d_answer_of sc_answer_of (fun _ _ _ _ _ _ us hl => match us, hl with | [_, _, _], _ => rfl) (fun vs H Q E h => ?_) (fun cdv A outer s H vs Q E hr h => ?_)
  · obtain ⟨_, _, _, _, _, _, _, rfl, _⟩ := h
    rfl
  · obtain ⟨F, sn, S, s, n, ta, t, rfl, hn8, sF, hs, G, ht, hlen, k⟩ := h
    refine ⟨_, PSs.nox (pss_one (ps_try_many (tb := fun W => tRet (tCall (spObey K) [] (fun cls d H => ∀ σ, W cls d σ H) (tCons (tVar 0) (tCons (tVar 1) (tCons (tVar 2) tNil))))) (l := [(CW K, fun _ _ _ => tRet (tLst (tCons (tUn (rU fun i => .int (-i)) (tC (.int 1))) tNil))), (CN K, fun _ _ _ => tRet (tLst (tCons (tUn (rU fun i => .int (-i)) (tC (.int 8))) tNil)))]) (Wout := fun _ _ _ _ => False) rfl rfl takes0
      (fun W pn xe tk _ => pss_one (ps_ret (c_fn (ok_obey T) (hr.mono (by decide)) rfl T.g_obey (pX (tk.imp fun c d σ H h => h σ)) (pa_cons (pv 0) (pa_cons (pv 1) (pa_cons (pv 2) pa_nil))))))
      (.cons ⟨rfl, by decide, Or.inl T.g_WrongText⟩ (fun _ _ _ _ _ _ _ => pss_one (ps_ret (pe_lst (pa_cons (pe_un un_neg pe_int) pa_nil)))) (.cons ⟨rfl, by decide, Or.inl T.g_CannotCome⟩ (fun _ _ _ _ _ _ _ => pss_one (ps_ret (pe_lst (pa_cons (pe_un un_neg pe_int) pa_nil)))) .nil)))), ?_⟩
    walk_at "v"
    refine ⟨F, sn, S, s, n, ta, t, rfl, hn8, sF, hs, G, ht, hlen, ?_⟩
    unfold ansOf at k
    cases hres : sDoes n t s with
    | told r s' =>
      rw [hres] at k
      exact k
    | wrong =>
      simp only [hres] at k
      intro H1 s1 σ
      refine ⟨true, T.x_WrongText_WrongText, fun _ a ha => ?_, fun h => by cases h⟩
      walk_at "v"
      refine ⟨by show 1 ≤ sizeLine; decide, fun r hr2 => ?_⟩
      exact SessTold.list k sF hs (s1.trans (upd_same_of hr2)) (s1.free hr2) upd_same
    | cannot =>
      simp only [hres] at k
      intro H1 s1 σ
      refine ⟨false, T.x_CannotCome_WrongText, fun h => Bool.noConfusion h, fun _ => ⟨true, T.x_CannotCome_CannotCome, fun _ a ha => ?_, fun h => by cases h⟩⟩
      walk_at "v"
      refine ⟨by show 1 ≤ sizeLine; decide, fun r hr2 => ?_⟩
      exact SessTold.list k sF hs (s1.trans (upd_same_of hr2)) (s1.free hr2) upd_same
end
end TS
end
section
set_option Elab.async false
set_option linter.all false
set_option maxRecDepth 100000
set_option maxHeartbeats 4000000
namespace TS
open PySem PySem.Spec PyProof.Rows L2
open Vapaqf (Head Way Token Test matches_ faultOf Plan)
open Vapaqa (Text Name stepText placeText textBefore off isSmall isDigit isSign)
local macro_rules | `(tactic| walk_at "v") => `(tactic| repeat (first | refine ⟨_, rfl, ?_⟩ | refine ⟨_, _, rfl, rfl, ?_⟩ | refine ⟨_, _, rfl, ?_⟩))
local macro_rules | `(tactic| walk_at "few") => `(tactic| first | decide | (show 0 < 1000; decide) | (show 1 < 1000; decide) | (show 2 < 1000; decide) | (show 3 < 1000; decide) | (show 4 < 1000; decide) | (show 5 < 1000; decide) | (show 6 < 1000; decide))
/-! ### all the calls -/
def hasText (n : Nat) : Bool := n == 0 || (n == 1 || (n == 2 || (n == 5 || n == 6)))
def encCall (c : Nat × Text) : List Int := if hasText c.1 = true then (c.1 : Int) :: (c.2.length : Int) :: c.2.map (fun b => (b.toNat : Int)) else [(c.1 : Int)]
def encAll (cs : List (Nat × Text)) : List Int := cs.flatMap encCall
def outAll : Sn → List (Nat × Text) → List Int
  | _, [] => []
  | s, c :: r => ((ansOf c.1 c.2 s).1.length : Int) :: ((ansOf c.1 c.2 s).1 ++ outAll (ansOf c.1 c.2 s).2 r)
def Sn.Good (s : Sn) : Prop := TS.Good s.p s.sh s.se
theorem ansOf_good {n : Nat} {t : Text} {s : Sn} (G : s.Good) : (ansOf n t s).2.Good := by
  have key : ∀ r s', sDoes n t s = .told r s' → s'.Good := by
    intro r s' h
    have hAsk : sAsk t s = .told r s' → s'.Good := fun h => by
      unfold sAsk at h
      cases hq : questOf t with
      | none => rw [hq] at h; cases h
      | some p => rw [hq] at h; cases h; exact Good.fresh p
    have hTok : sToken t s = .told r s' → s'.Good := fun h => by
      unfold sToken at h
      cases hq : tokOf t with
      | none => rw [hq] at h; cases h
      | some tk =>
        rw [hq] at h
        simp only at h
        cases hh : hear s.p s.sh s.se tk with
        | none => rw [hh] at h; cases h
        | some y =>
          obtain ⟨sh, se, told⟩ := y
          rw [hh] at h
          cases h
          exact (TS.Good.hear G (tokOf_ok hq) hh).1
    have hTree : sTree t s = .told r s' → s'.Good := fun h => by
      unfold sTree at h
      cases hq : treeToks t with
      | none => rw [hq] at h; cases h
      | some ts =>
        rw [hq] at h
        simp only at h
        cases hh : hearAll s.p s.sh s.se ts with
        | none => rw [hh] at h; cases h
        | some y =>
          obtain ⟨sh, se, n, told⟩ := y
          rw [hh] at h
          cases h
          exact (TS.Good.hearAll G (toks_ok _ _ _ _ hq).1 hh).1
    have hFin : sFinish s = .told r s' → s'.Good := fun h => by
      unfold sFinish at h
      split at h
      · cases h; exact G
      · cases h
    have hList : sTokens t s = .told r s' → s'.Good := fun h => by
      unfold sTokens at h
      cases hq : treeToks t with
      | none => rw [hq] at h; cases h
      | some ts => rw [hq] at h; cases h; exact G
    have hAns : sAnswers t s = .told r s' → s'.Good := fun h => by
      unfold sAnswers at h
      cases hq : treeToks t with
      | none => rw [hq] at h; cases h
      | some ts =>
        rw [hq] at h
        simp only at h
        cases hh : hearAll s.p .fresh (.fresh s.p) ts with
        | none => rw [hh] at h; cases h
        | some y => rw [hh] at h; cases h; exact G
    unfold sDoes at h
    split at h
    · exact hAsk h
    · exact hTok h
    · exact hTree h
    · exact hFin h
    · cases h; exact Good.fresh s.p
    · exact hList h
    · exact hAns h
    · cases h; exact G
  unfold ansOf
  cases hres : sDoes n t s with
  | told r s' => exact key r s' hres
  | wrong => exact G
  | cannot => exact G
theorem snAt_has {K : PySem.W.Frag} {F H : Hp} {sn : Addr} {S : List Addr} {s : Sn} (h : SnAt K F H sn S s) : ∀ b ∈ S, H b ≠ none := by
  obtain ⟨-, qa, st, c, a, l, fs, ⟨dx, h1⟩, -, hS, -, rfl⟩ := h
  intro b hb
  rcases List.mem_cons.mp hb with rfl | hb
  · rw [h1]; intro z; cases z
  · exact hS.has b (List.mem_cons_of_mem _ hb)
theorem cut_ints (xs : List V) (i j : Nat) (hi : i ≤ xs.length) (hj : j ≤ xs.length) : cutV xs (some (i : Int)) (some (j : Int)) = (xs.drop i).take (j - i) := by
  unfold cutV
  rw [HT.sIx_nat, HT.sIx_nat, Nat.min_eq_left hi, Nat.min_eq_left hj]
theorem encAll_at {done rest : List (Nat × Text)} {c : Nat × Text} : encAll (done ++ c :: rest) = encAll done ++ (encCall c ++ encAll rest) := by simp [encAll]
theorem encAll_snoc {done : List (Nat × Text)} {c : Nat × Text} : encAll (done ++ [c]) = encAll done ++ encCall c := by simp [encAll]
/-- another list is written: the session stands -/
theorem snAt_put {K : PySem.W.Frag} {F H H' : Hp} {sn a : Addr} {S : List Addr} {s : Sn} (h : SnAt K F H sn S s) (g : Go [a] H F H' F) (sF : Same F H) (n : a ∉ S) (hl : ∀ C dx fs, H a ≠ some (.ins C dx fs)) : SnAt K F H' sn S s := by
  obtain ⟨hF, qa, st, c, x, l, fs, ⟨dx, h1⟩, hq, hS, hn, rfl⟩ := h
  have hst : st ≠ a := fun z => by
    obtain ⟨dx2, h2⟩ := hS.ins
    exact hl _ _ _ (z ▸ h2)
  refine ⟨hF, qa, st, c, x, l, fs, ⟨dx, g.keep _ _ h1 (by simp only [List.mem_singleton]; exact fun z => n (by rw [← z]; simp))⟩, hq, hS.go g sF (fun b hb => ?_), hn, rfl⟩
  simp only [List.mem_singleton]
  intro z
  rcases List.mem_cons.mp hb with h | h
  · exact hst (h ▸ z)
  · exact n (by rw [← z]; exact List.mem_cons_of_mem _ h)
theorem sqL_up {K : PySem.W.Frag} {H H1 : Hp} {a : Addr} {xs : List V} (h : SqL K H a xs) (s1 : Same H H1) : SqL K H1 a xs := by
  rcases h with (h | ⟨o, h⟩) | h
  · exact .inl (.inl (s1 _ _ h))
  · exact .inl (.inr ⟨o, s1 _ _ h⟩)
  · exact .inr h
theorem in_text : ∀ n : Nat, n < 8 → inV (V.int (n : Int)) [V.int 0, V.int 1, V.int 2, V.int 5, V.int 6] = hasText n
  | 0, _ => rfl
  | 1, _ => rfl
  | 2, _ => rfl
  | 3, _ => rfl
  | 4, _ => rfl
  | 5, _ => rfl
  | 6, _ => rfl
  | 7, _ => rfl
  | m + 8, h => by omega
def spAnswers (K : PySem.W.Frag) : Sp := fun vs H Q E => ∃ (ca : Addr) (cs : List (Nat × Text)), vs = [.ref ca] ∧ SqL K H ca (intsV (encAll cs)) ∧ (encAll cs).length ≤ 1000000 ∧ (∀ c ∈ cs, c.1 < 8 ∧ c.2.length ≤ 100000 ∧ (hasText c.1 = false → c.2 = [])) ∧ (outAll (.asks (planAt 0)) cs).length ≤ 10000000 ∧
  ∀ (H' : Hp) (r : Addr), Same H H' → H r = none → H' r = some (.lst (intsV (outAll (.asks (planAt 0)) cs))) → Q (.ref r) H'
section
variable {P : Program} {w : World} {K : PySem.W.Frag} {mg : Str → Option Value} {base : Heap}
theorem ok_answersD (T : Facts K mg) {fd : FuncData} (FD : FunD K TS.d_answers.name TS.d_answers.qual (defArgs s_answers) (defBody s_answers) (defScope s_answers) [] [] (He.fAd K TS.d_answers.at_) fd) : FnOk P w K mg base (L2.CX P w) 111 (He.fAd K TS.d_answers.at_) fd ["calls"] (spAnswers K) := by
  refine FD.ok sc_answers (fun vs H Q E h => ?_) (fun cdv A outer s H vs Q E hr h => ?_)
  · obtain ⟨_, _, rfl, _⟩ := h
    rfl
  · obtain ⟨ca, cs, rfl, hca, hlen, hcs, hout, k⟩ := h
    refine ⟨_, (pss_cons (ps_set (i := 1) sc_answers.nd rfl (.inl rfl) (c_make0 T.k_Session (ok_Session_init T) (hr.mono (by decide)) rfl T.g_Session (pX (takes_of rfl rfl rfl rfl))))
      (pss_cons (ps_set (i := 2) sc_answers.nd rfl (.inl rfl) (pe_lst pa_nil))
      (pss_cons (ps_set (i := 3) sc_answers.nd rfl (.inl rfl) pe_int)
      (pss_cons (ps_while (passes_of rfl) (pt_cmpR op_lt (pv 3) (pe_callB call_len_seq (by rfl) T.f_len boot_len (pa_cons (pv 0) pa_nil)) (nomark _))
        (pss_cons (ps_set (i := 4) sc_answers.nd rfl (.inl rfl) (pe_ix ix_list (pv 0) (pv 3) (fun _ _ => rfl)))
        (pss_cons (ps_set (i := 5) sc_answers.nd rfl (.inl rfl) (pe_lst pa_nil))
        (pss_cons (ps_aug (i := 3) sc_answers.nd rfl (.inl rfl) pe_int ip_add)
        (pss_cons (ps_if (pt_cmpR op_in_seq (pv 4) (pe_tup (pa_cons (pe_num rfl T.i_QUESTION) (pa_cons (pe_num rfl T.i_TOKEN) (pa_cons (pe_num rfl T.i_FEED) (pa_cons (pe_num rfl T.i_TOKENS) (pa_cons (pe_num rfl T.i_ANSWERS) pa_nil)))))) (by rfl))
          (pss_cons (ps_set (i := 6) sc_answers.nd rfl (.inl rfl) (pe_op op_add (pe_op op_add (pv 3) pe_int) (pe_ix ix_list (pv 0) (pv 3) (fun _ _ => rfl))))
          (pss_cons (ps_set (i := 5) sc_answers.nd rfl (.inl rfl) (pe_slice sl_list (pv 0) (po_some (pe_op op_add (pv 3) pe_int)) (po_some (pv 6))))
          (pss_one (ps_set (i := 3) sc_answers.nd rfl (.inl rfl) (pv 6)))))
          pss_nil)
        (pss_one (ps_expr (pe_bm PySem.F.plainAttrs_list PySem.F.slot_list_extend PySem.F.type_list_extend mt_extend (pv 2) (pa_cons (c_fn (ok_counted T) (hr.mono (by decide)) rfl T.g_counted pass0 (pa_cons (c_fn (ok_answer_of T) (hr.mono (by decide)) rfl T.g_answer_of pass0 (pa_cons (pv 1) (pa_cons (pv 4) (pa_cons (pv 5) pa_nil)))) pa_nil)) pa_nil)))))))))
      (pss_one (ps_ret (pv 2))))))), ?_⟩
    have ⟨F, sF⟩ : ∃ F : Hp, Same F H := ⟨fun _ => none, fun b o e => by cases e⟩
    have free : ∀ {b : Addr}, H b = none → F b = none := fun {b} e => by
      cases z : F b with
      | none => rfl
      | some o => have := sF _ _ z; rw [e] at this; cases this
    intro sn dx hsn hdx hne
    have sm : Same F (upd (upd H dx (.own sn)) sn (.ins (He.ga K "Session") dx [])) := fun b o e => by
      have h2 := sF b o e
      rw [upd_ne (fun z => by rw [z, hsn] at h2; cases h2), upd_ne (fun z => by rw [z, hdx] at h2; cases h2)]
      exact h2
    have s0 : Same H (upd (upd H dx (.own sn)) sn (.ins (He.ga K "Session") dx [])) := Same.made hsn hdx fun b o e _ => e
    refine ⟨F, sn, dx, rfl, sm, free hsn, upd_same, fun H1 F1 S1 g1 hs1 sub1 => ⟨rfl, ?_⟩⟩
    have g01 : Go [] H F H1 F1 := ⟨fun b o e _ => g1.keep _ _ (s0 _ _ e) (by simp only [List.mem_singleton]; exact fun z => by rw [z, hsn] at e; cases e), fun b e => g1.dom b (same_dom s0 e), fun b e => g1.grow b (same_dom s0 e), g1.same⟩
    have fr1 : ∀ b ∈ S1, H b = none := fun b hb => by
      rcases sub1 b hb with h | h
      · rw [h]; exact hsn
      · exact s0.free h
    dsimp only [gName]
    refine ⟨by show 0 ≤ sizeLine; exact Nat.zero_le _, fun gv hgv => ?_⟩
    have s2 := upd_same_of (o := HO.lst []) hgv
    have hgv2 : upd H1 gv (.lst []) gv = some (.lst (intsV [])) := upd_same
    have g2 : Go [] H1 F1 (upd H1 gv (.lst [])) F1 := Go.idle g1.same s2
    have hs2 := hs1.new g2 g1.same
    have g02 := g01.trans g2 (by simp)
    have hgvH : H gv = none := by
      cases z : H gv with
      | none => rfl
      | some o => exact absurd hgv (g01.dom gv (by rw [z]; intro y; cases y))
    have gvF : F1 gv = none := by
      cases z : F1 gv with
      | none => rfl
      | some o => have := g1.same _ _ z; rw [hgv] at this; cases this
    have gvS : gv ∉ S1 := fun hb => snAt_has hs1 gv hb hgv
    generalize upd H1 gv (.lst []) = H2 at s2 hgv2 g2 hs2 g02 ⊢
    dsimp only [gName]
    refine seq_set ?_
    refine seq_cut (R := fun σ' H3 => ∃ (F3 : Hp) (u v wv : Option V), σ' = [some (.ref ca), some (.ref sn), some (.ref gv), some (.int ((encAll cs).length : Nat)), u, v, wv] ∧ Go [] H F H3 F3 ∧ H3 gv = some (.lst (intsV (outAll (.asks (planAt 0)) cs)))) (fun nx kx => ?_) ?_
    · refine ⟨fun m σ H3 => ∃ (F3 : Hp) (S : List Addr) (s : Sn) (done rest : List (Nat × Text)) (out : List Int) (u v wv : Option V), m = rest.length ∧ cs = done ++ rest ∧ σ = [some (.ref ca), some (.ref sn), some (.ref gv), some (.int ((encAll done).length : Nat)), u, v, wv] ∧ Go [] H F H3 F3 ∧ SnAt K F3 H3 sn S s ∧ (∀ b ∈ S, H b = none) ∧ gv ∉ S ∧ F3 gv = none ∧ H3 gv = some (.lst (intsV out)) ∧ s.Good ∧ outAll (.asks (planAt 0)) cs = out ++ outAll s rest,
        ⟨cs.length, F1, S1, .asks (planAt 0), [], cs, [], none, none, none, rfl, rfl, rfl, g02, hs2, fr1, gvS, gvF, hgv2, Good.fresh _, rfl⟩, ?_⟩
      rintro m σ H3 ⟨F3, S, s, done, rest, out, u, v, wv, rfl, hdr, rfl, g3, hs3, fr3, gvS3, gvF3, hgv3, G3, eout⟩
      have hca3 : SqL K H3 ca (intsV (encAll cs)) := sqL_up hca fun b o e => g3.keep _ _ e (by simp)
      walk_at "v"
      refine ⟨ca, _, rfl, .inl (hca3), ?_⟩
      have hil : (intsV (encAll cs)).length = (encAll cs).length := by simp [intsV]
      walk_at "v"
      rw [hil]
      cases rest with
      | nil =>
        rw [List.append_nil] at hdr
        refine if_neg_of (decide_eq_false (by rw [hdr]; omega)) ?_
        refine kx _ _ ⟨F3, u, v, wv, by rw [hdr], g3, ?_⟩
        rw [eout, hgv3]
        simp [outAll]
      | cons c rest =>
        obtain ⟨n, t⟩ := c
        have hmem : (n, t) ∈ cs := by rw [hdr]; simp
        obtain ⟨hn8, ht8, hnt⟩ := hcs _ hmem
        simp only at hn8 ht8 hnt
        have eall : encAll cs = encAll done ++ (encCall (n, t) ++ encAll rest) := by rw [hdr, encAll_at]
        have epos : 1 ≤ (encCall (n, t)).length := by unfold encCall; split <;> simp
        refine if_pos_of (decide_eq_true (by rw [eall, List.length_append, List.length_append]; omega)) ?_
        have hx0 : atI (intsV (encAll cs)) (((encAll done).length : Nat) : Int) = some (V.int (n : Int)) := by
          refine atI_nat ?_
          rw [eall]
          unfold intsV
          rw [List.map_append, List.getElem?_append_right (by simp), List.length_map, Nat.sub_self]
          unfold encCall
          split <;> rfl
        refine ⟨_, fun _ _ z => z, ?_⟩
        walk_at "v"
        refine ⟨_, _, _, _, rfl, rfl, hca3, hx0, ?_⟩
        dsimp only [gName]
        refine ⟨by show 0 ≤ sizeLine; exact Nat.zero_le _, fun tx htx => ?_⟩
        have s4 := upd_same_of (o := HO.lst []) htx
        have htx4 : upd H3 tx (.lst []) tx = some (.lst (bs [])) := upd_same
        have g4 : Go [] H3 F3 (upd H3 tx (.lst [])) _ := Go.new (S := []) g3.same s4
        have htxF : Gr H3 F3 (upd H3 tx (.lst [])) tx = some (.lst (bs [])) := by rw [Gr.new htx]; exact htx4
        generalize upd H3 tx (.lst []) = H4 at s4 htx4 g4 htxF ⊢
        generalize Gr H3 F3 H4 = F4 at g4 htxF
        dsimp only [gName]
        refine ⟨_, rfl, _, _, rfl, rfl, ?_⟩
        dsimp only
        refine seq_cut (R := fun σ' H5 => ∃ (F5 : Hp) (ta : Addr) (w2 : Option V), σ' = [some (.ref ca), some (.ref sn), some (.ref gv), some (.int ((encAll (done ++ [(n, t)])).length : Nat)), some (.int (n : Int)), some (.ref ta), w2] ∧ Go [] H3 F3 H5 F5 ∧ TextAt F5 ta t) (fun nx kx => ?_) ?_
        · walk_at "v"
          refine ⟨by show 5 ≤ sizeLine; decide, fun p hp => ?_⟩
          have s5 := upd_same_of (o := HO.tup [V.int 0, V.int 1, V.int 2, V.int 5, V.int 6]) hp
          have hp5 : upd H4 p (.tup [V.int 0, V.int 1, V.int 2, V.int 5, V.int 6]) p = _ := upd_same
          refine ⟨p, _, rfl, .inr (SqT.of hp5), rfl, rfl, _, rfl, ?_⟩
          have g5 : Go [] H4 F4 _ F4 := Go.idle g4.same s5
          generalize upd H4 p (.tup [V.int 0, V.int 1, V.int 2, V.int 5, V.int 6]) = H5 at g5 s5 ⊢
          have g35 := g4.trans g5 (S := []) (by simp)
          have hin := in_text n hn8
          cases ht2 : hasText n with
          | false =>
            have ht0 := hnt ht2
            subst ht0
            rw [ht2] at hin
            refine if_neg_of hin ?_
            refine kx _ _ ⟨F4, tx, wv, ?_, g35, htxF⟩
            rw [encAll_snoc, List.length_append]
            have e1 : (encCall (n, [])).length = 1 := by unfold encCall; rw [if_neg (by simp [ht2])]; rfl
            rw [e1]
            rfl
          | true =>
            rw [ht2] at hin
            refine if_pos_of hin ?_
            have ec : encCall (n, t) = (n : Int) :: (t.length : Int) :: t.map (fun b => (b.toNat : Int)) := by unfold encCall; rw [if_pos ht2]
            have hca5 : SqL K H5 ca (intsV (encAll cs)) := sqL_up hca3 fun b o e => g35.keep _ _ e (by simp)
            have hx1 : atI (intsV (encAll cs)) (((encAll done).length : Int) + 1) = some (V.int (t.length : Int)) := by
              rw [show (((encAll done).length : Int) + 1) = (((encAll done).length + 1 : Nat) : Int) by omega]
              refine atI_nat ?_
              rw [eall, ec]
              unfold intsV
              rw [List.map_append, List.getElem?_append_right (by simp), List.length_map, Nat.add_sub_cancel_left]
              rfl
            walk_at "v"
            refine ⟨_, _, _, _, rfl, rfl, hca5, hx1, ?_⟩
            walk_at "v"
            refine ⟨ca, _, rfl, hca5, fun t2 ht2' => ?_⟩
            have ecl : (encCall (n, t)).length = t.length + 2 := by rw [ec]; simp
            have ecut : cutV (intsV (encAll cs)) (some (((encAll done).length : Int) + 1 + 1)) (some (((encAll done).length : Int) + 1 + 1 + (t.length : Int))) = bs t := by
              rw [show (((encAll done).length : Int) + 1 + 1) = (((encAll done).length + 2 : Nat) : Int) by omega, show ((((encAll done).length + 2 : Nat) : Int) + (t.length : Int)) = (((encAll done).length + 2 + t.length : Nat) : Int) by omega]
              have hl2 : (encAll cs).length = (encAll done).length + (t.length + 2) + (encAll rest).length := by rw [eall, List.length_append, List.length_append, ecl]; omega
              rw [cut_ints _ _ _ (by rw [hil, hl2]; omega) (by rw [hil, hl2]; omega), eall, ec]
              unfold intsV
              rw [List.map_append, List.drop_append, show (List.map V.int (encAll done)).drop ((encAll done).length + 2) = [] from List.drop_eq_nil_of_le (by simp), List.nil_append, List.length_map, show (encAll done).length + 2 - (encAll done).length = 2 by omega]
              show ((List.map V.int (t.map (fun b => (b.toNat : Int)) ++ encAll rest))).take _ = _
              rw [List.map_append, List.take_append, show (encAll done).length + 2 + t.length - ((encAll done).length + 2) = t.length by omega]
              simp [bs]
              exact List.take_of_length_le (by simp)
            rw [ecut]
            have s6 := upd_same_of (o := HO.lst (bs t)) ht2'
            have g6 : Go [] H5 F4 _ _ := Go.new (S := []) g5.same s6
            walk_at "v"
            refine kx _ _ ⟨_, t2, some (V.int (((encAll done).length : Int) + 1 + 1 + (t.length : Int))), ?_, g35.trans g6 (by simp), (Gr.new ht2').trans upd_same⟩
            rw [encAll_snoc, List.length_append, ecl]
            rw [show (((encAll done).length + (t.length + 2) : Nat) : Int) = ((encAll done).length : Int) + 1 + 1 + (t.length : Int) by omega]
            rfl
        · rintro σ' H5 ⟨F5, ta, w2, rfl, g5, hta⟩
          have g35 := g3.trans g5 (S := []) (by simp)
          have hs5 := hs3.new g5 g3.same
          have hgv5 := g5.keep _ _ hgv3 (by simp)
          have gvF5 : F5 gv = none := g5.free (by rw [hgv3]; intro z; cases z) gvF3
          walk_at "v"
          refine ⟨.inl ⟨rfl, _, SqL.of hgv5⟩, ?_⟩
          walk_at "v"
          refine ⟨F5, sn, S, s, n, ta, t, rfl, hn8, g5.same, hs5, G3, hta, ht8, fun H6 F6 S6 ra g6 hs6 sub6 hra => ?_⟩
          have hra6 := g6.same _ _ hra
          have hgv6 := g6.keep _ _ hgv5 gvS3
          have gvF6 : F6 gv = none := g6.free (by rw [hgv5]; intro z; cases z) gvF5
          have eoutl : outAll s ((n, t) :: rest) = ((ansOf n t s).1.length : Int) :: ((ansOf n t s).1 ++ outAll (ansOf n t s).2 rest) := rfl
          have hol := hout
          rw [eout, eoutl, List.length_append, List.length_cons, List.length_append] at hol
          have z1 : (intsV (ansOf n t s).1).length = (ansOf n t s).1.length := by simp [intsV]
          have z2 : (intsV out).length = out.length := by simp [intsV]
          walk_at "v"
          refine ⟨ra, _, rfl, hra6, by rw [z1, sizeLine_eq]; omega, fun H7 p7 s7 hp7 h7 => ?_⟩
          walk_at "v"
          have hgv7 := s7 _ _ hgv6
          refine ⟨gv, p7, _, _, rfl, rfl, hgv7, h7, by rw [List.length_cons, z1, z2, sizeLine_eq]; omega, ?_⟩
          have g7 : Go [] H6 F6 H7 F6 := Go.idle g6.same s7
          have g8 : Go [gv] H7 F6 _ F6 := Go.put (o := .lst (intsV out ++ V.int ((intsV (ansOf n t s).1).length : Nat) :: intsV (ansOf n t s).1)) g7.same (by simp) gvF6
          have gvS6 : gv ∉ S6 := fun hb => by
            rcases sub6 gv hb with h | h
            · exact gvS3 h
            · rw [hgv5] at h; cases h
          have snS6 := hs6
          refine ⟨rest.length, by simp, F6, S6, (ansOf n t s).2, done ++ [(n, t)], rest, out ++ ((ansOf n t s).1.length : Int) :: (ansOf n t s).1, _, _, _, rfl, by rw [hdr]; simp, rfl, ?_, ?_, ?_, gvS6, gvF6, ?_, ansOf_good G3, ?_⟩
          · have a1 := g35.trans g6 (S := []) (fun b hb hb0 => absurd (fr3 b hb) hb0)
            have a2 := a1.trans g7 (S := []) (by simp)
            exact a2.trans g8 (fun b hb hb0 => by simp at hb; rw [hb] at hb0; exact absurd hgvH hb0)
          · exact snAt_put (hs6.new g7 g6.same) g8 g7.same gvS6 (by rw [hgv7]; simp)
          · intro b hb
            rcases sub6 b hb with h | h
            · exact fr3 b h
            · cases z : H b with
              | none => rfl
              | some o => exact absurd h (g35.dom b (by rw [z]; intro y; cases y))
          · rw [upd_same, z1]
            simp [intsV]
          · rw [eout, eoutl]
            simp
    · rintro σ' H3 ⟨F3, u, v, wv, rfl, g3, h3⟩
      exact ⟨_, rfl, k H3 gv (fun b o e => g3.keep _ _ e (by simp)) hgvH h3⟩
end
end TS
end
section
set_option Elab.async false
set_option linter.all false
namespace TS
open Vapaqf (Head Way Token Test Plan Machine Out push pushAll)
open Vapaqa (Text Name)
/-! ### the stream's mirror does as the specification's machine -/
theorem hear_push {p : Plan} {t : Token} {m : Machine} {sh : Shp} {se : Srch} (R : Rel p m sh se) (G : Good p sh se) (tok : TokOk t) :
    (hear p sh se t = none → push p t m = none) ∧ (∀ sh' se' told, hear p sh se t = some (sh', se', told) → ∃ m' o, push p t m = some (m', o) ∧ Rel p m' sh' se' ∧ tell p o = told) := by
  have hn : ∀ n, t = .name n → n ≠ [] := fun n e => by subst e; exact tok.1
  obtain ⟨h0, h1, h2⟩ := push_rel p t m sh se R G.ok hn
  unfold hear
  cases hc : sh.come t with
  | none => exact ⟨fun _ => h0 hc, fun _ _ _ e => by cases e⟩
  | some x =>
    obtain ⟨s1, q⟩ := x
    cases q with
    | none =>
      refine ⟨fun e => by (cases e), fun sh' se' told e => ?_⟩
      simp only [Option.some.injEq, Prod.mk.injEq] at e
      obtain ⟨rfl, rfl, rfl⟩ := e
      obtain ⟨m', e1, R1⟩ := h1 _ hc
      exact ⟨m', _, e1, R1, rfl⟩
    | some q =>
      refine ⟨fun e => by (cases e), fun sh' se' told e => ?_⟩
      simp only [Option.some.injEq, Prod.mk.injEq] at e
      obtain ⟨rfl, rfl, rfl⟩ := e
      exact h2 _ _ hc
theorem toldOut_ne (p : Plan) (o : Out) : Vapaqf.toldOut p o ≠ [] := by
  unfold Vapaqf.toldOut
  cases o with
  | nothing => simp
  | found x => dsimp only; split <;> simp
  | fault f => dsimp only; split <;> simp
theorem tell_nil {p : Plan} {o : Out} : (tell p o).isEmpty = true ↔ Vapaqf.toldOut p o = [0] := by
  unfold tell
  split
  · rename_i h
    simp [h]
  · rename_i h
    have := toldOut_ne p o
    cases e : Vapaqf.toldOut p o with
    | nil => exact absurd e this
    | cons a r => rw [e] at h; simp only [List.isEmpty_cons, Bool.false_eq_true, false_iff]; exact h
theorem hearAll_push {p : Plan} : ∀ (ts : List Token) (m : Machine) (sh : Shp) (se : Srch), Rel p m sh se → Good p sh se → (∀ t ∈ ts, TokOk t) →
    (hearAll p sh se ts = none → pushAll p ts m = none) ∧ (∀ sh' se' n told, hearAll p sh se ts = some (sh', se', n, told) → ∃ m' outs, pushAll p ts m = some (m', outs) ∧ Rel p m' sh' se' ∧ Vapaqf.toldOuts p outs = (n : Int) :: told)
  | [], m, sh, se, R, G, tok => by
    refine ⟨fun e => by (cases e), fun sh' se' n told e => ?_⟩
    simp only [hearAll, Option.some.injEq, Prod.mk.injEq] at e
    obtain ⟨rfl, rfl, rfl, rfl⟩ := e
    exact ⟨m, [], rfl, R, rfl⟩
  | t :: ts, m, sh, se, R, G, tok => by
    obtain ⟨h0, h1⟩ := hear_push R G (tok t List.mem_cons_self)
    rw [hearAll_cons]
    cases hh : hear p sh se t with
    | none =>
      refine ⟨fun _ => by unfold pushAll; rw [h0 hh]; rfl, fun _ _ _ _ e => by (cases e)⟩
    | some x =>
      obtain ⟨s1, e1, t1⟩ := x
      obtain ⟨m1, o1, p1, R1, k1⟩ := h1 _ _ _ hh
      obtain ⟨G1, -⟩ := G.hear (tok t List.mem_cons_self) hh
      obtain ⟨i0, i1⟩ := hearAll_push ts m1 s1 e1 R1 G1 fun t ht => tok t (List.mem_cons_of_mem _ ht)
      have ep : pushAll p (t :: ts) m = (pushAll p ts m1).map fun y => (y.1, o1 :: y.2) := by
        conv => lhs; unfold pushAll
        rw [p1]
        rfl
      rw [ep]
      dsimp only
      cases ha : hearAll p s1 e1 ts with
      | none =>
        refine ⟨fun _ => by rw [i0 ha]; rfl, fun _ _ _ _ e => by (cases e)⟩
      | some y =>
        obtain ⟨s2, e2, n2, t2⟩ := y
        refine ⟨fun e => by (cases e), fun sh' se' n told e => ?_⟩
        simp only [Option.map_some, Option.some.injEq, Prod.mk.injEq] at e
        obtain ⟨rfl, rfl, rfl, rfl⟩ := e
        obtain ⟨m', outs, p2, R2, k2⟩ := i1 _ _ _ _ ha
        refine ⟨m', o1 :: outs, by rw [p2]; rfl, R2, ?_⟩
        unfold Vapaqf.toldOuts at k2 ⊢
        simp only [List.cons.injEq] at k2
        obtain ⟨k3, k4⟩ := k2
        rw [← k1]
        by_cases ht : Vapaqf.toldOut p o1 = [0]
        · have hem : (tell p o1).isEmpty = true := tell_nil.mpr ht
          have hnil : tell p o1 = [] := List.isEmpty_iff.mp hem
          rw [if_pos hem, hnil]
          simp only [List.map_cons, ht]
          rw [List.filter_cons_of_neg (by simp)]
          simp only [List.cons.injEq]
          exact ⟨by omega, by simpa using k4⟩
        · have hem : ¬ (tell p o1).isEmpty = true := fun z => ht (tell_nil.mp z)
          have htl : tell p o1 = Vapaqf.toldOut p o1 := by unfold tell; rw [if_neg ht]
          rw [if_neg hem, htl]
          simp only [List.map_cons]
          rw [List.filter_cons_of_pos (by simpa using ht)]
          simp only [List.length_cons, List.flatten_cons, List.cons.injEq]
          exact ⟨by omega, by rw [k4]⟩
end TS
end
section
set_option Elab.async false
set_option linter.all false
namespace TS
open Vapaqf (Head Way Token Test Plan Machine Out push pushAll)
open Vapaqa (Text Name)
theorem finish_is {p : Plan} {m : Machine} {sh : Shp} {se : Srch} (R : Rel p m sh se) (hg : p.gather ≤ 2) : Vapaqf.toldEnd (Vapaqf.ending p m) = se.finish p := by
  unfold Srch.finish Srch.endFault Vapaqf.ending
  rw [R.fault]
  cases hc : se.chain with
  | some f => rfl
  | none =>
    simp only [Option.map_none]
    rw [R.odd, R.results, R.sum]
    by_cases h0 : p.gather = 0
    · simp [h0, Vapaqf.toldEnd]
    · by_cases h1 : p.gather = 1
      · simp [h1, Vapaqf.toldEnd]
      · have h2 : p.gather = 2 := by omega
        rw [if_neg h0, if_neg h1, if_pos h2]
        cases ho : se.odd with
        | some q => rfl
        | none =>
          simp only
          have e : (Vapaqa.GREATEST < se.total.natAbs) ↔ (se.total < -1000000000 ∨ 1000000000 < se.total) := by
            unfold Vapaqa.GREATEST
            omega
          by_cases hd : se.total < -1000000000 ∨ 1000000000 < se.total
          · rw [if_pos hd, if_pos (e.mpr hd)]
            rfl
          · rw [if_neg hd, if_neg (fun z => hd (e.mp z))]
            simp [h2, Vapaqf.toldEnd]
theorem room_is {p : Plan} {m : Machine} {sh : Shp} {se : Srch} (R : Rel p m sh se) : Vapaqf.ints [m.frames.length, m.most, m.entries] ++ [if m.whole = true then 1 else 0, if m.halted = true then 1 else 0] = roomOf sh se := by
  have h1 : m.frames.length = sh.frames.length := by rw [← R.frames, List.length_map]
  unfold roomOf Vapaqf.ints
  rw [R.most, R.entries, R.whole, R.halted, h1]
  rfl
/-- the state of the specification and of the mirror -/
structure RelS (s : Vapaqf.State) (n : Sn) : Prop where
  plan : s.plan = n.p
  rel : Rel n.p s.machine n.sh n.se
  good : Good n.p n.sh n.se
  gather : n.p.gather ≤ 2
end TS
end
section
set_option Elab.async false
set_option linter.all false
namespace TS
open Vapaqf (Head Way Token Test Plan Machine Out push pushAll State Call does)
open Vapaqa (Text Name)
/-- what the readers' mirrors have to be -/
structure Reads : Prop where
  quest : ∀ t, questOf t = (Vapaqa.askOf t).bind Vapaqf.planOf
  tok : ∀ t, tokOf t = Vapaqf.tokenOf t
  tree : ∀ t, treeToks t = (Vapaqa.treeOf t).map Vapaqf.tokensOf
  gather : ∀ t p, questOf t = some p → p.gather ≤ 2
def callAt (k : Nat) (t : Text) : Call := match k with
  | 0 => .question t
  | 1 => .token t
  | 2 => .feed t
  | 3 => .finish
  | 4 => .again
  | 5 => .tokens t
  | 6 => .answers t
  | _ => .room
def IsRes (s : State) (r : Vapaqf.Res) (x : Res) : Prop := match x with
  | .told l n' => ∃ s', r = .ok (s', l) ∧ RelS s' n'
  | .wrong => r = .error 1
  | .cannot => r = .error 8
theorem relS_begun {s : State} {p : Plan} (hg : p.gather ≤ 2) : RelS ⟨p, Vapaqf.begun p⟩ (.asks p) := ⟨rfl, Rel.begun p, Good.fresh p, hg⟩
theorem does_is (D : Reads) (k : Nat) (t : Text) {s : State} {n : Sn} (R : RelS s n) : IsRes s (does s (callAt k t)) (sDoes k t n) := by
  obtain ⟨sp, sm⟩ := s
  obtain ⟨e1, R1, G, hg⟩ := R
  simp only at e1 R1
  subst e1
  have hQ : IsRes ⟨n.p, sm⟩ (does ⟨n.p, sm⟩ (.question t)) (sAsk t n) := by
    unfold sAsk
    show IsRes _ (Vapaqf.given ((Vapaqa.askOf t).bind Vapaqf.planOf) 1 fun p => .ok (⟨p, Vapaqf.begun p⟩, [(p.steps.length : Int)])) _
    rw [← D.quest t]
    cases e : questOf t with
    | none => rfl
    | some p => exact ⟨_, rfl, rfl, Rel.begun p, Good.fresh p, D.gather t p e⟩
  have hT : IsRes ⟨n.p, sm⟩ (does ⟨n.p, sm⟩ (.token t)) (sToken t n) := by
    unfold sToken
    show IsRes _ (Vapaqf.given (Vapaqf.tokenOf t) 1 fun k => Vapaqf.given (push n.p k sm) 8 fun x => .ok (⟨n.p, x.1⟩, Vapaqf.toldOut n.p x.2)) _
    rw [← D.tok t]
    cases e : tokOf t with
    | none => rfl
    | some tk =>
      obtain ⟨h0, h1⟩ := hear_push R1 G (tokOf_ok e)
      simp only [Vapaqf.given]
      cases hh : hear n.p n.sh n.se tk with
      | none => simp only [h0 hh]; rfl
      | some y =>
        obtain ⟨sh', se', told⟩ := y
        obtain ⟨m', o, p1, R2, k1⟩ := h1 _ _ _ hh
        simp only [p1]
        have ek : (if told.isEmpty = true then [0] else told) = Vapaqf.toldOut n.p o := by
          rw [← k1]
          by_cases hz : Vapaqf.toldOut n.p o = [0]
          · rw [if_pos (tell_nil.mpr hz), hz]
          · rw [if_neg (fun z => hz (tell_nil.mp z))]
            unfold tell
            rw [if_neg hz]
        rw [ek]
        exact ⟨_, rfl, rfl, R2, (G.hear (tokOf_ok e) hh).1, hg⟩
  have hF : IsRes ⟨n.p, sm⟩ (does ⟨n.p, sm⟩ (.feed t)) (sTree t n) := by
    unfold sTree
    show IsRes _ (Vapaqf.given (Vapaqa.treeOf t) 1 fun v => Vapaqf.given (pushAll n.p (Vapaqf.tokensOf v) sm) 8 fun x => .ok (⟨n.p, x.1⟩, Vapaqf.toldOuts n.p x.2)) _
    have ht := D.tree t
    cases e : Vapaqa.treeOf t with
    | none =>
      rw [e] at ht
      rw [show treeToks t = none from ht]
      rfl
    | some v =>
      rw [e] at ht
      have ht2 : treeToks t = some (Vapaqf.tokensOf v) := ht
      obtain ⟨h0, h1⟩ := hearAll_push _ _ _ _ R1 G (toks_ok _ _ _ _ ht2).1
      rw [ht2]
      simp only [Vapaqf.given]
      cases hh : hearAll n.p n.sh n.se (Vapaqf.tokensOf v) with
      | none => simp only [h0 hh]; rfl
      | some y =>
        obtain ⟨sh', se', c, told⟩ := y
        obtain ⟨m', outs, p1, R2, k1⟩ := h1 _ _ _ _ hh
        simp only [p1, k1]
        exact ⟨_, rfl, rfl, R2, (G.hearAll (toks_ok _ _ _ _ ht2).1 hh).1, hg⟩
  have hE : IsRes ⟨n.p, sm⟩ (does ⟨n.p, sm⟩ .finish) (sFinish n) := by
    unfold sFinish
    show IsRes _ (if sm.whole = false then .error 8 else .ok (⟨n.p, sm⟩, Vapaqf.toldEnd (Vapaqf.ending n.p sm))) _
    rw [R1.whole, finish_is R1 hg]
    cases hw : n.sh.isWhole with
    | false => rfl
    | true => exact ⟨_, rfl, rfl, R1, G, hg⟩
  have hA : IsRes ⟨n.p, sm⟩ (does ⟨n.p, sm⟩ .again) (sAgain n) := by
    unfold sAgain
    rw [← R1.entries]
    exact ⟨_, rfl, rfl, Rel.begun _, Good.fresh _, hg⟩
  have hL : IsRes ⟨n.p, sm⟩ (does ⟨n.p, sm⟩ (.tokens t)) (sTokens t n) := by
    unfold sTokens
    show IsRes _ (Vapaqf.given (Vapaqa.treeOf t) 1 fun v => .ok (⟨n.p, sm⟩, ((Vapaqf.tokensOf v).length : Int) :: (Vapaqf.tokensOf v).flatMap fun k => Vapaqf.toldText (Vapaqf.tokenText k))) _
    have ht := D.tree t
    cases e : Vapaqa.treeOf t with
    | none => rw [e] at ht; rw [show treeToks t = none from ht]; rfl
    | some v =>
      rw [e] at ht
      rw [show treeToks t = some (Vapaqf.tokensOf v) from ht]
      exact ⟨_, rfl, rfl, R1, G, hg⟩
  have hN : IsRes ⟨n.p, sm⟩ (does ⟨n.p, sm⟩ (.answers t)) (sAnswers t n) := by
    unfold sAnswers
    show IsRes _ (Vapaqf.given (Vapaqa.treeOf t) 1 fun v => Vapaqf.given (pushAll n.p (Vapaqf.tokensOf v) (Vapaqf.begun n.p)) 8 fun x => .ok (⟨n.p, sm⟩, Vapaqf.toldOuts n.p x.2 ++ Vapaqf.toldEnd (Vapaqf.ending n.p x.1))) _
    have ht := D.tree t
    cases e : Vapaqa.treeOf t with
    | none => rw [e] at ht; rw [show treeToks t = none from ht]; rfl
    | some v =>
      rw [e] at ht
      have ht2 : treeToks t = some (Vapaqf.tokensOf v) := ht
      obtain ⟨h0, h1⟩ := hearAll_push _ _ _ _ (Rel.begun n.p) (Good.fresh n.p) (toks_ok _ _ _ _ ht2).1
      rw [ht2]
      simp only [Vapaqf.given]
      cases hh : hearAll n.p .fresh (.fresh n.p) (Vapaqf.tokensOf v) with
      | none => simp only [h0 hh]; rfl
      | some y =>
        obtain ⟨sh', se', c, told⟩ := y
        obtain ⟨m', outs, p1, R2, k1⟩ := h1 _ _ _ _ hh
        simp only [p1, k1, finish_is R2 hg]
        exact ⟨_, rfl, rfl, R1, G, hg⟩
  have hR : IsRes ⟨n.p, sm⟩ (does ⟨n.p, sm⟩ .room) (sRoom n) := by
    unfold sRoom
    rw [← room_is R1]
    exact ⟨_, rfl, rfl, R1, G, hg⟩
  unfold callAt sDoes
  match k with
  | 0 => exact hQ
  | 1 => exact hT
  | 2 => exact hF
  | 3 => exact hE
  | 4 => exact hA
  | 5 => exact hL
  | 6 => exact hN
  | _ + 7 => exact hR
end TS
end
section
set_option Elab.async false
set_option linter.all false
namespace TS
open Vapaqf (Head Way Token Test Plan Machine Out push pushAll State Call does)
open Vapaqa (Text Name)
def bytesI (t : Text) : List Int := t.map fun b => (b.toNat : Int)
def rowsOf (c : Nat × Text) : List (List Int) := if hasText c.1 = true then [[(c.1 : Int)], bytesI c.2] else [[(c.1 : Int)]]
theorem text_bytes (t : Text) : VapaqfNeutral.text? (bytesI t) = some t := by
  unfold VapaqfNeutral.text?
  have h1 : NeutralIO.bytes (bytesI t) = true := by
    unfold NeutralIO.bytes bytesI
    rw [List.all_map, List.all_eq_true]
    intro b _
    have := b.toNat_lt
    simp
    omega
  rw [if_pos h1]
  unfold bytesI
  rw [List.map_map]
  congr 1
  have : ((fun b : Int => UInt8.ofNat b.toNat) ∘ fun b : UInt8 => (b.toNat : Int)) = id := by
    funext b
    simp
  rw [this, List.map_id]
theorem callOf_rows {k : Nat} {t : Text} (hk : k < 8) : VapaqfNeutral.callOf (rowsOf (k, t)) = some (callAt k t) := by
  have ht := text_bytes t
  match k, hk with
  | 0, _ => show (VapaqfNeutral.text? (bytesI t)).map _ = _; rw [ht]; rfl
  | 1, _ => show (VapaqfNeutral.text? (bytesI t)).map _ = _; rw [ht]; rfl
  | 2, _ => show (VapaqfNeutral.text? (bytesI t)).map _ = _; rw [ht]; rfl
  | 3, _ => rfl
  | 4, _ => rfl
  | 5, _ => show (VapaqfNeutral.text? (bytesI t)).map _ = _; rw [ht]; rfl
  | 6, _ => show (VapaqfNeutral.text? (bytesI t)).map _ = _; rw [ht]; rfl
  | 7, _ => rfl
theorem step_is (D : Reads) {k : Nat} {t : Text} (hk : k < 8) {s : State} {n : Sn} (R : RelS s n) : (VapaqfNeutral.step s (rowsOf (k, t))).2 = (ansOf k t n).1 ∧ RelS (VapaqfNeutral.step s (rowsOf (k, t))).1 (ansOf k t n).2 := by
  have h := does_is D k t R
  unfold VapaqfNeutral.step
  rw [callOf_rows hk]
  unfold ansOf Vapaqf.step
  cases hr : sDoes k t n with
  | told r n' =>
    rw [hr] at h
    obtain ⟨s', e, R'⟩ := h
    simp only [e]
    exact ⟨rfl, R'⟩
  | wrong =>
    rw [hr] at h
    have e : does s (callAt k t) = .error 1 := h
    simp only [e]
    exact ⟨rfl, R⟩
  | cannot =>
    rw [hr] at h
    have e : does s (callAt k t) = .error 8 := h
    simp only [e]
    exact ⟨rfl, R⟩
theorem told_is (D : Reads) : ∀ (cs : List (Nat × Text)) (s : State) (n : Sn), (∀ c ∈ cs, c.1 < 8) → RelS s n → PyFlat.told (PyFlat.played VapaqfNeutral.step s (cs.map rowsOf)) = outAll n cs
  | [], _, _, _, _ => rfl
  | (k, t) :: cs, s, n, h, R => by
    obtain ⟨e1, R1⟩ := step_is D (t := t) (h (k, t) List.mem_cons_self) R
    have ih := told_is D cs _ _ (fun c hc => h c (List.mem_cons_of_mem _ hc)) R1
    show PyFlat.told ((VapaqfNeutral.step s (rowsOf (k, t))).2 :: PyFlat.played VapaqfNeutral.step (VapaqfNeutral.step s (rowsOf (k, t))).1 (cs.map rowsOf)) = _
    unfold PyFlat.told at ih ⊢
    rw [List.flatMap_cons, ih, e1]
    rfl
theorem relS_start : RelS Vapaqf.start (.asks (planAt 0)) := ⟨rfl, Rel.begun _, Good.fresh _, by decide⟩
end TS
end
section
set_option Elab.async false
set_option linter.all false
namespace TS
open Vapaqa (Text Name)
theorem bytes_back {x : List Int} (h : x.all (PyInside.within 0 255) = true) : ∃ t : Text, bytesI t = x := by
  refine ⟨x.map fun z => UInt8.ofNat z.toNat, ?_⟩
  unfold bytesI
  rw [List.map_map]
  conv => rhs; rw [← List.map_id x]
  refine List.map_congr_left fun z hz => ?_
  have hw := List.all_eq_true.mp h z hz
  unfold PyInside.within at hw
  simp only [Bool.and_eq_true, decide_eq_true_eq] at hw
  have e : (UInt8.ofNat z.toNat).toNat = z.toNat := by simp; omega
  show ((UInt8.ofNat z.toNat).toNat : Int) = z
  rw [e]
  omega
/-- one call off the front -/
theorem call_text {k : Nat} (hk : k < 8) (ht : hasText k = true) {r t : List Int} {x : List Int} (hr : PyFlat.row r = some (x, t)) (hb : x.all (PyInside.within 0 255) = true) (hl : x.length ≤ 3000) : ∃ tx : Text, (k : Int) :: r = encCall (k, tx) ++ t ∧ tx.length ≤ 100000 ∧ [[(k : Int)], x] = rowsOf (k, tx) := by
  obtain ⟨tx, e⟩ := bytes_back hb
  subst e
  have hlen : (bytesI tx).length = tx.length := by simp [bytesI]
  refine ⟨tx, ?_, by omega, ?_⟩
  · unfold PyFlat.row at hr
    cases r with
    | nil => cases hr
    | cons n r =>
      simp only at hr
      split at hr
      · rename_i hn
        simp only [Option.some.injEq, Prod.mk.injEq] at hr
        obtain ⟨h1, h2⟩ := hr
        have h3 : n.toNat = tx.length := by
          have := congrArg List.length h1
          rw [List.length_take, hlen] at this
          omega
        have h4 : n = (tx.length : Int) := by omega
        unfold encCall
        rw [if_pos ht, h4]
        show _ = (k : Int) :: (tx.length : Int) :: (bytesI tx ++ t)
        rw [← h1, ← h2, List.take_append_drop]
      · cases hr
  · unfold rowsOf
    rw [if_pos ht]
def Fine (c : Nat × Text) : Prop := c.1 < 8 ∧ c.2.length ≤ 100000 ∧ (hasText c.1 = false → c.2 = [])
theorem one_call {p : Int} {r t : List Int} {c : List (List Int)} (h : PyFlat.call PyVapaqf.shape (p :: r) = some (c, t)) (hb : PyInside.call PyVapaqf.bound c = true) : ∃ d : Nat × Text, p :: r = encCall d ++ t ∧ Fine d ∧ PyVapaqf.whole c = rowsOf d := by
  have textual : ∀ k : Nat, k < 8 → hasText k = true → p = (k : Int) → PyVapaqf.shape (k : Int) = some (0, 1) → (PyVapaqf.bound (k : Int)) = ([], [(0, 255, 0, 3000)]) → (∀ x, PyVapaqf.whole [[(k : Int)], x] = [[(k : Int)], x]) → ∃ d : Nat × Text, p :: r = encCall d ++ t ∧ Fine d ∧ PyVapaqf.whole c = rowsOf d := by
    intro k hk ht hp hs hbd hw
    subst hp
    unfold PyFlat.call at h
    dsimp only at h
    rw [hs] at h
    simp only [Nat.not_lt_zero, if_false, List.drop_zero, List.take_zero, PyFlat.rows] at h
    cases hr : PyFlat.row r with
    | none => rw [hr] at h; cases h
    | some y =>
      obtain ⟨x, t2⟩ := y
      rw [hr] at h
      simp only [Option.some.injEq, Prod.mk.injEq] at h
      obtain ⟨rfl, rfl⟩ := h
      unfold PyInside.call at hb
      simp only [hbd, PyInside.each, PyInside.lists, Bool.true_and, Bool.and_true, Bool.and_eq_true, decide_eq_true_eq] at hb
      obtain ⟨tx, e1, e2, e3⟩ := call_text hk ht hr hb.2 hb.1.2
      exact ⟨(k, tx), e1, ⟨hk, e2, fun z => by rw [ht] at z; cases z⟩, by rw [hw, e3]⟩
  have bare : ∀ k : Nat, k < 8 → hasText k = false → p = (k : Int) → PyVapaqf.shape (k : Int) = some (0, 0) → (PyVapaqf.whole [[(k : Int)]] = [[(k : Int)]]) → ∃ d : Nat × Text, p :: r = encCall d ++ t ∧ Fine d ∧ PyVapaqf.whole c = rowsOf d := by
    intro k hk ht hp hs hw
    subst hp
    unfold PyFlat.call at h
    dsimp only at h
    rw [hs] at h
    simp only [Nat.not_lt_zero, if_false, List.drop_zero, List.take_zero, PyFlat.rows, Option.some.injEq, Prod.mk.injEq] at h
    obtain ⟨rfl, rfl⟩ := h
    refine ⟨(k, []), ?_, ⟨hk, by simp, fun _ => rfl⟩, ?_⟩
    · unfold encCall
      rw [if_neg (by simp [ht])]
      rfl
    · rw [hw]
      unfold rowsOf
      rw [if_neg (by simp [ht])]
  by_cases h0 : p = 0
  · exact textual 0 (by decide) rfl h0 rfl rfl fun _ => rfl
  by_cases h1 : p = 1
  · exact textual 1 (by decide) rfl h1 rfl rfl fun _ => rfl
  by_cases h2 : p = 2
  · exact textual 2 (by decide) rfl h2 rfl rfl fun _ => rfl
  by_cases h3 : p = 3
  · exact bare 3 (by decide) rfl h3 rfl rfl
  by_cases h4 : p = 4
  · exact bare 4 (by decide) rfl h4 rfl rfl
  by_cases h5 : p = 5
  · exact textual 5 (by decide) rfl h5 rfl rfl fun _ => rfl
  by_cases h6 : p = 6
  · exact textual 6 (by decide) rfl h6 rfl rfl fun _ => rfl
  by_cases h7 : p = 7
  · exact bare 7 (by decide) rfl h7 rfl rfl
  unfold PyFlat.call at h
  have e : PyVapaqf.shape p = none := by unfold PyVapaqf.shape; simp [h0, h1, h2, h3, h4, h5, h6, h7]
  dsimp only at h
  rw [e] at h
  cases h
theorem all_calls : ∀ (f : Nat) (l : List Int) (raw : List (List (List Int))), PyFlat.calls PyVapaqf.shape f l = some raw → PyInside.calls PyVapaqf.bound raw = true → ∃ cs, l = encAll cs ∧ (∀ c ∈ cs, Fine c) ∧ raw.map PyVapaqf.whole = cs.map rowsOf
  | f, [], raw, h, _ => by
    have e : PyFlat.calls PyVapaqf.shape f [] = some [] := by cases f <;> rfl
    rw [e] at h
    cases h
    exact ⟨[], rfl, fun c h => (nomatch h), rfl⟩
  | 0, p :: r, raw, h, _ => by cases h
  | f + 1, p :: r, raw, h, hb => by
    unfold PyFlat.calls at h
    cases hc : PyFlat.call PyVapaqf.shape (p :: r) with
    | none => rw [hc] at h; cases h
    | some y =>
      obtain ⟨c, t⟩ := y
      rw [hc] at h
      simp only at h
      cases hr : PyFlat.calls PyVapaqf.shape f t with
      | none => rw [hr] at h; cases h
      | some raw2 =>
        rw [hr] at h
        simp only [Option.some.injEq] at h
        subst h
        unfold PyInside.calls at hb
        rw [List.all_cons, Bool.and_eq_true] at hb
        obtain ⟨d, e1, e2, e3⟩ := one_call hc hb.1
        obtain ⟨cs, i1, i2, i3⟩ := all_calls f t raw2 hr hb.2
        refine ⟨d :: cs, ?_, ?_, ?_⟩
        · rw [e1, i1]
          rfl
        · intro c hc
          rcases List.mem_cons.mp hc with rfl | hc
          · exact e2
          · exact i2 c hc
        · rw [List.map_cons, List.map_cons, e3, i3]
theorem due (D : Reads) (l : List Int) (h : PyVapaqf.answers_asked l = true) : ∃ cs, l = encAll cs ∧ (∀ c ∈ cs, c.1 < 8 ∧ c.2.length ≤ 100000 ∧ (hasText c.1 = false → c.2 = [])) ∧ outAll (.asks (planAt 0)) cs = PyVapaqf.answers l ∧ (outAll (.asks (planAt 0)) cs).length ≤ 10000000 := by
  unfold PyVapaqf.answers_asked at h
  cases hr : PyFlat.calls PyVapaqf.shape l.length l with
  | none => rw [hr] at h; cases h
  | some raw =>
    rw [hr] at h
    simp only [Bool.and_eq_true] at h
    obtain ⟨⟨⟨⟨-, -⟩, hb⟩, -⟩, hs⟩ := h
    obtain ⟨cs, e1, e2, e3⟩ := all_calls _ _ _ hr hb
    have ea : outAll (.asks (planAt 0)) cs = PyVapaqf.answers l := by
      unfold PyVapaqf.answers PyVapaqf.calls
      rw [hr]
      simp only
      rw [e3]
      exact (told_is D cs _ _ (fun c hc => (e2 c hc).1) relS_start).symm
    refine ⟨cs, e1, e2, ea, ?_⟩
    rw [ea]
    unfold PyFlat.short at hs
    exact of_decide_eq_true hs
end TS
end
section
set_option Elab.async false
set_option linter.all false
namespace TS
open Vapaqf (Head Way Token Test Plan)
open Vapaqa (Text Name)
/-- nothing but the whole's reader writes what is gathered -/
theorem bind_g {α β : Type} {r : Option α} {f : α → Option β} {y : β} (h : r.bind f = some y) : ∃ x, r = some x ∧ f x = some y := by
  cases r with
  | none => cases h
  | some x => exact ⟨x, rfl, h⟩
theorem g_node {s : QS} {x : Unit × QS} (h : qNode s = some x) : x.2.plan = s.plan := by rw [(qNode_eq h).2]
theorem g_stage {a b : Nat} {s : QS} {x : Unit × QS} (h : qStage a b s = some x) : x.2.plan = s.plan := by rw [qStage_eq h]
theorem g_step {wy : Way} {s : QS} {x : Unit × QS} (h : qStep wy s = some x) : x.2.plan.gather = s.plan.gather := by
  unfold qStep at h
  split at h
  · cases h
  · have := Option.some.inj h
    subst this
    rfl
theorem g_cmp {s : QS} {x : Test × QS} (h : qCmp s = some x) : x.2.plan = s.plan := by
  have hk : ∀ {s : QS} {x : Vapaqa.Tree × QS}, qKey s = some x → x.2.plan = s.plan := fun {s x} h => by
    unfold qKey at h
    cases ho : rdLeaf s.rest with
    | none => rw [ho] at h; cases h
    | some r => rw [ho] at h; have := Option.some.inj h; subst this; rfl
  unfold qCmp at h
  obtain ⟨a, ha, h⟩ := bind_g h
  obtain ⟨b, hb, h⟩ := bind_g h
  rw [Option.bind_some] at h
  have e0 := (qSkips_le wSame b.2).1.plan
  have e1 := (qSkips_le wLess (qSkips wSame b.2).2).1.plan
  have e2 := g_node hb
  have e3 := g_node ha
  split at h
  · obtain ⟨y, hy, h⟩ := bind_g h
    have := Option.some.inj h
    subst this
    rw [hk hy, e0, e2, e3]
  · rw [Option.bind_some] at h
    split at h
    · obtain ⟨y, hy, h⟩ := bind_g h
      have := Option.some.inj h
      subst this
      rw [hk hy, e1, e0, e2, e3]
    · obtain ⟨y, hy, h⟩ := bind_g h
      obtain ⟨z, hz, h⟩ := bind_g h
      have := Option.some.inj h
      subst this
      rw [(qNeed_le hz).1.plan, hk hy, e1, e0, e2, e3]
theorem g_pair {rd : QS → Option (Test × QS)} (hrd : ∀ s x, rd s = some x → x.2.plan = s.plan) {s : QS} {x : Test × QS} (h : qPair rd s = some x) : x.2.plan = s.plan := by
  unfold qPair at h
  obtain ⟨y, hy, h⟩ := bind_g h
  rw [Option.bind_some] at h
  have e0 := (qSkips_le wAnd y.2).1.plan
  have e1 := hrd _ _ hy
  split at h
  · obtain ⟨z, hz, h⟩ := bind_g h
    have := Option.some.inj h
    subst this
    rw [hrd _ _ hz, e0, e1]
  · obtain ⟨u, hu, h⟩ := bind_g h
    obtain ⟨z, hz, h⟩ := bind_g h
    have := Option.some.inj h
    subst this
    rw [hrd _ _ hz, (qNeed_le hu).1.plan, e0, e1]
theorem g_cond : ∀ (f : Nat) (s : QS) (x : Test × QS), qCond f s = some x → x.2.plan = s.plan
  | 0, _, _, h => by cases h
  | f + 1, s, x, h => by
    unfold qCond at h
    obtain ⟨a, ha, h⟩ := bind_g h
    rw [Option.bind_some] at h
    have e0 := (qSkips_le wNot a.2).1.plan
    have e1 := g_node ha
    split at h
    · obtain ⟨y, hy, h⟩ := bind_g h
      obtain ⟨z, hz, h⟩ := bind_g h
      have := Option.some.inj h
      subst this
      rw [(qNeed_le hz).1.plan, g_cond f _ _ hy, e0, e1]
    · obtain ⟨b, hb, h⟩ := bind_g h
      obtain ⟨y, hy, h⟩ := bind_g h
      obtain ⟨z, hz, h⟩ := bind_g h
      have := Option.some.inj h
      subst this
      have ey : y.2.plan = b.2.plan := by
        split at hy
        · exact g_pair (g_cond f) hy
        · exact g_cmp hy
      rw [(qNeed_le hz).1.plan, ey, (qNeed_le hb).1.plan, e0, e1]
theorem g_link {s : QS} {x : Unit × QS} (h : qLink s = some x) : x.2.plan.gather = s.plan.gather := by
  unfold qLink at h
  rw [Option.bind_some] at h
  have e0 := (qSkips_le wWhere s).1.plan
  split at h
  · obtain ⟨a, ha, h⟩ := bind_g h
    obtain ⟨c, hc, h⟩ := bind_g h
    have e1 := (qNeed_le h).1.plan
    rw [e1]
    show c.2.plan.gather = _
    rw [g_cond _ _ _ hc, g_stage ha, e0]
  · rw [Option.bind_some] at h
    have e1 := (qSkips_le [46, 46] (qSkips wWhere s).2).1.plan
    split at h
    · obtain ⟨a, ha, h⟩ := bind_g h
      have := Option.some.inj h
      subst this
      show a.2.plan.gather = _
      rw [g_stage ha, e1, e0]
    · rw [Option.bind_some] at h
      have e2 := (qSkips_le [46, 91] (qSkips [46, 46] (qSkips wWhere s).2).2).1.plan
      split at h
      · obtain ⟨b, hb, h⟩ := bind_g h
        rw [g_step h, (qBrackets_le hb).plan, e2, e1, e0]
      · obtain ⟨a, ha, h⟩ := bind_g h
        have e3 := (qNeed_le ha).1.plan
        split at h
        · obtain ⟨n, hn, h⟩ := bind_g h
          unfold qName at hn
          obtain ⟨y, hy, hn⟩ := bind_g hn
          have := Option.some.inj hn
          subst this
          rw [g_step h]
          show a.2.plan.gather = _
          rw [e3, e2, e1, e0]
        · have := Option.some.inj h
          subst this
          show a.2.plan.gather = _
          rw [e3, e2, e1, e0]
theorem g_chain : ∀ (f : Nat) (s : QS) (x : Unit × QS), qChain f s = some x → x.2.plan.gather = s.plan.gather
  | 0, _, _, h => by cases h
  | f + 1, s, x, h => by
    unfold qChain at h
    obtain ⟨a, ha, h⟩ := bind_g h
    rw [Option.bind_some] at h
    have e0 := (qSkips_le [40] a.2).1.plan
    have e1 := g_node ha
    split at h
    · obtain ⟨b, hb, h⟩ := bind_g h
      obtain ⟨c, hc, h⟩ := bind_g h
      obtain ⟨d, hd, h⟩ := bind_g h
      rw [(qNeed_le h).1.plan, g_chain f _ _ hd, (qNeed_le hc).1.plan, g_chain f _ _ hb, e0, e1]
    · rw [g_link h, e0, e1]
theorem g_told {s : QS} {x : Unit × QS} (h : qTold s = some x) : x.2.plan.gather = s.plan.gather := by
  unfold qTold at h
  rw [Option.bind_some] at h
  have e0 := (qSkips_le wTry s).1.plan
  split at h
  · obtain ⟨a, ha, h⟩ := bind_g h
    obtain ⟨b, hb, h⟩ := bind_g h
    rw [(qNeed_le h).1.plan, g_chain _ _ _ hb]
    show a.2.plan.gather = _
    rw [g_node ha, e0]
  · rw [Option.bind_some] at h
    have e1 := (qSkips_le wFirst (qSkips wTry s).2).1.plan
    split at h
    · obtain ⟨a, ha, h⟩ := bind_g h
      obtain ⟨n, hn, h⟩ := bind_g h
      obtain ⟨c, hc, h⟩ := bind_g h
      obtain ⟨d, hd, h⟩ := bind_g h
      rw [(qNeed_le h).1.plan, g_chain _ _ _ hd, (qNeed_le hc).1.plan]
      show n.2.plan.gather = _
      rw [(qNum_le hn).plan, g_node ha, e1, e0]
    · rw [g_chain _ _ _ h, e1, e0]
theorem g_rest {s : QS} {x : Unit × QS} (h : qRest s = some x) : x.2.plan.gather = s.plan.gather := by
  unfold qRest at h
  obtain ⟨d, hd, h⟩ := bind_g h
  split at h
  · have := Option.some.inj h
    subst this
    show d.2.plan.gather = _
    split at hd
    · exact g_told hd
    · obtain ⟨b, hb, hd⟩ := bind_g hd
      obtain ⟨c, hc, hd⟩ := bind_g hd
      rw [(qNeed_le hd).1.plan, g_told hc, g_node hb]
  · cases h
theorem gather_le {t : Text} {p : Plan} (h : questOf t = some p) : p.gather ≤ 2 := by
  unfold questOf at h
  cases hw : qWhole ⟨t, 0, 0, planAt 0⟩ with
  | none => rw [hw] at h; cases h
  | some x =>
    rw [hw] at h
    have := Option.some.inj h
    subst this
    rw [qWhole_eq] at hw
    rw [Option.bind_some] at hw
    have e0 := (qSkips_le wCount ⟨t, 0, 0, planAt 0⟩).1.plan
    split at hw
    · rw [g_rest hw]
      show (1 : Nat) ≤ 2
      decide
    · rw [Option.bind_some] at hw
      have e1 := (qSkips_le wSum (qSkips wCount ⟨t, 0, 0, planAt 0⟩).2).1.plan
      split at hw
      · rw [g_rest hw]
        show (2 : Nat) ≤ 2
        decide
      · rw [g_rest hw, e1, e0]
        show (0 : Nat) ≤ 2
        decide
end TS
end
section
set_option Elab.async false
set_option linter.all false
/-! What would be written is read: numbers, names, texts in marks, leaves; by the mirror's readers and by the specification's. -/
namespace TS.Rd
open Vapaqf (Head Way Token Test matches_ faultOf Plan)
open Vapaqa (Text Name Tree Row stepText placeText textBefore off isSmall isDigit isSign isName tNull tBool tNum tText)
theorem dec_ind {P : Nat → Prop} (h0 : ∀ n, n < 10 → P n) (h1 : ∀ n d, 1 ≤ n → d < 10 → P n → P (10 * n + d)) : ∀ n, P n := by
  intro n
  induction n using Nat.strongRecOn with
  | ind n ih =>
    by_cases h : n < 10
    · exact h0 n h
    · have e : n = 10 * (n / 10) + n % 10 := by omega
      rw [e]
      exact h1 _ _ (by omega) (by omega) (ih _ (by omega))
theorem digit_of {d : Nat} (h : d < 10) : (UInt8.ofNat (48 + d)).toNat = 48 + d := by
  simp
  omega
theorem decimal_all (n : Nat) : (Vapaqa.decimal n).all isDigit = true := by
  induction n using dec_ind with
  | h0 n h =>
    rw [decimal_small h, List.all_cons, List.all_nil, Bool.and_true, isDigit_iff, digit_of h]
    omega
  | h1 n d hn hd ih =>
    rw [decimal_step hn hd, List.all_append, ih, List.all_cons, List.all_nil, Bool.and_true, Bool.true_and, isDigit_iff, digit_of hd]
    omega
theorem val_decimal (n : Nat) : val (Vapaqa.decimal n) = n := by
  induction n using dec_ind with
  | h0 n h =>
    rw [decimal_small h]
    show 10 * 0 + ((UInt8.ofNat (48 + n)).toNat - 48) = n
    rw [digit_of h]
    omega
  | h1 n d hn hd ih => rw [decimal_step hn hd, val_snoc', ih, digit_of hd]; omega
theorem decimal_ne (n : Nat) : Vapaqa.decimal n ≠ [] := by
  induction n using dec_ind with
  | h0 n h => rw [decimal_small h]; exact fun z => by cases z
  | h1 n d hn hd ih => rw [decimal_step hn hd]; exact fun z => by simp at z
theorem decimal_head (n : Nat) : (Vapaqa.decimal n).head? = some 48 → n = 0 := by
  induction n using dec_ind with
  | h0 n h =>
    rw [decimal_small h]
    intro z
    have z2 : UInt8.ofNat (48 + n) = 48 := by simpa using z
    have := congrArg UInt8.toNat z2
    rw [digit_of h] at this
    have e : (48 : UInt8).toNat = 48 := rfl
    omega
  | h1 n d hn hd ih =>
    rw [decimal_step hn hd]
    intro z
    have hne := decimal_ne n
    have : (Vapaqa.decimal n).head? = some 48 := by
      cases hd : Vapaqa.decimal n with
      | nil => exact absurd hd hne
      | cons a r => rw [hd] at z; exact z
    have := ih this
    omega
theorem decimal_len (n : Nat) : ∀ k, 1 ≤ k → n < 10 ^ k → (Vapaqa.decimal n).length ≤ k := by
  induction n using dec_ind with
  | h0 n h => intro k hk _; rw [decimal_small h]; exact hk
  | h1 n d hn hd ih =>
    intro k hk h
    rw [decimal_step hn hd, List.length_append]
    match k, hk with
    | 1, _ => simp at h; omega
    | k + 2, _ =>
      have e : 10 ^ (k + 2) = 10 * 10 ^ (k + 1) := by rw [Nat.pow_succ, Nat.mul_comm]
      have := ih (k + 1) (by omega) (by omega)
      simp
      omega
theorem decimal_lead (n : Nat) : (Vapaqa.decimal n).head? = some 48 → (Vapaqa.decimal n).length = 1 := by
  intro h
  have := decimal_head n h
  subst this
  rfl
theorem head_digit (n : Nat) : ∃ b r, Vapaqa.decimal n = b :: r ∧ isDigit b = true := by
  cases h : Vapaqa.decimal n with
  | nil => exact absurd h (decimal_ne n)
  | cons b r =>
    have := decimal_all n
    rw [h, List.all_cons, Bool.and_eq_true] at this
    exact ⟨b, r, rfl, this.1⟩
theorem tw_append {p : UInt8 → Bool} {w r : Text} (hw : w.all p = true) (hr : r.head?.any p = false) : (w ++ r).takeWhile p = w ∧ (w ++ r).dropWhile p = r := by
  have hr1 : r.takeWhile p = [] := by
    cases r with
    | nil => rfl
    | cons b s =>
      have : p b = false := hr
      rw [List.takeWhile_cons, this]
      rfl
  have hr2 : r.dropWhile p = r := by
    cases r with
    | nil => rfl
    | cons b s =>
      have : p b = false := hr
      rw [List.dropWhile_cons, this]
      rfl
  have ha : ∀ a ∈ w, p a = true := List.all_eq_true.mp hw
  rw [List.takeWhile_append_of_pos ha, List.dropWhile_append_of_pos ha, hr1, hr2, List.append_nil]
  exact ⟨rfl, rfl⟩
theorem digit_ne {b : UInt8} (h : isDigit b = true) : b ≠ 45 ∧ b ≠ 34 ∧ b ≠ 93 ∧ b ≠ 125 ∧ b ≠ 58 ∧ b ≠ 91 ∧ b ≠ 123 ∧ b ≠ 40 ∧ b ≠ 46 := by
  have h2 := isDigit_iff.mp h
  refine ⟨?_, ?_, ?_, ?_, ?_, ?_, ?_, ?_, ?_⟩ <;> (rintro rfl; revert h2; decide)
theorem small_ne {b : UInt8} (h : isSmall b = true) : b ≠ 45 ∧ b ≠ 34 ∧ b ≠ 93 ∧ b ≠ 125 ∧ b ≠ 58 ∧ b ≠ 91 ∧ b ≠ 123 ∧ b ≠ 40 ∧ b ≠ 46 ∧ isDigit b = false := by
  have h2 := isSmall_iff.mp h
  have h10 : isDigit b = false := by
    rw [Bool.eq_false_iff]
    intro z
    have := isDigit_iff.mp z
    omega
  refine ⟨?_, ?_, ?_, ?_, ?_, ?_, ?_, ?_, ?_, h10⟩ <;> (rintro rfl; revert h2; decide)
theorem rdNumber_back {lo hi z : Int} {r : Text} (h1 : lo ≤ z) (h2 : z ≤ hi) (hr : r.head?.any isDigit = false) : rdNumber lo hi (Vapaqa.integer z ++ r) = some (z, r) := by
  have key : ∀ n : Nat, (((Vapaqa.decimal n) ++ r).takeWhile isDigit) = Vapaqa.decimal n ∧ (((Vapaqa.decimal n) ++ r).dropWhile isDigit) = r := fun n => tw_append (decimal_all n) hr
  unfold Vapaqa.integer
  by_cases hz : z < 0
  · rw [if_pos hz]
    have hu : unsigned ((45 :: Vapaqa.decimal z.natAbs) ++ r) = Vapaqa.decimal z.natAbs ++ r := rfl
    obtain ⟨b, s, hb, hd⟩ := head_digit z.natAbs
    have h48 : (Vapaqa.decimal z.natAbs ++ r).head? ≠ some 48 := by
      intro q
      have : (Vapaqa.decimal z.natAbs).head? = some 48 := by rw [hb] at q ⊢; exact q
      have := decimal_head _ this
      omega
    unfold rdNumber
    rw [hu, (key _).1, (key _).2, val_decimal]
    rw [if_neg ?g]
    · have e : (((45 :: Vapaqa.decimal z.natAbs) ++ r) : Text).head? = some 45 := rfl
      simp only [e, if_true]
      rw [if_neg (by omega)]
      congr 2
      omega
    · simp only [Bool.or_eq_true, Bool.and_eq_true, not_or, not_and, beq_iff_eq, List.isEmpty_iff]
      exact ⟨decimal_ne _, fun q => absurd q h48⟩
  · rw [if_neg hz]
    obtain ⟨b, s, hb, hd⟩ := head_digit z.toNat
    have hh : (Vapaqa.decimal z.toNat ++ r).head? ≠ some 45 := by
      rw [hb]
      intro q
      exact (digit_ne hd).1 (by simpa using q)
    have hu : unsigned (Vapaqa.decimal z.toNat ++ r) = Vapaqa.decimal z.toNat ++ r := by unfold unsigned; rw [if_neg hh]
    unfold rdNumber
    rw [hu, (key _).1, (key _).2, val_decimal]
    rw [if_neg ?g2]
    · simp only [if_neg hh]
      rw [if_neg (by omega)]
      congr 2
      omega
    · simp only [Bool.or_eq_true, Bool.and_eq_true, not_or, not_and, beq_iff_eq, List.isEmpty_iff, decide_eq_true_eq]
      refine ⟨decimal_ne _, fun q => ⟨hh, fun q2 => ?_⟩⟩
      have q3 : (Vapaqa.decimal z.toNat).head? = some 48 := by rw [hb] at q ⊢; exact q
      have := decimal_lead _ q3
      omega
theorem isName_parts {n : Text} (h : isName n = true) : (∃ b s, n = b :: s ∧ isSmall b = true) ∧ n.length ≤ 10 ∧ n.all isWordB = true := by
  unfold isName at h
  simp only [Bool.and_eq_true, decide_eq_true_eq] at h
  obtain ⟨h1, h2, h3⟩ := h
  refine ⟨?_, h2, h3⟩
  cases n with
  | nil => cases h1
  | cons b s => exact ⟨b, s, rfl, h1⟩
theorem rdName_back {n r : Text} (h : isName n = true) (hr : r.head?.any isWordB = false) : rdName (n ++ r) = some (n, r) := by
  obtain ⟨⟨b, s, hb, hs⟩, hl, ha⟩ := isName_parts h
  unfold rdName
  obtain ⟨e1, e2⟩ := tw_append ha hr
  rw [e1, e2, if_pos (by rw [hb]; exact hs), if_pos hl]
def escB (b : UInt8) : Text := if b = 34 ∨ b = 92 then [92, b] else [b]
theorem quoted_eq (u : Text) : Vapaqa.quoted u = 34 :: (u.flatMap escB ++ [34]) := rfl
theorem rdInner_back : ∀ (u r : Text) (n : Nat), u.length ≤ n → u.all isSign = true → rdInner n (u.flatMap escB ++ 34 :: r) = some (u, r)
  | [], r, n, _, _ => rdInner_end n r
  | b :: u, r, n, hl, hs => by
    rw [List.all_cons, Bool.and_eq_true] at hs
    cases n with
    | zero => simp at hl
    | succ n =>
      have ih := rdInner_back u r n (by simpa using hl) hs.2
      rw [List.flatMap_cons]
      unfold escB
      by_cases hb : b = 34 ∨ b = 92
      · rw [if_pos hb]
        show rdInner (n + 1) (92 :: b :: (u.flatMap escB ++ 34 :: r)) = _
        rw [rdInner_esc _ _ _ hb]
        simp only [ih, Option.map_some]
      · rw [if_neg hb]
        show rdInner (n + 1) (b :: (u.flatMap escB ++ 34 :: r)) = _
        rw [rdInner_one _ _ _ (fun z => hb (.inl z)) (fun z => hb (.inr z)), if_pos hs.1]
        simp only [ih, Option.map_some]
theorem unquoted_end (r : Text) : Vapaqa.unquoted (34 :: r) = some ([], r) := by unfold Vapaqa.unquoted; rfl
theorem unquoted_esc (c : UInt8) (r : Text) (h : c = 34 ∨ c = 92) : Vapaqa.unquoted (92 :: c :: r) = (Vapaqa.unquoted r).map fun x => (c :: x.1, x.2) := by
  rw [Vapaqa.unquoted.eq_def]
  simp only [if_pos h]
theorem unquoted_one (b : UInt8) (r : Text) (h1 : b ≠ 34) (h2 : b ≠ 92) (h3 : isSign b = true) : Vapaqa.unquoted (b :: r) = (Vapaqa.unquoted r).map fun x => (b :: x.1, x.2) := by
  rw [Vapaqa.unquoted.eq_def]
  have e : (isSign b && b != 92) = true := by simp [h2, h3]
  split
  · rename_i h; simp at h; exact absurd h.1 h1
  · rename_i h; simp at h; exact absurd h.1 h2
  · rename_i heq
    simp at heq
    obtain ⟨rfl, rfl⟩ := heq
    rw [if_pos e]
  · rename_i h; simp at h
theorem unquoted_back : ∀ (u r : Text), u.all isSign = true → Vapaqa.unquoted (u.flatMap escB ++ 34 :: r) = some (u, r)
  | [], r, _ => unquoted_end r
  | b :: u, r, hs => by
    rw [List.all_cons, Bool.and_eq_true] at hs
    have ih := unquoted_back u r hs.2
    rw [List.flatMap_cons]
    unfold escB
    by_cases hb : b = 34 ∨ b = 92
    · rw [if_pos hb]
      show Vapaqa.unquoted (92 :: b :: (u.flatMap escB ++ 34 :: r)) = _
      rw [unquoted_esc _ _ hb, ih, Option.map_some]
    · rw [if_neg hb]
      show Vapaqa.unquoted (b :: (u.flatMap escB ++ 34 :: r)) = _
      rw [unquoted_one _ _ (fun z => hb (.inl z)) (fun z => hb (.inr z)) hs.1, ih, Option.map_some]
theorem naturalOf_back {n : Nat} (h : n ≤ 1000000000) : Vapaqa.naturalOf (Vapaqa.decimal n) = some n := by
  unfold Vapaqa.naturalOf
  have hl := decimal_len n 10 (by omega) (by omega)
  have hv : (Vapaqa.decimal n).foldl (fun n b => 10 * n + (b.toNat - 48)) 0 = n := val_decimal n
  rw [if_pos]
  · simp only [hv]
    rw [if_pos (show n ≤ Vapaqa.GREATEST from h)]
  · simp only [Bool.and_eq_true, Bool.or_eq_true, Bool.not_eq_true', decide_eq_true_eq, beq_iff_eq, bne_iff_ne, ne_eq]
    refine ⟨?_, hl, decimal_all n, ?_⟩
    · cases hd : Vapaqa.decimal n with
      | nil => exact absurd hd (decimal_ne n)
      | cons _ _ => rfl
    · by_cases q : (Vapaqa.decimal n).head? = some 48
      · exact .inl (decimal_lead n q)
      · exact .inr q
theorem integerOf_back {z : Int} (h : z.natAbs ≤ 1000000000) : Vapaqa.integerOf (Vapaqa.integer z) = some z := by
  unfold Vapaqa.integer
  by_cases hz : z < 0
  · rw [if_pos hz]
    show (Vapaqa.naturalOf (Vapaqa.decimal z.natAbs)).bind (fun n => if n = 0 then none else some (-(n : Int))) = _
    rw [naturalOf_back h, Option.bind_some, if_neg (by omega)]
    congr 1
    omega
  · rw [if_neg hz]
    obtain ⟨b, s, hb, hd⟩ := head_digit z.toNat
    have e : Vapaqa.integerOf (Vapaqa.decimal z.toNat) = (Vapaqa.naturalOf (Vapaqa.decimal z.toNat)).map fun n => (n : Int) := by
      unfold Vapaqa.integerOf
      rw [hb]
      split
      · rename_i heq
        simp at heq
        exact absurd heq.1 (digit_ne hd).1
      · rfl
    rw [e, naturalOf_back (by omega)]
    show some ((z.toNat : Int)) = some z
    congr 1
    omega
/-- a sign of words and numbers -/
def isW3 (b : UInt8) : Bool := isSmall b || (isDigit b || b == 45)
/-- what may stand behind a leaf or a name: no letter, no digit, no minus -/
def Stop (r : Text) : Prop := r.head?.any isW3 = false
theorem any_mono {p q : UInt8 → Bool} {r : Text} (h : ∀ b, q b = true → p b = true) (hr : r.head?.any p = false) : r.head?.any q = false := by
  cases r with
  | nil => rfl
  | cons b s =>
    have h1 : p b = false := hr
    show q b = false
    cases hq : q b with
    | false => rfl
    | true => rw [h b hq] at h1; cases h1
theorem Stop.digit {r : Text} (h : Stop r) : r.head?.any isDigit = false := any_mono (fun b hb => by unfold isW3; rw [hb]; simp) h
theorem Stop.word {r : Text} (h : Stop r) : r.head?.any isWordB = false := any_mono (fun b hb => by
  unfold isWordB at hb
  unfold isW3
  rcases Bool.or_eq_true_iff.mp hb with h | h <;> rw [h] <;> simp) h
theorem wordOff_back {w r : Text} (hw : w.all isW3 = true) (hr : Stop r) : Vapaqa.wordOff (w ++ r) = (w, r) := by
  unfold Vapaqa.wordOff
  have e : (w ++ r).takeWhile (fun b => isSmall b || (isDigit b || b == 45)) = w := (tw_append (p := isW3) hw hr).1
  simp only [e]
  simp
theorem integer_all (z : Int) : (Vapaqa.integer z).all isW3 = true := by
  have hd : ∀ n, (Vapaqa.decimal n).all isW3 = true := fun n => by
    rw [List.all_eq_true]
    intro b hb
    have := List.all_eq_true.mp (decimal_all n) b hb
    unfold isW3
    rw [this]
    simp
  unfold Vapaqa.integer
  split
  · rw [List.all_cons, hd]
    rfl
  · exact hd _
theorem integer_head (z : Int) : ∃ b s, Vapaqa.integer z = b :: s ∧ (b = 45 ∨ isDigit b = true) := by
  unfold Vapaqa.integer
  split
  · exact ⟨_, _, rfl, .inl rfl⟩
  · obtain ⟨b, s, hb, hd⟩ := head_digit z.toNat
    exact ⟨b, s, hb, .inr hd⟩
theorem name_w3 {n : Text} (h : isName n = true) : n.all isW3 = true := by
  obtain ⟨-, -, ha⟩ := isName_parts h
  rw [List.all_eq_true] at ha ⊢
  intro b hb
  have := ha b hb
  unfold isWordB at this
  unfold isW3
  rcases Bool.or_eq_true_iff.mp this with h | h <;> rw [h] <;> simp
theorem leafOff_word {w r : Text} (hne : w ≠ []) (hw : w.all isW3 = true) (hr : Stop r) : Vapaqa.leafOff (w ++ r) = if w = Vapaqa.ascii "null" then some (tNull, r) else if w = Vapaqa.ascii "true" then some (tBool true, r) else if w = Vapaqa.ascii "false" then some (tBool false, r) else (Vapaqa.integerOf w).map fun z => (tNum z, r) := by
  unfold Vapaqa.leafOff
  split
  · rename_i heq
    cases w with
    | nil => exact absurd rfl hne
    | cons b s =>
      simp at heq
      rw [List.all_cons, Bool.and_eq_true] at hw
      rw [heq.1] at hw
      exact absurd hw.1 (by decide)
  · simp only [wordOff_back hw hr]
theorem a_null : Vapaqa.ascii "null" = wNull := by decide
theorem a_true : Vapaqa.ascii "true" = wTrue := by decide
theorem a_false : Vapaqa.ascii "false" = wFalse := by decide
theorem leafOff_back {v : Tree} {r : Text} (h : LeafOk v) (hr : Stop r) : Vapaqa.leafOff (Vapaqa.treeText v ++ r) = some (v, r) := by
  rcases leaf_cases h with rfl | ⟨b, rfl⟩ | ⟨z, rfl, hz⟩ | ⟨u, rfl, hu, hs⟩
  · rw [treeText_null, leafOff_word (by decide) (by decide) hr, a_null, if_pos rfl]
  · rw [treeText_bool]
    cases b
    · rw [if_neg (by decide), leafOff_word (by decide) (by decide) hr, a_null, a_true, a_false, if_neg (by decide), if_neg (by decide), if_pos rfl]
    · rw [if_pos rfl, leafOff_word (by decide) (by decide) hr, a_null, a_true, a_false, if_neg (by decide), if_pos rfl]
  · obtain ⟨b, s, hb, hd⟩ := integer_head z
    have hn : ∀ w : Text, w.head?.any isSmall = true → Vapaqa.integer z ≠ w := by
      intro w hw q
      rw [← q, hb] at hw
      have hw2 : isSmall b = true := hw
      rcases hd with rfl | hd
      · revert hw2; decide
      · rw [(small_ne hw2).2.2.2.2.2.2.2.2.2] at hd; cases hd
    rw [treeText_num, leafOff_word (by rw [hb]; exact fun z => by cases z) (integer_all z) hr, a_null, a_true, a_false, if_neg (hn _ (by decide)), if_neg (hn _ (by decide)), if_neg (hn _ (by decide)), integerOf_back hz, Option.map_some]
  · rw [treeText_text, quoted_eq]
    show (Vapaqa.unquoted ((u.flatMap escB ++ [34]) ++ r)).map (fun x => (tText x.1, x.2)) = _
    rw [List.append_assoc]
    show (Vapaqa.unquoted (u.flatMap escB ++ 34 :: r)).map (fun x => (tText x.1, x.2)) = _
    rw [unquoted_back u r hs, Option.map_some]
theorem rdLeaf_back {v : Tree} {r : Text} (h : LeafOk v) (hr : r.head?.any isDigit = false) : rdLeaf (Vapaqa.treeText v ++ r) = some (v, r) := by
  rcases leaf_cases h with rfl | ⟨b, rfl⟩ | ⟨z, rfl, hz⟩ | ⟨u, rfl, hu, hs⟩
  · rw [treeText_null]
    have e : off wNull (wNull ++ r) = some r := off_append _ _
    unfold rdLeaf
    rw [e]
    rfl
  · rw [treeText_bool]
    cases b
    · have e : off wFalse (wFalse ++ r) = some r := off_append _ _
      have e2 : off wNull (wFalse ++ r) = none := rfl
      unfold rdLeaf
      rw [if_neg (show ¬ (false = true) by decide), e, e2]
      rfl
    · have e : off wTrue (wTrue ++ r) = some r := off_append _ _
      have e2 : off wNull (wTrue ++ r) = none := rfl
      have e3 : off wFalse (wTrue ++ r) = none := rfl
      unfold rdLeaf
      rw [if_pos rfl, e, e2, e3]
      rfl
  · obtain ⟨b, s, hb, hd⟩ := integer_head z
    have h34 : b ≠ 34 := by
      rcases hd with rfl | hd
      · decide
      · exact (digit_ne hd).2.1
    rw [treeText_num]
    unfold rdLeaf
    have e1 : (Vapaqa.integer z ++ r).head? = some b := by rw [hb]; rfl
    rw [e1, if_neg (by simpa using h34), if_pos, rdNumber_back (by omega) (by omega) hr, Option.map_some]
    rcases hd with rfl | hd
    · rfl
    · rw [Option.any_some, hd]
      simp
  · rw [treeText_text, quoted_eq]
    have e : (((34 :: (u.flatMap escB ++ [34])) ++ r) : Text).tail = u.flatMap escB ++ 34 :: r := by simp
    unfold rdLeaf
    rw [e, rdInner_back u r 20 hu hs]
    rfl
end TS.Rd
end
section
set_option Elab.async false
set_option linter.all false
/-! The specification's reader of trees reads each tree in order back. -/
namespace TS.Rd
open Vapaqf (Head Way Token Test matches_ faultOf Plan)
open Vapaqa (Text Name Tree Row stepText placeText textBefore off isSmall isDigit isSign isName tNull tBool tNum tText isRow rowText nameText treeText more entries nameRight readFrom isTree)
/-- a value's first byte -/
def Begin (b : UInt8) : Prop := b ≠ 93 ∧ b ≠ 125 ∧ b ≠ 44 ∧ b ≠ 32 ∧ b ≠ 46
theorem leaf_head {v : Tree} (h : LeafOk v) : ∃ b s, treeText v = b :: s ∧ Begin b ∧ b ≠ 91 ∧ b ≠ 123 ∧ b ≠ 40 := by
  rcases leaf_cases h with rfl | ⟨b, rfl⟩ | ⟨z, rfl, -⟩ | ⟨u, rfl, -⟩
  · exact ⟨110, _, treeText_null, by unfold Begin; decide, by decide, by decide, by decide⟩
  · cases b
    · exact ⟨102, _, treeText_bool _, by unfold Begin; decide, by decide, by decide, by decide⟩
    · exact ⟨116, _, treeText_bool _, by unfold Begin; decide, by decide, by decide, by decide⟩
  · obtain ⟨b, s, hb, hd⟩ := integer_head z
    refine ⟨b, s, by rw [treeText_num, hb], ?_⟩
    rcases hd with rfl | hd
    · exact ⟨by unfold Begin; decide, by decide, by decide, by decide⟩
    · have h2 := isDigit_iff.mp hd
      unfold Begin
      refine ⟨⟨?_, ?_, ?_, ?_, ?_⟩, ?_, ?_, ?_⟩ <;> (rintro rfl; revert h2; decide)
  · exact ⟨34, _, by rw [treeText_text, quoted_eq], by unfold Begin; decide, by decide, by decide, by decide⟩
theorem small_begin {b : UInt8} (h : isSmall b = true) : Begin b := by
  have h2 := isSmall_iff.mp h
  unfold Begin
  refine ⟨?_, ?_, ?_, ?_, ?_⟩ <;> (rintro rfl; revert h2; decide)
def opn (l : Bool) : UInt8 := if l = true then 91 else 123
def cls (l : Bool) : UInt8 := if l = true then 93 else 125
/-- an entry's text: name, value, what's behind -/
def entText (named : Bool) (n : Name) (w : Text) (k : Row) : Text := nameText named n ++ (w ++ more k (rowText named k))
theorem treeText_sub (l : Bool) (k : Row) : treeText (.sub [] l k .nil) = opn l :: (rowText (!l) k ++ [cls l]) := by
  unfold treeText
  simp [rowText, nameText, more, opn, cls]
/-- an entry, its value a tree of its own -/
inductive Ent : Row → Name → Tree → Row → Prop where
  | null (n : Name) (r : Row) : Ent (.null n r) n tNull r
  | bool (n : Name) (b : Bool) (r : Row) : Ent (.bool n b r) n (tBool b) r
  | num (n : Name) (z : Int) (r : Row) : Ent (.num n z r) n (tNum z) r
  | text (n : Name) (t : Text) (r : Row) : Ent (.text n t r) n (tText t) r
  | sub (n : Name) (l : Bool) (k r : Row) : Ent (.sub n l k r) n (.sub [] l k .nil) r
theorem ent_all (k : Row) (h : k ≠ .nil) : ∃ n v r, Ent k n v r := by
  cases k with
  | nil => exact absurd rfl h
  | null n r => exact ⟨_, _, _, .null n r⟩
  | bool n b r => exact ⟨_, _, _, .bool n b r⟩
  | num n z r => exact ⟨_, _, _, .num n z r⟩
  | text n t r => exact ⟨_, _, _, .text n t r⟩
  | sub n l k r => exact ⟨_, _, _, .sub n l k r⟩
theorem Ent.text_eq {k r : Row} {n : Name} {v : Tree} (h : Ent k n v r) (named : Bool) : rowText named k = entText named n (treeText v) r := by
  cases h with
  | null n r => rw [treeText_null, ← a_null]; rfl
  | bool n b r => rw [treeText_bool, ← a_true, ← a_false]; rfl
  | num n z r => rw [treeText_num]; rfl
  | text n t r => rw [treeText_text]; rfl
  | sub n l k r =>
    rw [treeText_sub]
    unfold entText
    rw [rowText, opn, cls]
    simp
theorem Ent.entry_eq {k r : Row} {n : Name} {v : Tree} (h : Ent k n v r) : Vapaqa.entry n v r = k := by cases h <;> rfl
theorem Ent.entries_eq {k r : Row} {n : Name} {v : Tree} (h : Ent k n v r) : entries k = (n, v) :: entries r := by cases h <;> rfl
theorem Ent.ne {k r : Row} {n : Name} {v : Tree} (h : Ent k n v r) : k ≠ .nil := by cases h <;> exact fun z => by cases z
theorem Ent.count_eq {k r : Row} {n : Name} {v : Tree} (h : Ent k n v r) : Vapaqa.count k = Vapaqa.count v + Vapaqa.count r := by
  cases h <;> simp [Vapaqa.count, tNull, tBool, tNum, tText]
theorem Ent.deep_eq {k r : Row} {n : Name} {v : Tree} (h : Ent k n v r) : Vapaqa.deep k = max (Vapaqa.deep v) (Vapaqa.deep r) := by
  cases h <;> simp [Vapaqa.deep, tNull, tBool, tNum, tText]
/-- what a value of a row in order is -/
def ValOk (v : Tree) : Prop := LeafOk v ∨ ∃ l k, v = .sub [] l k .nil ∧ (if l = true then (entries k).length ≤ 10 else (entries k).length ≤ 8 ∧ Vapaqa.rising ((entries k).map fun x => x.1) = true) ∧ isRow (!l) k = true
theorem Ent.row_iff {k r : Row} {n : Name} {v : Tree} (h : Ent k n v r) (named : Bool) : isRow named k = true ↔ nameRight named n = true ∧ ValOk v ∧ isRow named r = true := by
  have lf : ∀ {v : Tree}, Vapaqa.isLeaf v = true → ValOk v → LeafOk v := by
    intro v h1 h2
    rcases h2 with h2 | ⟨l, k, rfl, -⟩
    · exact h2
    · cases h1
  cases h with
  | null n r =>
    rw [isRow, Bool.and_eq_true]
    exact ⟨fun ⟨a, b⟩ => ⟨a, .inl leaf_null, b⟩, fun ⟨a, _, b⟩ => ⟨a, b⟩⟩
  | bool n b r =>
    rw [isRow, Bool.and_eq_true]
    exact ⟨fun ⟨a, c⟩ => ⟨a, .inl (leaf_bool b), c⟩, fun ⟨a, _, c⟩ => ⟨a, c⟩⟩
  | num n z r =>
    rw [isRow, Bool.and_eq_true, Bool.and_eq_true, decide_eq_true_eq]
    refine ⟨fun ⟨a, c, d⟩ => ⟨a, .inl (leaf_num c), d⟩, fun ⟨a, c, d⟩ => ⟨a, ?_, d⟩⟩
    rcases leaf_cases (lf rfl c) with e | ⟨b, e⟩ | ⟨z2, e, hz⟩ | ⟨u, e, -⟩ <;> cases e
    exact hz
  | text n t r =>
    rw [isRow, Bool.and_eq_true, Bool.and_eq_true]
    have e : Vapaqa.isText t = true ↔ t.length ≤ 20 ∧ t.all isSign = true := by unfold Vapaqa.isText; rw [Bool.and_eq_true, decide_eq_true_eq]; rfl
    refine ⟨fun ⟨a, c, d⟩ => ⟨a, .inl (leaf_text (e.mp c).1 (e.mp c).2), d⟩, fun ⟨a, c, d⟩ => ⟨a, ?_, d⟩⟩
    rcases leaf_cases (lf rfl c) with q | ⟨b, q⟩ | ⟨z2, q, hz⟩ | ⟨u, q, h1, h2⟩ <;> cases q
    exact e.mpr ⟨h1, h2⟩
  | sub n l k r =>
    rw [isRow, Bool.and_eq_true, Bool.and_eq_true, Bool.and_eq_true]
    have e : (if l = true then decide ((entries k).length ≤ Vapaqa.ITEMS) else decide ((entries k).length ≤ Vapaqa.FIELDS) && Vapaqa.rising ((entries k).map fun x => x.1)) = true ↔ (if l = true then (entries k).length ≤ 10 else (entries k).length ≤ 8 ∧ Vapaqa.rising ((entries k).map fun x => x.1) = true) := by
      cases l
      · rw [if_neg (by decide), if_neg (by decide), Bool.and_eq_true, decide_eq_true_eq]; rfl
      · rw [if_pos rfl, if_pos rfl, decide_eq_true_eq]; rfl
    rw [e]
    refine ⟨fun ⟨a, b, c, d⟩ => ⟨a, .inr ⟨l, k, rfl, b, c⟩, d⟩, fun ⟨a, b, d⟩ => ?_⟩
    rcases b with b | ⟨l2, k2, q, b, c⟩
    · cases b.1
    · cases q
      exact ⟨a, b, c, d⟩
theorem row_head {named : Bool} {k : Row} (hne : k ≠ .nil) (h : isRow named k = true) : ∃ b s, rowText named k = b :: s ∧ Begin b := by
  obtain ⟨n, v, r, E⟩ := ent_all k hne
  obtain ⟨h1, h2, -⟩ := (E.row_iff named).mp h
  rw [E.text_eq]
  unfold entText nameText
  cases named
  · rw [if_neg (by decide)]
    rcases h2 with h2 | ⟨l, k, rfl, -⟩
    · obtain ⟨b, s, e, hb, -⟩ := leaf_head h2
      rw [e]
      exact ⟨b, _, rfl, hb⟩
    · rw [treeText_sub]
      refine ⟨opn l, _, rfl, ?_⟩
      cases l <;> (unfold Begin; decide)
  · rw [if_pos rfl]
    obtain ⟨⟨b, s, e, hb⟩, -⟩ := isName_parts (show isName n = true from h1)
    rw [e]
    exact ⟨b, _, rfl, small_begin hb⟩
def ReadsT (v : Tree) : Prop := ∀ (f : Nat) (r : Text), 2 * (treeText v).length ≤ f → Stop r → readFrom f .tree (treeText v ++ r) = some (v, r)
def ReadsE (l : Bool) (k : Row) : Prop := ∀ (f : Nat) (r : Text), 2 * (rowText (!l) k).length + 1 ≤ f → readFrom f (.entries l) (rowText (!l) k ++ cls l :: r) = some (k, r)
theorem readFrom_tree (f : Nat) (t : Text) : readFrom (f + 1) .tree t = (match t with
    | 91 :: 93 :: r => some (Vapaqa.tList .nil, r)
    | 123 :: 125 :: r => some (Vapaqa.tRec .nil, r)
    | 91 :: r => (readFrom f (.entries true) r).map fun x => (Vapaqa.tList x.1, x.2)
    | 123 :: r => (readFrom f (.entries false) r).map fun x => (Vapaqa.tRec x.1, x.2)
    | _ => Vapaqa.leafOff t) := rfl
theorem reads_leaf {v : Tree} (h : LeafOk v) : ReadsT v := by
  intro f r hf hr
  obtain ⟨b, s, e, -, h1, h2, -⟩ := leaf_head h
  cases f with
  | zero => rw [e] at hf; simp at hf
  | succ f =>
    rw [readFrom_tree, ← leafOff_back h hr, e, List.cons_append]
    split
    · rename_i q; simp at q; exact absurd q.1 h1
    · rename_i q; simp at q; exact absurd q.1 h2
    · rename_i q; simp at q; exact absurd q.1 h1
    · rename_i q; simp at q; exact absurd q.1 h2
    · rfl
theorem reads_sub {l : Bool} {k : Row} (hk : isRow (!l) k = true) (h : k ≠ .nil → ReadsE l k) : ReadsT (.sub [] l k .nil) := by
  intro f r hf hr
  rw [treeText_sub] at hf ⊢
  simp only [List.length_cons, List.length_append, List.length_nil] at hf
  cases f with
  | zero => omega
  | succ f =>
    rw [readFrom_tree, List.cons_append, List.append_assoc]
    by_cases hn : k = .nil
    · subst hn
      cases l <;> rfl
    · obtain ⟨b, s, e, hb⟩ := row_head hn hk
      have q := h hn f r (by omega)
      have e2 : (rowText (!l) k ++ ([cls l] ++ r)) = rowText (!l) k ++ cls l :: r := rfl
      rw [e2]
      revert q
      rw [e, List.cons_append]
      intro q
      cases l with
      | true =>
        rw [show opn true = (91 : UInt8) from rfl]
        split
        · rename_i q2; simp at q2; exact absurd q2.1 hb.1
        · rename_i q2; simp at q2
        · rename_i q2 q3
          simp at q3
          rw [← q3, q]
          rfl
        · rename_i q2; simp at q2
        · rename_i x1 x2 x3 x4; exact absurd rfl (x3 _)
      | false =>
        rw [show opn false = (123 : UInt8) from rfl]
        split
        · rename_i q2; simp at q2
        · rename_i q2; simp at q2; exact absurd q2.1 hb.2.1
        · rename_i q2; simp at q2
        · rename_i q2 q3
          simp at q3
          rw [← q3, q]
          rfl
        · rename_i q2; exact absurd rfl (q2 _)
theorem readFrom_entries (f : Nat) (l : Bool) (t : Text) : readFrom (f + 1) (.entries l) t = (if l = true then some t else off [58, 32] (Vapaqa.wordOff t).2).bind fun v => (readFrom f .tree v).bind fun x => match x.2 with
      | 44 :: 32 :: r => (readFrom f (.entries l) r).map fun y => (Vapaqa.entry (if l = true then [] else (Vapaqa.wordOff t).1) x.1 y.1, y.2)
      | c :: r => if c = (if l = true then 93 else 125) then some (Vapaqa.entry (if l = true then [] else (Vapaqa.wordOff t).1) x.1 .nil, r) else none
      | [] => none := rfl
theorem stop_cls (l : Bool) (r : Text) : Stop (cls l :: r) := by cases l <;> (unfold Stop; rfl)
theorem reads_entry {l : Bool} {k k2 : Row} {n : Name} {v : Tree} (E : Ent k n v k2) (hn : nameRight (!l) n = true) (hv : ReadsT v) (hlen : 1 ≤ (treeText v).length) (hk : k2 ≠ .nil → ReadsE l k2) : ReadsE l k := by
  intro f r hf
  rw [E.text_eq] at hf ⊢
  unfold entText at hf ⊢
  simp only [List.length_append] at hf
  cases f with
  | zero => omega
  | succ f =>
    have a1 : (if l = true then some ((nameText (!l) n ++ (treeText v ++ more k2 (rowText (!l) k2))) ++ cls l :: r) else off [58, 32] (Vapaqa.wordOff ((nameText (!l) n ++ (treeText v ++ more k2 (rowText (!l) k2))) ++ cls l :: r)).2) = some (treeText v ++ (more k2 (rowText (!l) k2) ++ cls l :: r)) ∧ (if l = true then [] else (Vapaqa.wordOff ((nameText (!l) n ++ (treeText v ++ more k2 (rowText (!l) k2))) ++ cls l :: r)).1) = n := by
      cases l with
      | true =>
        rw [if_pos rfl, if_pos rfl]
        have : n = [] := by simpa [nameRight] using hn
        subst this
        refine ⟨?_, rfl⟩
        simp [nameText]
      | false =>
        have hn2 : isName n = true := hn
        have e : ((nameText (!false) n ++ (treeText v ++ more k2 (rowText (!false) k2))) ++ cls false :: r) = n ++ ([58, 32] ++ (treeText v ++ (more k2 (rowText (!false) k2) ++ cls false :: r))) := by simp [nameText]
        rw [e, wordOff_back (name_w3 hn2) (by rfl), if_neg (by decide), if_neg (by decide)]
        exact ⟨off_append _ _, rfl⟩
    rw [readFrom_entries, a1.1, a1.2, Option.bind_some]
    have st : Stop (more k2 (rowText (!l) k2) ++ cls l :: r) := by
      unfold more
      by_cases q : k2 = .nil
      · rw [if_pos q]
        exact stop_cls l r
      · rw [if_neg q]
        rfl
    rw [hv f _ (by omega) st, Option.bind_some]
    by_cases q : k2 = .nil
    · subst q
      have e : more .nil (rowText (!l) .nil) = [] := rfl
      rw [e, List.nil_append, ← E.entry_eq]
      cases l <;> rfl
    · have e : more k2 (rowText (!l) k2) ++ cls l :: r = 44 :: 32 :: (rowText (!l) k2 ++ cls l :: r) := by
        unfold more
        rw [if_neg q]
        rfl
      have e3 : (more k2 (rowText (!l) k2)).length = 2 + (rowText (!l) k2).length := by
        unfold more
        rw [if_neg q]
        simp
        omega
      rw [e]
      show (readFrom f (.entries l) (rowText (!l) k2 ++ cls l :: r)).map (fun y => (Vapaqa.entry n v y.1, y.2)) = _
      rw [hk q f r (by omega), Option.map_some, E.entry_eq]
theorem valText_len {v : Tree} (h : ValOk v) : 1 ≤ (treeText v).length := by
  rcases h with h | ⟨l, k, rfl, -⟩
  · exact leafText_ne h
  · rw [treeText_sub]
    simp
theorem reads_rows : ∀ (k : Row) (l : Bool), isRow (!l) k = true → k ≠ .nil → ReadsE l k := by
  have step : ∀ {k k2 : Row} {n : Name} {v : Tree} (E : Ent k n v k2) (l : Bool), isRow (!l) k = true → (ValOk v → ReadsT v) → (isRow (!l) k2 = true → k2 ≠ .nil → ReadsE l k2) → ReadsE l k := by
    intro k k2 n v E l h hv hk
    obtain ⟨h1, h2, h3⟩ := (E.row_iff _).mp h
    exact reads_entry E h1 (hv h2) (valText_len h2) (hk h3)
  have leaf : ∀ {v : Tree}, Vapaqa.isLeaf v = true → ValOk v → ReadsT v := by
    intro v h1 h2
    rcases h2 with h2 | ⟨l, k, rfl, -⟩
    · exact reads_leaf h2
    · cases h1
  intro k
  induction k with
  | nil => exact fun l _ h => absurd rfl h
  | null n r ih => exact fun l h _ => step (.null n r) l h (leaf rfl) (ih l)
  | bool n b r ih => exact fun l h _ => step (.bool n b r) l h (leaf rfl) (ih l)
  | num n z r ih => exact fun l h _ => step (.num n z r) l h (leaf rfl) (ih l)
  | text n t r ih => exact fun l h _ => step (.text n t r) l h (leaf rfl) (ih l)
  | sub n l2 k r ih1 ih2 =>
    refine fun l h _ => step (.sub n l2 k r) l h (fun hv => ?_) (ih2 l)
    rcases hv with hv | ⟨l3, k3, e, -, h3⟩
    · cases hv.1
    · cases e
      exact reads_sub h3 (ih1 l2 h3)
theorem reads_val {v : Tree} (h : ValOk v) : ReadsT v := by
  rcases h with h | ⟨l, k, rfl, -, h⟩
  · exact reads_leaf h
  · exact reads_sub h (reads_rows k l h)
theorem isTree_val {v : Tree} : isTree v = true ↔ ValOk v ∧ Vapaqa.count v ≤ 40 ∧ Vapaqa.deep v ≤ 6 := by
  constructor
  · intro h
    unfold isTree at h
    simp only [Bool.and_eq_true, beq_iff_eq, decide_eq_true_eq] at h
    obtain ⟨h1, h2, h3, h4⟩ := h
    refine ⟨?_, h3, h4⟩
    by_cases hn : v = .nil
    · subst hn
      cases h1
    obtain ⟨n, u, r, E⟩ := ent_all v hn
    obtain ⟨h5, h6, h7⟩ := (E.row_iff _).mp h2
    rw [E.entries_eq, List.length_cons] at h1
    have hr : r = .nil := by
      cases r with
      | nil => rfl
      | _ => simp [entries] at h1
    have hn : n = [] := by simpa [nameRight] using h5
    subst hr
    subst hn
    have : v = u := by cases E <;> rfl
    rw [this]
    exact h6
  · rintro ⟨h, h3, h4⟩
    have h34 : (decide (Vapaqa.count v ≤ Vapaqa.ENTRIES) && decide (Vapaqa.deep v ≤ Vapaqa.DEEP)) = true := by
      rw [Bool.and_eq_true, decide_eq_true_eq, decide_eq_true_eq]
      exact ⟨h3, h4⟩
    unfold isTree
    rw [h34, Bool.and_true]
    rcases h with h | ⟨l, k, rfl, h5, h6⟩
    · have := h.2
      unfold isTree at this
      simp only [Bool.and_eq_true, beq_iff_eq, decide_eq_true_eq] at this ⊢
      exact ⟨this.1, this.2.1⟩
    · have : isRow false (.sub [] l k .nil) = true := ((Ent.sub [] l k .nil).row_iff false).mpr ⟨rfl, .inr ⟨l, k, rfl, h5, h6⟩, rfl⟩
      rw [this]
      rfl
theorem treeOf_back {v : Tree} (h : isTree v = true) : Vapaqa.treeOf (treeText v) = some v := by
  unfold Vapaqa.treeOf
  have := reads_val (isTree_val.mp h).1 (2 * (treeText v).length + 2) [] (by omega) rfl
  rw [List.append_nil] at this
  rw [this, Option.bind_some, if_pos]
  simp [h]
theorem treeOf_sound {t : Text} {v : Tree} (h : Vapaqa.treeOf t = some v) : isTree v = true ∧ treeText v = t := by
  unfold Vapaqa.treeOf at h
  cases hr : readFrom (2 * t.length + 2) .tree t with
  | none => rw [hr] at h; cases h
  | some x =>
    rw [hr, Option.bind_some] at h
    split at h
    · rename_i hc
      simp only [Bool.and_eq_true, beq_iff_eq] at hc
      have := Option.some.inj h
      subst this
      exact hc.2
    · cases h
end TS.Rd
end
section
set_option Elab.async false
set_option linter.all false
/-! Trees token by token: what is read is the text of a tree in order, and each such text is read. -/
namespace TS.Rd
open Vapaqf (Head Way Token Test matches_ faultOf Plan tokensIn tokensOf)
open Vapaqa (Text Name Tree Row stepText placeText textBefore off isSmall isDigit isSign isName tNull tBool tNum tText isRow rowText nameText treeText more entries nameRight isTree count deep rising)
/-! ### 1. One token's text -/
def comma (sh : Shp) : Text := if sh.awaitsComma = true then [44, 32] else []
def written (sh : Shp) (t : Token) : Text := match t with
  | .close l => [cls l]
  | .name n => comma sh ++ (n ++ [58, 32])
  | t => comma sh ++ Vapaqf.tokenText t
def NmOk : Token → Prop
  | .leaf v => LeafOk v
  | .name n => isName n = true
  | _ => True
theorem seesEnd_no {b : UInt8} {s : Text} (h1 : b ≠ 93) (h2 : b ≠ 125) : seesEnd (b :: s) = false := by
  unfold seesEnd off
  have e1 : ([93] : Text).isPrefixOf (b :: s) = false := by simp [List.isPrefixOf, Ne.symm h1]
  have e2 : ([125] : Text).isPrefixOf (b :: s) = false := by simp [List.isPrefixOf, Ne.symm h2]
  rw [e1, e2]
  rfl
theorem head_is {t : Token} (h : begins t = true) (sh : Shp) : written sh t = comma sh ++ Vapaqf.tokenText t := by
  cases t <;> first | rfl | cases h
theorem next_sound {s r : Text} {sh : Shp} {t : Token} (h : nextTok s sh = some (t, r)) : s = written sh t ++ r ∧ NmOk t := by
  unfold nextTok at h
  split at h
  · rename_i hs
    obtain ⟨c, r2, rfl⟩ := seesEnd_cons hs
    simp only [rdEnd, Option.some.injEq, Prod.mk.injEq] at h
    obtain ⟨rfl, rfl⟩ := h
    refine ⟨?_, trivial⟩
    by_cases hc : c = 93
    · subst hc
      rfl
    · by_cases hd : c = 125
      · subst hd
        rfl
      · rw [seesEnd_no hc hd] at hs
        cases hs
  · cases hu : (if sh.awaitsComma = true then off [44, 32] s else some s) with
    | none => rw [hu] at h; cases h
    | some u =>
      rw [hu, Option.bind_some] at h
      have hs : s = comma sh ++ u := by
        unfold comma
        split at hu
        · rename_i hc
          rw [if_pos hc]
          exact off_eq hu
        · rename_i hc
          rw [if_neg hc, Option.some.inj hu]
          rfl
      split at h
      · cases hn : rdNameTok u with
        | none => rw [hn] at h; cases h
        | some y =>
          rw [hn, Option.bind_some] at h
          cases ho : off [32] y.2 with
          | none => rw [ho] at h; cases h
          | some z =>
            rw [ho] at h
            simp only [Option.map_some, Option.some.injEq, Prod.mk.injEq] at h
            obtain ⟨rfl, rfl⟩ := h
            obtain ⟨-, -, ⟨n, e, hn2⟩, hw⟩ := rdNameTok_ok (v := y.1) (r := y.2) hn
            rw [e] at hw ⊢
            refine ⟨?_, hn2⟩
            rw [hs, hw, off_eq ho]
            simp [written, Vapaqf.tokenText]
      · obtain ⟨h1, h2, -, h3⟩ := rdHead_ok h
        rw [head_is h2, hs, h3, List.append_assoc]
        refine ⟨rfl, ?_⟩
        cases t with
        | leaf v => exact h1
        | name n => cases h2
        | openList => trivial
        | openRecord => trivial
        | close l => trivial
theorem can_head {sh : Shp} {t : Token} (b : begins t = true) (h : sh.canCome t = true) : sh.awaitsName = false := by
  unfold Shp.canCome at h
  unfold Shp.awaitsName
  cases e : sh.frames with
  | nil => rfl
  | cons f fr =>
    rw [e] at h
    have h2 : (sh.hasRoom && f.takesTree) = true := by cases t <;> first | exact h | cases b
    have h3 := (bt h2).2
    unfold Fr.takesTree at h3
    show (!f.isList && !f.waits) = false
    cases hl : f.isList with
    | true => rfl
    | false =>
      rw [hl, if_neg (by decide)] at h3
      rw [h3]
      rfl
theorem can_name {sh : Shp} {n : Name} (h : sh.canCome (.name n) = true) : sh.awaitsName = true := by
  unfold Shp.canCome at h
  unfold Shp.awaitsName
  cases e : sh.frames with
  | nil => rw [e] at h; simp [begins] at h
  | cons f fr =>
    rw [e] at h
    have h3 := (bt (show (sh.hasRoom && f.takesName n) = true from h)).2
    unfold Fr.takesName at h3
    split at h3
    · cases h3
    · rename_i hq
      show (!f.isList && !f.waits) = true
      cases hl : f.isList <;> cases hw : f.waits <;> simp_all
theorem comma_cases (sh : Shp) : (sh.awaitsComma = true ∧ comma sh = [44, 32]) ∨ (sh.awaitsComma = false ∧ comma sh = []) := by
  unfold comma
  cases h : sh.awaitsComma
  · exact .inr ⟨rfl, rfl⟩
  · exact .inl ⟨rfl, rfl⟩
theorem comma_off (sh : Shp) (u : Text) : (if sh.awaitsComma = true then off [44, 32] (comma sh ++ u) else some (comma sh ++ u)) = some u := by
  rcases comma_cases sh with ⟨h1, h2⟩ | ⟨h1, h2⟩
  · rw [h1, h2, if_pos rfl]
    exact off_append _ _
  · rw [h1, h2]
    rfl
theorem comma_sees (sh : Shp) {b : UInt8} {s : Text} (h1 : b ≠ 93) (h2 : b ≠ 125) : seesEnd (comma sh ++ b :: s) = false := by
  rcases comma_cases sh with ⟨-, h⟩ | ⟨-, h⟩
  · rw [h]
    exact seesEnd_no (by decide) (by decide)
  · rw [h]
    exact seesEnd_no h1 h2
theorem tok_head {t : Token} (b : begins t = true) (ok : NmOk t) : ∃ c s, Vapaqf.tokenText t = c :: s ∧ c ≠ 93 ∧ c ≠ 125 := by
  cases t with
  | leaf v =>
    obtain ⟨c, s, e, hb, -⟩ := leaf_head ok
    exact ⟨c, s, e, hb.1, hb.2.1⟩
  | openList => exact ⟨91, [], rfl, by decide, by decide⟩
  | openRecord => exact ⟨123, [], rfl, by decide, by decide⟩
  | name n => cases b
  | close l => cases b
theorem rdHead_back {t : Token} {r : Text} (b : begins t = true) (ok : NmOk t) (hr : (∃ v, t = .leaf v) → r.head?.any isDigit = false) : rdHead (Vapaqf.tokenText t ++ r) = some (t, r) := by
  cases t with
  | leaf v =>
    obtain ⟨c, s, e, -, h1, h2, -⟩ := leaf_head ok
    have e1 : off [91] (treeText v ++ r) = none := by
      unfold off
      rw [e, if_neg (by simp [List.isPrefixOf, Ne.symm h1])]
    have e2 : off [123] (treeText v ++ r) = none := by
      unfold off
      rw [e, if_neg (by simp [List.isPrefixOf, Ne.symm h2])]
    show rdHead (treeText v ++ r) = _
    unfold rdHead
    rw [e1, e2, rdLeaf_back ok (hr ⟨v, rfl⟩)]
    rfl
  | openList => rfl
  | openRecord => rfl
  | name n => cases b
  | close l => cases b
theorem next_back {sh : Shp} {t : Token} {r : Text} (c : sh.canCome t = true) (ok : NmOk t) (hr : (∃ v, t = .leaf v) → r.head?.any isDigit = false) : nextTok (written sh t ++ r) sh = some (t, r) := by
  by_cases b : begins t = true
  · obtain ⟨x, s, e, h1, h2⟩ := tok_head b ok
    rw [head_is b, List.append_assoc]
    unfold nextTok
    have hs : seesEnd (comma sh ++ (Vapaqf.tokenText t ++ r)) = false := by
      rw [e]
      exact comma_sees sh h1 h2
    rw [hs, if_neg (by decide), comma_off, Option.bind_some, can_head b c, if_neg (by decide)]
    exact rdHead_back b ok hr
  · cases t with
    | leaf v => exact absurd rfl b
    | openList => exact absurd rfl b
    | openRecord => exact absurd rfl b
    | close l => cases l <;> rfl
    | name n =>
      have hn : isName n = true := ok
      obtain ⟨⟨x, s, e, hs⟩, -⟩ := isName_parts hn
      have hb := small_begin hs
      have e1 : written sh (.name n) ++ r = comma sh ++ (n ++ (58 :: 32 :: r)) := by simp [written]
      rw [e1]
      unfold nextTok
      have hs : seesEnd (comma sh ++ (n ++ (58 :: 32 :: r))) = false := by
        rw [e]
        exact comma_sees sh hb.1 hb.2.1
      rw [hs, if_neg (by decide), comma_off, Option.bind_some, can_name c, if_pos rfl]
      unfold rdNameTok
      rw [rdName_back hn (by rfl), Option.bind_some]
      rfl
/-! ### 2. Tokens one behind the other, and their text -/
def writes : Shp → List Token → Text
  | _, [] => []
  | sh, t :: ts => written sh t ++ (match sh.come t with
    | some x => writes x.1 ts
    | none => [])
theorem toks_sound : ∀ (f : Nat) (sh : Shp) (s : Text) (ts : List Token), toks f sh s = some ts → s = writes sh ts ∧ (∀ t ∈ ts, NmOk t) ∧ ∃ w, comeAll sh ts = some w ∧ w.isWhole = true
  | 0, _, _, _, h => by cases h
  | f + 1, sh, s, ts, h => by
    unfold toks at h
    split at h
    · rename_i hw
      split at h
      · rename_i hs
        rw [← Option.some.inj h]
        exact ⟨hs, fun t ht => (nomatch ht), sh, rfl, hw⟩
      · cases h
    · cases hn : nextTok s sh with
      | none => rw [hn] at h; cases h
      | some x =>
        rw [hn, Option.bind_some] at h
        obtain ⟨h1, h2⟩ := next_sound (t := x.1) (r := x.2) hn
        cases hc : sh.come x.1 with
        | none => rw [hc] at h; cases h
        | some y =>
          rw [hc, Option.bind_some] at h
          cases ht : toks f y.1 x.2 with
          | none => rw [ht] at h; cases h
          | some l =>
            rw [ht] at h
            simp only [Option.map_some, Option.some.injEq] at h
            obtain ⟨k1, k2, w, k3, k4⟩ := toks_sound f y.1 x.2 l ht
            rw [← h]
            refine ⟨?_, fun t ht => ?_, w, ?_, k4⟩
            · unfold writes
              rw [hc]
              show s = written sh x.1 ++ writes y.1 l
              rw [← k1]
              exact h1
            · rcases List.mem_cons.mp ht with rfl | ht
              · exact h2
              · exact k2 t ht
            · unfold comeAll
              rw [hc]
              exact k3
theorem come_can {sh : Shp} {t : Token} {x : Shp × Option Vapaqa.Place} (h : sh.come t = some x) : sh.canCome t = true := by
  unfold Shp.come at h
  split at h
  · assumption
  · cases h
theorem whole_none {sh : Shp} (h : sh.isWhole = true) (t : Token) : sh.canCome t = false := by
  unfold Shp.isWhole at h
  obtain ⟨h1, h2⟩ := bt h
  have h3 : sh.frames = [] := List.isEmpty_iff.mp h2
  have h4 : 0 < sh.entries := of_decide_eq_true h1
  unfold Shp.canCome
  rw [h3]
  show (sh.entries == 0 && begins t) = false
  have : (sh.entries == 0) = false := by rw [beq_eq_false_iff_ne]; omega
  rw [this]
  rfl
theorem come_head {sh : Shp} {t : Token} (b : begins t = true) (c : sh.canCome t = true) : sh.come t = some (sh.beginTree t, some (placeOf (within sh.frames))) := by
  unfold Shp.come
  rw [if_pos c]
  cases t <;> first | rfl | cases b
/-- behind a leaf comes no digit -/
theorem behind_leaf {sh : Shp} {v : Tree} {ts : List Token} (c : sh.canCome (.leaf v) = true) {w : Shp} (h : comeAll (sh.beginTree (.leaf v)) ts = some w) : (writes (sh.beginTree (.leaf v)) ts).head?.any isDigit = false := by
  cases ts with
  | nil => rfl
  | cons t ts =>
    have ct : (sh.beginTree (.leaf v)).canCome t = true := by
      unfold comeAll at h
      cases hc : (sh.beginTree (.leaf v)).come t with
      | none => rw [hc] at h; cases h
      | some x => exact come_can hc
    have hcm : comma (sh.beginTree (.leaf v)) = [44, 32] := by
      have e : (sh.beginTree (.leaf v)).frames = within sh.frames := rfl
      cases hf : sh.frames with
      | nil =>
        have hw : (sh.beginTree (.leaf v)).isWhole = true := by
          unfold Shp.isWhole
          rw [e, hf, Bool.and_eq_true, decide_eq_true_eq]
          exact ⟨Nat.succ_pos _, rfl⟩
        rw [whole_none hw] at ct
        cases ct
      | cons f fr =>
        unfold comma Shp.awaitsComma
        rw [e, hf]
        rw [if_pos]
        show (decide (0 < f.begun + 1) && !false) = true
        simp
    unfold writes
    cases t with
    | close l => cases l <;> rfl
    | name n => show ((comma _ ++ (n ++ [58, 32])) ++ _ : Text).head?.any isDigit = false; rw [hcm]; rfl
    | leaf u => show ((comma _ ++ _) ++ _ : Text).head?.any isDigit = false; rw [hcm]; rfl
    | openList => show ((comma _ ++ _) ++ _ : Text).head?.any isDigit = false; rw [hcm]; rfl
    | openRecord => show ((comma _ ++ _) ++ _ : Text).head?.any isDigit = false; rw [hcm]; rfl
theorem toks_back : ∀ (ts : List Token) (sh w : Shp), comeAll sh ts = some w → w.isWhole = true → (∀ t ∈ ts, NmOk t) → toksOf sh (writes sh ts) = some ts
  | [], sh, w, h, hw, _ => by
    have := Option.some.inj h
    subst this
    rw [toksOf_eq, if_pos hw]
    rfl
  | t :: ts, sh, w, h, hw, ok => by
    rw [toksOf_eq]
    unfold comeAll at h
    cases hc : sh.come t with
    | none => rw [hc] at h; cases h
    | some x =>
      rw [hc] at h
      have hcan := come_can hc
      have hnw : ¬ sh.isWhole = true := by
        intro z
        rw [whole_none z] at hcan
        cases hcan
      rw [if_neg hnw]
      have ew : writes sh (t :: ts) = written sh t ++ writes x.1 ts := by
        conv => lhs; unfold writes
        rw [hc]
      have hr : (∃ v, t = .leaf v) → (writes x.1 ts).head?.any isDigit = false := by
        rintro ⟨v, rfl⟩
        rw [come_head rfl hcan] at hc
        have := Option.some.inj hc
        subst this
        exact behind_leaf hcan h
      rw [ew, next_back hcan (ok t List.mem_cons_self) hr, Option.bind_some, hc, Option.bind_some]
      rw [toks_back ts x.1 w h hw fun t ht => ok t (List.mem_cons_of_mem _ ht)]
      rfl
end TS.Rd
end
section
set_option Elab.async false
set_option linter.all false
/-! A tree's tokens come, and what comes is a tree's tokens. -/
namespace TS.Rd
open Vapaqf (Head Way Token Test matches_ faultOf Plan tokensIn tokensOf)
open Vapaqa (Text Name Tree Row stepText placeText textBefore off isSmall isDigit isSign isName tNull tBool tNum tText isRow rowText nameText treeText more entries nameRight isTree count deep rising)
theorem Ent.tokens_eq {k r : Row} {n : Name} {v : Tree} (h : Ent k n v r) (named : Bool) : tokensIn named k = (if named = true then [.name n] else []) ++ (tokensOf v ++ tokensIn named r) := by
  cases h with
  | null n r => rfl
  | bool n b r => rfl
  | num n z r => rfl
  | text n t r => rfl
  | sub n l k r =>
    unfold tokensOf
    rw [tokensIn, tokensIn, tokensIn]
    simp
theorem tokensOf_leaf {v : Tree} (h : LeafOk v) : tokensOf v = [.leaf v] := by
  rcases leaf_cases h with rfl | ⟨b, rfl⟩ | ⟨z, rfl, -⟩ | ⟨u, rfl, -⟩ <;> rfl
def opens (l : Bool) : Token := if l = true then .openList else .openRecord
theorem tokensOf_sub (l : Bool) (k : Row) : tokensOf (.sub [] l k .nil) = opens l :: (tokensIn (!l) k ++ [.close l]) := by
  unfold tokensOf opens
  rw [tokensIn, tokensIn]
  simp
theorem count_leaf {v : Tree} (h : LeafOk v) : count v = 1 ∧ deep v = 1 := by
  rcases leaf_cases h with rfl | ⟨b, rfl⟩ | ⟨z, rfl, -⟩ | ⟨u, rfl, -⟩ <;> exact ⟨rfl, rfl⟩
theorem count_sub (l : Bool) (k : Row) : count (.sub [] l k .nil) = 1 + count k ∧ deep (.sub [] l k .nil) = deep k + 1 := by
  constructor
  · simp [count]
  · simp [deep]
theorem count_val {v : Tree} (h : ValOk v) : 1 ≤ count v ∧ 1 ≤ deep v := by
  rcases h with h | ⟨l, k, rfl, -⟩
  · have := count_leaf h; omega
  · have := count_sub l k; omega
def names (k : Row) : List Name := (entries k).map fun x => x.1
/-- names that may come behind the last one -/
def Rise (last : Name) (ns : List Name) : Prop := (∀ n s, ns = n :: s → last = [] ∨ textBefore last n = true) ∧ rising ns = true
theorem rise_cons {last n : Name} {ns : List Name} : Rise last (n :: ns) ↔ (last = [] ∨ textBefore last n = true) ∧ (∀ m s, ns = m :: s → textBefore n m = true) ∧ rising ns = true := by
  unfold Rise
  cases ns with
  | nil => exact ⟨fun h => ⟨h.1 n [] rfl, (fun m s e => by cases e), rfl⟩, fun h => ⟨fun a s e => by cases e; exact h.1, rfl⟩⟩
  | cons m s =>
    have e : rising (n :: m :: s) = (textBefore n m && rising (m :: s)) := rfl
    rw [e, Bool.and_eq_true]
    exact ⟨fun h => ⟨h.1 n _ rfl, fun a s e => by cases e; exact h.2.1, h.2.2⟩, fun h => ⟨fun a s e => by cases e; exact h.1, h.2.1 _ _ rfl, h.2.2⟩⟩
/-- what may yet come into an open one -/
def Pre (f : Fr) (k : Row) : Prop := if f.isList = true then f.begun + (entries k).length ≤ 10 else f.begun + (entries k).length ≤ 8 ∧ Rise f.name (names k)
/-- the frame behind one more entry -/
def nextFr (f : Fr) (n : Name) : Fr := if f.isList = true then f.beginWithin else (f.beginField n).beginWithin
theorem nextFr_is (f : Fr) (n : Name) : (nextFr f n).isList = f.isList ∧ (nextFr f n).waits = false ∧ (nextFr f n).begun = f.begun + 1 ∧ (f.isList = false → (nextFr f n).name = n) := by
  unfold nextFr
  split
  · rename_i h
    exact ⟨rfl, rfl, rfl, fun z => by rw [h] at z; cases z⟩
  · exact ⟨rfl, rfl, rfl, fun _ => rfl⟩
theorem pre_next {f : Fr} {k r : Row} {n : Name} {v : Tree} (E : Ent k n v r) (ok : nameRight (!f.isList) n = true) : Pre f k ↔ (if f.isList = true then f.begun < 10 else f.begun < 8 ∧ (f.name = [] ∨ textBefore f.name n = true)) ∧ Pre (nextFr f n) r := by
  obtain ⟨h1, h2, h3, h4⟩ := nextFr_is f n
  unfold Pre names
  rw [h1, h3, E.entries_eq]
  simp only [List.length_cons, List.map_cons]
  cases hl : f.isList with
  | true =>
    simp only [if_true]
    constructor
    · intro h; omega
    · intro h; omega
  | false =>
    rw [hl] at ok
    have hn : isName n = true := ok
    have hne := isName_ne hn
    rw [if_neg (by decide), if_neg (by decide), if_neg (by decide), h4 hl, rise_cons]
    constructor
    · rintro ⟨a, b, c, d⟩
      exact ⟨⟨by omega, b⟩, by omega, fun m s e => .inr (c m s e), d⟩
    · rintro ⟨⟨a, b⟩, c, d, e⟩
      exact ⟨by omega, b, fun m s q => (d m s q).elim (fun z => absurd z hne) id, e⟩
/-! ### 1. A tree's tokens come -/
theorem beginTree_is (F : List Fr) (m e : Nat) {t : Token} (b : begins t = true) : (⟨F, m, e⟩ : Shp).beginTree t = ⟨opened t (within F), mostOf t m (within F).length, e + 1⟩ := rfl
theorem writes_cons {sh : Shp} {t : Token} {x : Shp × Option Vapaqa.Place} (h : sh.come t = some x) (ts : List Token) : writes sh (t :: ts) = written sh t ++ writes x.1 ts := by
  conv => lhs; unfold writes
  rw [h]
theorem comeAll_cons {sh : Shp} {t : Token} {x : Shp × Option Vapaqa.Place} (h : sh.come t = some x) (ts : List Token) : comeAll sh (t :: ts) = comeAll x.1 ts := by
  conv => lhs; unfold comeAll
  rw [h]
theorem can_begin {sh : Shp} {t u : Token} (b : begins t = true) (c : begins u = true) : sh.canCome t = sh.canCome u := by
  unfold Shp.canCome
  cases sh.frames with
  | nil => show (sh.entries == 0 && begins t) = (sh.entries == 0 && begins u); rw [b, c]
  | cons f fr => cases t <;> cases u <;> first | rfl | exact absurd b Bool.false_ne_true | exact absurd c Bool.false_ne_true
theorem close_come {f : Fr} {fr : List Fr} {m e : Nat} {l : Bool} (hl : f.isList = l) (hw : f.waits = false) : (⟨f :: fr, m, e⟩ : Shp).come (.close l) = some (⟨fr, m, e⟩, none) := by
  unfold Shp.come
  rw [if_pos]
  · rfl
  · show f.takesEnd l = true
    unfold Fr.takesEnd
    cases l <;> simp_all
theorem name_come {f : Fr} {fr : List Fr} {m e : Nat} {n : Name} (hl : f.isList = false) (hw : f.waits = false) (h8 : f.begun < 8) (hb : f.name = [] ∨ textBefore f.name n = true) (he : e < 40) (hd : (f :: fr).length < 6) : (⟨f :: fr, m, e⟩ : Shp).come (.name n) = some (⟨f.beginField n :: fr, m, e⟩, none) := by
  unfold Shp.come
  rw [if_pos]
  show ((decide (e < 40) && decide ((f :: fr).length < 6)) && f.takesName n) = true
  rw [Bool.and_eq_true, Bool.and_eq_true]
  refine ⟨⟨decide_eq_true he, decide_eq_true hd⟩, ?_⟩
  unfold Fr.takesName
  have e8 : (f.begun == 8) = false := by rw [beq_eq_false_iff_ne]; omega
  rw [hl, hw, e8, if_neg (by decide), Bool.or_eq_true]
  exact hb.imp (fun z => List.isEmpty_iff.mpr z) id
/-- a value comes, whole -/
def ValComes (v : Tree) : Prop := ∀ (F : List Fr) (m e : Nat), (⟨F, m, e⟩ : Shp).canCome .openList = true → e + count v ≤ 40 → F.length + deep v ≤ 6 → ∃ m', ∀ ts,
  comeAll ⟨F, m, e⟩ (tokensOf v ++ ts) = comeAll ⟨within F, m', e + count v⟩ ts ∧ writes ⟨F, m, e⟩ (tokensOf v ++ ts) = (comma ⟨F, m, e⟩ ++ treeText v) ++ writes ⟨within F, m', e + count v⟩ ts
def RowComes (k : Row) : Prop := ∀ (f : Fr) (fr : List Fr) (m e : Nat), f.waits = false → isRow (!f.isList) k = true → Pre f k → e + count k ≤ 40 → (f :: fr).length + deep k ≤ 6 → ∃ f' m', f'.isList = f.isList ∧ f'.waits = false ∧ ∀ ts,
  comeAll ⟨f :: fr, m, e⟩ (tokensIn (!f.isList) k ++ ts) = comeAll ⟨f' :: fr, m', e + count k⟩ ts ∧ writes ⟨f :: fr, m, e⟩ (tokensIn (!f.isList) k ++ ts) = ((if k = .nil then [] else comma ⟨f :: fr, m, e⟩) ++ rowText (!f.isList) k) ++ writes ⟨f' :: fr, m', e + count k⟩ ts
theorem leaf_comes {v : Tree} (h : LeafOk v) : ValComes v := by
  intro F m e c he hd
  have hc := come_head (t := .leaf v) rfl ((can_begin (u := .openList) rfl rfl).trans c)
  refine ⟨m, fun ts => ?_⟩
  rw [tokensOf_leaf h, (count_leaf h).1]
  exact ⟨comeAll_cons hc ts, writes_cons hc ts⟩
theorem sub_comes {l : Bool} {k : Row} (h : RowComes k) (hk : isRow (!l) k = true) (hp : Pre (.fresh l) k) : ValComes (.sub [] l k .nil) := by
  intro F m e c he hd
  obtain ⟨c1, c2⟩ := count_sub l k
  rw [c1] at he
  rw [c2] at hd
  have hb : begins (opens l) = true := by cases l <;> rfl
  have hc := come_head (t := opens l) hb ((can_begin (u := .openList) hb rfl).trans c)
  have ho : opened (opens l) (within F) = .fresh l :: within F := by cases l <;> rfl
  rw [beginTree_is F m e hb, ho] at hc
  obtain ⟨f', m', e1, e2, e3⟩ := h (.fresh l) (within F) (mostOf (opens l) m (within F).length) (e + 1) rfl hk hp (by omega) (by
    have : (within F).length = F.length := by cases F <;> rfl
    simp only [List.length_cons]
    omega)
  have e1' : f'.isList = l := e1
  refine ⟨m', fun ts => ?_⟩
  rw [tokensOf_sub, c1]
  obtain ⟨e4, e5⟩ := e3 (.close l :: ts)
  have hcl := close_come (fr := within F) (m := m') (e := e + 1 + count k) e1' e2
  rw [comeAll_cons hcl] at e4
  rw [writes_cons hcl] at e5
  have el : (opens l :: (tokensIn (!l) k ++ [.close l])) ++ ts = opens l :: (tokensIn (!l) k ++ (.close l :: ts)) := by simp
  have en : e + (1 + count k) = e + 1 + count k := by omega
  rw [el, comeAll_cons hc, writes_cons hc, en]
  refine ⟨e4, ?_⟩
  have e5' : writes ⟨.fresh l :: within F, mostOf (opens l) m (within F).length, e + 1⟩ (tokensIn (!l) k ++ .close l :: ts) = _ := e5
  show written _ _ ++ writes ⟨.fresh l :: within F, mostOf (opens l) m (within F).length, e + 1⟩ (tokensIn (!l) k ++ .close l :: ts) = _
  rw [e5', head_is hb, treeText_sub]
  have ef : comma ⟨.fresh l :: within F, mostOf (opens l) m (within F).length, e + 1⟩ = [] := rfl
  have et : Vapaqf.tokenText (opens l) = [opn l] := by cases l <;> rfl
  have ew : ∀ sh, written sh (.close l) = [cls l] := fun _ => rfl
  have ei : (Fr.fresh l).isList = l := rfl
  have e0 : ∀ x : Text, ((if k = .nil then ([] : Text) else []) ++ x) = x := fun x => by split <;> rfl
  rw [ef, et, ew, ei, e0]
  simp
theorem pre_fresh {l : Bool} {k : Row} (h : if l = true then (entries k).length ≤ 10 else (entries k).length ≤ 8 ∧ rising ((entries k).map fun x => x.1) = true) : Pre (.fresh l) k := by
  cases l with
  | true =>
    rw [if_pos rfl] at h
    show 0 + _ ≤ 10
    omega
  | false =>
    rw [if_neg (by decide)] at h
    exact ⟨by show 0 + _ ≤ 8; omega, fun _ _ _ => .inl rfl, h.2⟩
theorem rows_come : ∀ (N : Nat) (k : Row), count k ≤ N → RowComes k
  | N, k, hN => by
    intro f fr m e hw hk hp he hd
    by_cases hn : k = .nil
    · subst hn
      refine ⟨f, m, rfl, hw, fun ts => ?_⟩
      exact ⟨rfl, rfl⟩
    obtain ⟨n, v, r, E⟩ := ent_all k hn
    obtain ⟨h1, h2, h3⟩ := (E.row_iff _).mp hk
    obtain ⟨q1, q2⟩ := (pre_next E h1).mp hp
    have cv := count_val h2
    have ck := E.count_eq
    have dk := E.deep_eq
    cases N with
    | zero => omega
    | succ N =>
      have hv : ValComes v := by
        rcases h2 with h2 | ⟨l, k2, rfl, h4, h5⟩
        · exact leaf_comes h2
        · have c2 := (count_sub l k2).1
          exact sub_comes (rows_come N k2 (by omega)) h5 (pre_fresh h4)
      obtain ⟨i1, i2, i3, i4⟩ := nextFr_is f n
      have dl : (nextFr f n :: fr).length = (f :: fr).length := rfl
      have ih := rows_come N r (by omega) (nextFr f n) fr
      rw [i1] at ih
      have co : ∀ m' e', comma ⟨nextFr f n :: fr, m', e'⟩ = [44, 32] := by
        intro m' e'
        unfold comma Shp.awaitsComma
        rw [if_pos]
        show (decide (0 < (nextFr f n).begun) && !(nextFr f n).waits) = true
        rw [i2, i3]
        simp
      have mo : ∀ m' e', more r (rowText (!f.isList) r) = (if r = .nil then [] else comma ⟨nextFr f n :: fr, m', e'⟩) ++ rowText (!f.isList) r := by
        intro m' e'
        rw [co]
        unfold more
        by_cases hr : r = .nil
        · rw [if_pos hr, if_pos hr, hr]
          cases f.isList <;> rfl
        · rw [if_neg hr, if_neg hr]
          rfl
      rw [if_neg hn]
      cases hl : f.isList with
      | true =>
        have hcan : (⟨f :: fr, m, e⟩ : Shp).canCome .openList = true := by
          show ((decide (e < 40) && decide ((f :: fr).length < 6)) && f.takesTree) = true
          rw [Bool.and_eq_true, Bool.and_eq_true]
          refine ⟨⟨decide_eq_true (by omega), decide_eq_true (by omega)⟩, ?_⟩
          unfold Fr.takesTree
          rw [hl, if_pos rfl]
          rw [hl, if_pos rfl] at q1
          exact decide_eq_true q1
        obtain ⟨m1, a⟩ := hv (f :: fr) m e hcan (by omega) (by omega)
        have ew : within (f :: fr) = nextFr f n :: fr := by unfold nextFr; rw [hl]; rfl
        rw [ew] at a
        obtain ⟨f', m', j1, j2, j3⟩ := ih m1 (e + count v) i2 h3 q2 (by omega) (by omega)
        refine ⟨f', m', by rw [j1, hl], j2, fun ts => ?_⟩
        rw [hl] at j3
        obtain ⟨b1, b2⟩ := a (tokensIn (!true) r ++ ts)
        obtain ⟨b3, b4⟩ := j3 ts
        have et : tokensIn (!true) k ++ ts = tokensOf v ++ (tokensIn (!true) r ++ ts) := by
          rw [E.tokens_eq]
          simp
        have en : e + count k = e + count v + count r := by omega
        rw [et, b1, b2, b3, b4, en, E.text_eq]
        refine ⟨rfl, ?_⟩
        have mo2 := mo m1 (e + count v)
        rw [hl] at mo2
        unfold entText
        rw [mo2]
        simp [nameText]
      | false =>
        rw [hl, if_neg (by decide)] at q1
        have hnm := name_come (fr := fr) (m := m) (e := e) hl hw q1.1 q1.2 (by omega) (by omega)
        have hcan : (⟨f.beginField n :: fr, m, e⟩ : Shp).canCome .openList = true := by
          show ((decide (e < 40) && decide ((f :: fr).length < 6)) && (f.beginField n).takesTree) = true
          rw [Bool.and_eq_true, Bool.and_eq_true]
          refine ⟨⟨decide_eq_true (by omega), decide_eq_true (by omega)⟩, ?_⟩
          unfold Fr.takesTree
          rw [show (f.beginField n).isList = false from hl, if_neg (by decide)]
          rfl
        obtain ⟨m1, a⟩ := hv (f.beginField n :: fr) m e hcan (by omega) (by show (f :: fr).length + _ ≤ 6; omega)
        have ew : within (f.beginField n :: fr) = nextFr f n :: fr := by unfold nextFr; rw [hl]; rfl
        rw [ew] at a
        obtain ⟨f', m', j1, j2, j3⟩ := ih m1 (e + count v) i2 h3 q2 (by omega) (by omega)
        refine ⟨f', m', by rw [j1, hl], j2, fun ts => ?_⟩
        rw [hl] at j3
        obtain ⟨b1, b2⟩ := a (tokensIn (!false) r ++ ts)
        obtain ⟨b3, b4⟩ := j3 ts
        have et : tokensIn (!false) k ++ ts = .name n :: (tokensOf v ++ (tokensIn (!false) r ++ ts)) := by
          rw [E.tokens_eq]
          simp
        have en : e + count k = e + count v + count r := by omega
        rw [et, comeAll_cons hnm, writes_cons hnm]
        show comeAll ⟨f.beginField n :: fr, m, e⟩ _ = _ ∧ _ ++ writes ⟨f.beginField n :: fr, m, e⟩ _ = _
        rw [b1, b2, b3, b4, en, E.text_eq]
        refine ⟨rfl, ?_⟩
        have mo2 := mo m1 (e + count v)
        rw [hl] at mo2
        unfold entText
        rw [mo2]
        have ec : comma ⟨f.beginField n :: fr, m, e⟩ = [] := by
          unfold comma Shp.awaitsComma
          rw [if_neg]
          show ¬ (decide (0 < f.begun) && !true) = true
          simp
        have ewr : written ⟨f :: fr, m, e⟩ (.name n) = comma ⟨f :: fr, m, e⟩ ++ (n ++ [58, 32]) := rfl
        rw [ec, ewr]
        simp [nameText]
theorem val_comes {v : Tree} (h : ValOk v) : ValComes v := by
  rcases h with h2 | ⟨l, k2, rfl, h4, h5⟩
  · exact leaf_comes h2
  · exact sub_comes (rows_come _ k2 (Nat.le_refl _)) h5 (pre_fresh h4)
end TS.Rd
end
section
set_option Elab.async false
set_option linter.all false
/-! What comes, till it's whole, is a tree's tokens; the reader of trees and the reader of tokens are the specification's. -/
namespace TS.Rd
open Vapaqf (Head Way Token Test matches_ faultOf Plan tokensIn tokensOf)
open Vapaqa (Text Name Tree Row stepText placeText textBefore off isSmall isDigit isSign isName tNull tBool tNum tText isRow rowText nameText treeText more entries nameRight isTree count deep rising)
theorem comeAll_inv {sh w : Shp} {t : Token} {ts : List Token} (h : comeAll sh (t :: ts) = some w) : ∃ x, sh.come t = some x ∧ comeAll x.1 ts = some w := by
  unfold comeAll at h
  cases hc : sh.come t with
  | none => rw [hc] at h; cases h
  | some x => rw [hc] at h; exact ⟨x, rfl, h⟩
def PV (N : Nat) : Prop := ∀ (t : Token) (ts : List Token) (F : List Fr) (m e : Nat) (w : Shp), (t :: ts).length ≤ N → begins t = true → (⟨F, m, e⟩ : Shp).canCome t = true → comeAll ⟨F, m, e⟩ (t :: ts) = some w → w.isWhole = true → (∀ u ∈ t :: ts, NmOk u) →
  ∃ v ts2 m', t :: ts = tokensOf v ++ ts2 ∧ ts2.length < (t :: ts).length ∧ ValOk v ∧ e + count v ≤ 40 ∧ F.length + deep v ≤ 6 ∧ comeAll ⟨within F, m', e + count v⟩ ts2 = some w
def PR (N : Nat) : Prop := ∀ (ts : List Token) (f : Fr) (fr : List Fr) (m e : Nat) (w : Shp), ts.length ≤ N → f.waits = false → (if f.isList = true then f.begun ≤ 10 else f.begun ≤ 8) → e ≤ 40 → (f :: fr).length ≤ 6 → comeAll ⟨f :: fr, m, e⟩ ts = some w → w.isWhole = true → (∀ u ∈ ts, NmOk u) →
  ∃ k ts2 m', ts = tokensIn (!f.isList) k ++ .close f.isList :: ts2 ∧ ts2.length < ts.length ∧ isRow (!f.isList) k = true ∧ Pre f k ∧ e + count k ≤ 40 ∧ (f :: fr).length + deep k ≤ 6 ∧ comeAll ⟨fr, m', e + count k⟩ ts2 = some w
theorem fresh_list {l : Bool} {k : Row} (h : Pre (.fresh l) k) : if l = true then (entries k).length ≤ 10 else (entries k).length ≤ 8 ∧ rising ((entries k).map fun x => x.1) = true := by
  cases l with
  | true =>
    rw [if_pos rfl]
    have h2 : 0 + _ ≤ 10 := h
    omega
  | false =>
    rw [if_neg (by decide)]
    have h2 : 0 + (entries k).length ≤ 8 ∧ Rise [] (names k) := h
    exact ⟨by omega, h2.2.2⟩
theorem room_of {F : List Fr} {m e : Nat} {t : Token} (b : begins t = true) (c : (⟨F, m, e⟩ : Shp).canCome t = true) : e < 40 ∧ F.length < 6 := by
  cases F with
  | nil =>
    have h : (e == 0 && begins t) = true := c
    have := beq_iff_eq.mp (bt h).1
    exact ⟨by omega, by decide⟩
  | cons f fr =>
    have h : ((decide (e < 40) && decide ((f :: fr).length < 6)) && f.takesTree) = true := by cases t <;> first | exact c | exact absurd b Bool.false_ne_true
    have := bt (bt h).1
    exact ⟨of_decide_eq_true this.1, of_decide_eq_true this.2⟩
theorem pv_of {N : Nat} (hR : PR N) : PV (N + 1) := by
  intro t ts F m e w hN hb hc h hw ok
  obtain ⟨x, hx, h2⟩ := comeAll_inv h
  rw [come_head hb hc, beginTree_is F m e hb] at hx
  have := Option.some.inj hx
  subst this
  obtain ⟨r1, r2⟩ := room_of hb hc
  have wl : (within F).length = F.length := by cases F <;> rfl
  have sub : ∀ l : Bool, t = opens l → ∃ v ts2 m', t :: ts = tokensOf v ++ ts2 ∧ ts2.length < (t :: ts).length ∧ ValOk v ∧ e + count v ≤ 40 ∧ F.length + deep v ≤ 6 ∧ comeAll ⟨within F, m', e + count v⟩ ts2 = some w := by
    intro l ht
    have ho : opened t (within F) = .fresh l :: within F := by rw [ht]; cases l <;> rfl
    rw [ho] at h2
    obtain ⟨k, ts2, m', a1, a2, a3, a4, a5, a6, a7⟩ := hR ts (.fresh l) (within F) _ (e + 1) w (by simpa using hN) rfl (by cases l <;> exact Nat.zero_le _) (by omega) (by simp only [List.length_cons]; omega) h2 hw (fun u hu => ok u (List.mem_cons_of_mem _ hu))
    have a1' : ts = tokensIn (!l) k ++ .close l :: ts2 := a1
    obtain ⟨c1, c2⟩ := count_sub l k
    refine ⟨.sub [] l k .nil, ts2, m', ?_, by simp only [List.length_cons]; omega, .inr ⟨l, k, rfl, fresh_list a4, a3⟩, by omega, ?_, ?_⟩
    · rw [tokensOf_sub, ht, a1']
      simp
    · simp only [List.length_cons] at a6
      omega
    · have : e + count (.sub [] l k .nil) = e + 1 + count k := by omega
      rw [this]
      exact a7
  cases t with
  | leaf v =>
    have hv : LeafOk v := ok _ List.mem_cons_self
    obtain ⟨c1, c2⟩ := count_leaf hv
    refine ⟨v, ts, m, by rw [tokensOf_leaf hv]; rfl, by simp, .inl hv, by omega, by omega, ?_⟩
    rw [c1]
    exact h2
  | openList => exact sub true rfl
  | openRecord => exact sub false rfl
  | name n => exact absurd hb Bool.false_ne_true
  | close l => exact absurd hb Bool.false_ne_true
/-- an entry before others, whatever its name -/
theorem ent_entry {v : Tree} (h : ValOk v) (n : Name) (r : Row) : Ent (Vapaqa.entry n v r) n v r := by
  rcases h with h | ⟨l, k, rfl, -⟩
  · rcases leaf_cases h with rfl | ⟨b, rfl⟩ | ⟨z, rfl, -⟩ | ⟨u, rfl, -⟩
    · exact .null n r
    · exact .bool n b r
    · exact .num n z r
    · exact .text n u r
  · exact .sub n l k r
theorem pr_of {N : Nat} (hV : PV (N + 1)) (hR : PR N) : PR (N + 1) := by
  intro ts f fr m e w hN hf hg he hl h hw ok
  cases ts with
  | nil =>
    have := Option.some.inj h
    subst this
    unfold Shp.isWhole at hw
    exact absurd (bt hw).2 Bool.false_ne_true
  | cons t ts =>
    obtain ⟨x, hx, h2⟩ := comeAll_inv h
    have hc := come_can hx
    have inner : ∀ (n : Name) (ts0 : List Token) (g : Fr) (v : Tree) (ts2 : List Token) (m' : Nat), nameRight (!f.isList) n = true → (if f.isList = true then f.begun < 10 else f.begun < 8 ∧ (f.name = [] ∨ textBefore f.name n = true)) → within (g :: fr) = nextFr f n :: fr → ts2.length ≤ N → (∀ u ∈ ts2, NmOk u) →
        t :: ts = (if (!f.isList) = true then [.name n] else []) ++ (tokensOf v ++ ts2) → ts2.length < (t :: ts).length → ValOk v → e + count v ≤ 40 → (f :: fr).length + deep v ≤ 6 → comeAll ⟨within (g :: fr), m', e + count v⟩ ts2 = some w →
        ∃ k ts2 m', t :: ts = tokensIn (!f.isList) k ++ .close f.isList :: ts2 ∧ ts2.length < (t :: ts).length ∧ isRow (!f.isList) k = true ∧ Pre f k ∧ e + count k ≤ 40 ∧ (f :: fr).length + deep k ≤ 6 ∧ comeAll ⟨fr, m', e + count k⟩ ts2 = some w := by
      intro n ts0 g v ts2 m' hn hq hg2 hlen hok et hl2 hv hcv hdv hca
      rw [hg2] at hca
      obtain ⟨i1, i2, i3, i4⟩ := nextFr_is f n
      obtain ⟨k, ts3, m3, a1, a2, a3, a4, a5, a6, a7⟩ := hR ts2 (nextFr f n) fr m' (e + count v) w hlen i2 (by
        rw [i1, i3]
        cases hfl : f.isList with
        | true =>
          rw [hfl, if_pos rfl] at hq
          rw [if_pos rfl]
          omega
        | false =>
          rw [hfl, if_neg (by decide)] at hq
          rw [if_neg (by decide)]
          omega) hcv (by simpa using hl) hca hw hok
      rw [i1] at a1 a3
      have E := ent_entry hv n k
      have ck := E.count_eq
      have dk := E.deep_eq
      refine ⟨Vapaqa.entry n v k, ts3, m3, ?_, by omega, (E.row_iff _).mpr ⟨hn, hv, a3⟩, (pre_next E hn).mpr ⟨hq, a4⟩, by omega, ?_, ?_⟩
      · rw [et, a1, E.tokens_eq]
        simp
      · have : (nextFr f n :: fr).length = (f :: fr).length := rfl
        omega
      · have : e + count (Vapaqa.entry n v k) = e + count v + count k := by omega
        rw [this]
        exact a7
    by_cases hb : begins t = true
    · have hroom := room_of hb hc
      have htk : ((decide (e < 40) && decide ((f :: fr).length < 6)) && f.takesTree) = true := by cases t <;> first | exact hc | exact absurd hb Bool.false_ne_true
      have htt := (bt htk).2
      unfold Fr.takesTree at htt
      cases hfl : f.isList with
      | false =>
        rw [hfl, if_neg (by decide), hf] at htt
        cases htt
      | true =>
        rw [hfl, if_pos rfl] at htt
        obtain ⟨v, ts2, m', a1, a2, a3, a4, a5, a6⟩ := hV t ts (f :: fr) m e w hN hb hc h hw ok
        have := inner [] ts f v ts2 m' (by rw [hfl]; rfl) (by rw [hfl, if_pos rfl]; exact of_decide_eq_true htt) (by unfold nextFr; rw [hfl]; rfl) (by simp only [List.length_cons] at a2 hN; omega) (fun u hu => ok u (by rw [a1]; exact List.mem_append_right _ hu)) (by rw [hfl]; exact a1) a2 a3 a4 a5 a6
        rw [hfl] at this
        exact this
    · cases t with
      | leaf v => exact absurd rfl hb
      | openList => exact absurd rfl hb
      | openRecord => exact absurd rfl hb
      | close l =>
        have ht : f.takesEnd l = true := hc
        have hle : l = f.isList := by
          unfold Fr.takesEnd at ht
          cases hfl : f.isList <;> cases l <;> simp_all
        subst hle
        rw [close_come rfl hf] at hx
        have := Option.some.inj hx
        subst this
        refine ⟨.nil, ts, m, rfl, by simp, rfl, ?_, by simpa [count] using he, by simpa [deep] using hl, h2⟩
        unfold Pre
        cases hfl : f.isList with
        | true =>
          rw [hfl, if_pos rfl] at hg
          rw [if_pos rfl]
          simpa [entries] using hg
        | false =>
          rw [hfl, if_neg (by decide)] at hg
          rw [if_neg (by decide)]
          exact ⟨by simpa [entries] using hg, (fun n s e => by cases e), rfl⟩
      | name n =>
        have ht : ((decide (e < 40) && decide ((f :: fr).length < 6)) && f.takesName n) = true := hc
        have hro := bt (bt ht).1
        have htn := (bt ht).2
        unfold Fr.takesName at htn
        split at htn
        · cases htn
        · rename_i hq
          simp only [Bool.or_eq_true, not_or, Bool.not_eq_true, beq_eq_false_iff_ne] at hq
          obtain ⟨q1, q2, q3⟩ := hq
          rw [q1, if_neg (by decide)] at hg
          have hbef : f.name = [] ∨ textBefore f.name n = true := (Bool.or_eq_true_iff.mp htn).imp List.isEmpty_iff.mp id
          have hlt : f.begun < 8 := by omega
          rw [name_come q1 hf hlt hbef (of_decide_eq_true hro.1) (of_decide_eq_true hro.2)] at hx
          have := Option.some.inj hx
          subst this
          have h3 : comeAll ⟨f.beginField n :: fr, m, e⟩ ts = some w := h2
          cases ts with
          | nil =>
            have := Option.some.inj h3
            subst this
            unfold Shp.isWhole at hw
            exact absurd (bt hw).2 Bool.false_ne_true
          | cons t2 ts2 =>
            obtain ⟨x2, hx2, -⟩ := comeAll_inv h3
            have hc2 := come_can hx2
            have hb2 : begins t2 = true := by
              cases t2 with
              | leaf v => rfl
              | openList => rfl
              | openRecord => rfl
              | name n2 =>
                have z : (_ && (f.beginField n).takesName n2) = true := hc2
                have z2 := (bt z).2
                have z3 : (f.beginField n).takesName n2 = false := by
                  unfold Fr.takesName
                  rw [if_pos]
                  show (f.isList || (true || _)) = true
                  simp
                rw [z3] at z2
                cases z2
              | close l2 =>
                have z : (f.beginField n).takesEnd l2 = true := hc2
                unfold Fr.takesEnd at z
                rw [show (f.beginField n).isList = false from q1, if_neg (by decide), show (f.beginField n).waits = true from rfl] at z
                simp at z
            obtain ⟨v, ts3, m', a1, a2, a3, a4, a5, a6⟩ := hV t2 ts2 (f.beginField n :: fr) m e w (by simp only [List.length_cons] at hN ⊢; omega) hb2 hc2 h3 hw (fun u hu => ok u (List.mem_cons_of_mem _ hu))
            refine inner n (t2 :: ts2) (f.beginField n) v ts3 m' (by rw [q1]; exact ok _ List.mem_cons_self) (by rw [q1, if_neg (by decide)]; exact ⟨hlt, hbef⟩) (by unfold nextFr; rw [q1]; rfl) ?_ (fun u hu => ok u (List.mem_cons_of_mem _ (by rw [a1]; exact List.mem_append_right _ hu))) ?_ (by simp only [List.length_cons] at a2 ⊢; omega) a3 a4 a5 a6
            · simp only [List.length_cons] at a2 hN ⊢
              omega
            · rw [q1, a1]
              rfl
theorem parse_all : ∀ N, PV N ∧ PR N
  | 0 => ⟨fun t ts F m e w h => absurd h (by simp), fun ts f fr m e w h h1 h2 h3 h4 h5 h6 => by
    have : ts = [] := List.length_eq_zero_iff.mp (by omega)
    subst this
    have := Option.some.inj h5
    subst this
    unfold Shp.isWhole at h6
    exact absurd (bt h6).2 Bool.false_ne_true⟩
  | N + 1 => by
    obtain ⟨-, h⟩ := parse_all N
    exact ⟨pv_of h, pr_of (pv_of h) h⟩
theorem tree_of_toks {ts : List Token} {w : Shp} (h : comeAll .fresh ts = some w) (hw : w.isWhole = true) (ok : ∀ u ∈ ts, NmOk u) : ∃ v, isTree v = true ∧ ts = tokensOf v := by
  cases ts with
  | nil =>
    have := Option.some.inj h
    subst this
    exact absurd hw (by decide)
  | cons t ts =>
    obtain ⟨x, hx, -⟩ := comeAll_inv h
    have hc := come_can hx
    have hb : begins t = true := (bt (show ((0 : Nat) == 0 && begins t) = true from hc)).2
    obtain ⟨v, ts2, m', a1, a2, a3, a4, a5, a6⟩ := (parse_all _).1 t ts [] 0 0 w (Nat.le_refl _) hb hc h hw ok
    have cv := (count_val a3).1
    refine ⟨v, isTree_val.mpr ⟨a3, by omega, by simpa using a5⟩, ?_⟩
    cases ts2 with
    | nil => rw [a1, List.append_nil]
    | cons u us =>
      exfalso
      obtain ⟨y, hy, -⟩ := comeAll_inv a6
      have hcu := come_can hy
      have : (⟨within [], m', 0 + count v⟩ : Shp).isWhole = true := by
        unfold Shp.isWhole
        rw [Bool.and_eq_true, decide_eq_true_eq]
        exact ⟨by show 0 < 0 + count v; omega, rfl⟩
      rw [whole_none this] at hcu
      cases hcu
theorem tokensIn_ok : ∀ (N : Nat) (k : Row) (named : Bool), count k ≤ N → isRow named k = true → ∀ u ∈ tokensIn named k, NmOk u
  | N, k, named, hN, hk => by
    by_cases hn : k = .nil
    · subst hn
      exact fun u hu => nomatch hu
    obtain ⟨n, v, r, E⟩ := ent_all k hn
    obtain ⟨h1, h2, h3⟩ := (E.row_iff _).mp hk
    have cv := count_val h2
    have ck := E.count_eq
    cases N with
    | zero => omega
    | succ N =>
      rw [E.tokens_eq]
      intro u hu
      rw [List.mem_append, List.mem_append] at hu
      rcases hu with hu | hu | hu
      · cases named with
        | false => rw [if_neg (by decide)] at hu; exact nomatch hu
        | true =>
          rw [if_pos rfl, List.mem_singleton] at hu
          subst hu
          exact h1
      · rcases h2 with h2 | ⟨l, k2, rfl, h4, h5⟩
        · rw [tokensOf_leaf h2, List.mem_singleton] at hu
          subst hu
          exact h2
        · have c2 := (count_sub l k2).1
          rw [tokensOf_sub, List.mem_cons, List.mem_append, List.mem_singleton] at hu
          rcases hu with rfl | hu | rfl
          · cases l <;> trivial
          · exact tokensIn_ok N k2 _ (by omega) h5 u hu
          · trivial
      · exact tokensIn_ok N r named (by omega) h3 u hu
theorem val_ok {v : Tree} (h : ValOk v) : ∀ u ∈ tokensOf v, NmOk u := by
  intro u hu
  rcases h with h2 | ⟨l, k2, rfl, h4, h5⟩
  · rw [tokensOf_leaf h2, List.mem_singleton] at hu
    subst hu
    exact h2
  · rw [tokensOf_sub, List.mem_cons, List.mem_append, List.mem_singleton] at hu
    rcases hu with rfl | hu | rfl
    · cases l <;> trivial
    · exact tokensIn_ok _ k2 _ (Nat.le_refl _) h5 u hu
    · trivial
theorem tree_back {v : Tree} (h : isTree v = true) : treeToks (treeText v) = some (tokensOf v) := by
  obtain ⟨h1, h2, h3⟩ := isTree_val.mp h
  obtain ⟨m', a⟩ := val_comes h1 [] 0 0 rfl (by omega) (by simpa using h3)
  obtain ⟨a1, a2⟩ := a []
  rw [List.append_nil] at a1 a2
  have cv := (count_val h1).1
  have hw : (⟨within [], m', 0 + count v⟩ : Shp).isWhole = true := by
    unfold Shp.isWhole
    rw [Bool.and_eq_true, decide_eq_true_eq]
    exact ⟨by show 0 < 0 + count v; omega, rfl⟩
  have a3 : writes .fresh (tokensOf v) = treeText v := by
    refine a2.trans ?_
    show ([] ++ treeText v) ++ [] = treeText v
    simp
  rw [treeToks_eq, ← a3]
  exact toks_back _ _ _ a1 hw (val_ok h1)
theorem tree_is (t : Text) : treeToks t = (Vapaqa.treeOf t).map tokensOf := by
  cases h : Vapaqa.treeOf t with
  | some v =>
    obtain ⟨h1, h2⟩ := treeOf_sound h
    rw [← h2, tree_back h1]
    rfl
  | none =>
    cases hk : treeToks t with
    | none => rfl
    | some ts =>
      exfalso
      obtain ⟨s1, s2, w, s3, s4⟩ := toks_sound _ _ _ _ hk
      obtain ⟨v, hv, rfl⟩ := tree_of_toks s3 s4 s2
      obtain ⟨s5, -⟩ := toks_sound _ _ _ _ (tree_back hv)
      rw [← s5] at s1
      rw [s1, treeOf_back hv] at h
      cases h
end TS.Rd
end
section
set_option Elab.async false
set_option linter.all false
/-! A token's text alone. -/
namespace TS.Rd
open Vapaqf (Head Way Token Test matches_ faultOf Plan tokensIn tokensOf)
open Vapaqa (Text Name Tree Row stepText placeText textBefore off isSmall isDigit isSign isName tNull tBool tNum tText treeText isTree)
theorem leaf_of {t : Text} {v : Tree} : (Vapaqa.treeOf t = some v ∧ Vapaqa.isLeaf v = true) ↔ (LeafOk v ∧ t = treeText v) := by
  constructor
  · rintro ⟨h1, h2⟩
    obtain ⟨h3, h4⟩ := treeOf_sound h1
    exact ⟨⟨h2, h3⟩, h4.symm⟩
  · rintro ⟨h1, rfl⟩
    exact ⟨treeOf_back h1.2, h1.1⟩
def leafTok (t : Text) : Option Token := (Vapaqa.treeOf t).bind fun v => if Vapaqa.isLeaf v = true then some (.leaf v) else none
theorem leafTok_some {t : Text} {k : Token} : leafTok t = some k ↔ ∃ v, k = .leaf v ∧ LeafOk v ∧ t = treeText v := by
  unfold leafTok
  constructor
  · intro h
    cases ht : Vapaqa.treeOf t with
    | none => rw [ht] at h; cases h
    | some v =>
      rw [ht, Option.bind_some] at h
      split at h
      · rename_i hl
        exact ⟨v, (Option.some.inj h).symm, leaf_of.mp ⟨ht, hl⟩⟩
      · cases h
  · rintro ⟨v, rfl, h⟩
    obtain ⟨h1, h2⟩ := leaf_of.mpr h
    rw [h1, Option.bind_some, if_pos h2]
theorem opt_ext {α : Type} {a b : Option α} (h : ∀ x, a = some x ↔ b = some x) : a = b := by
  cases a with
  | none =>
    cases b with
    | none => rfl
    | some y => exact absurd ((h y).mpr rfl) (fun z => by cases z)
  | some x => exact ((h x).mp rfl).symm
theorem leaf_last {v : Tree} (h : LeafOk v) : (treeText v).getLast? ≠ some 58 := by
  rcases leaf_cases h with rfl | ⟨b, rfl⟩ | ⟨z, rfl, -⟩ | ⟨u, rfl, -⟩
  · rw [treeText_null]; decide
  · rw [treeText_bool]; cases b <;> decide
  · rw [treeText_num]
    intro q
    have hm : (58 : UInt8) ∈ Vapaqa.integer z := List.mem_of_getLast? q
    have := List.all_eq_true.mp (integer_all z) 58 hm
    revert this
    decide
  · rw [treeText_text, quoted_eq]
    intro q
    have e : (34 :: (u.flatMap escB ++ [34]) : Text) = (34 :: u.flatMap escB) ++ [34] := rfl
    rw [e, List.getLast?_concat] at q
    revert q
    decide
theorem tok_is (t : Text) : tokOf t = Vapaqf.tokenOf t := by
  have el : ∀ t : Text, (Vapaqa.treeOf t).bind (fun v => if Vapaqa.isLeaf v = true then some (Token.leaf v) else none) = leafTok t := fun _ => rfl
  unfold Vapaqf.tokenOf
  rw [el]
  by_cases h91 : t = [91]
  · rw [if_pos h91, h91]; decide
  rw [if_neg h91]
  by_cases h123 : t = [123]
  · rw [if_pos h123, h123]; decide
  rw [if_neg h123]
  by_cases h93 : t = [93]
  · rw [if_pos h93, h93]; decide
  rw [if_neg h93]
  by_cases h125 : t = [125]
  · rw [if_pos h125, h125]; decide
  rw [if_neg h125]
  by_cases hn : t.getLast? = some 58 ∧ isName t.dropLast = true
  · rw [if_pos hn]
    obtain ⟨h1, h2⟩ := hn
    have e : t = t.dropLast ++ [58] := by
      obtain ⟨ys, e⟩ := List.getLast?_eq_some_iff.mp h1
      rw [e, List.dropLast_concat]
    obtain ⟨⟨b, s, hb, hs⟩, -⟩ := isName_parts h2
    have hh : t.head?.any isSmall = true := by rw [e, hb]; exact hs
    unfold tokOf
    rw [hh, h1, if_pos (by decide)]
    have er : rdNameTok t = some (.name t.dropLast, []) := by
      conv => lhs; rw [e]
      unfold rdNameTok
      rw [rdName_back h2 (by decide), Option.bind_some]
      rfl
    rw [er]
    rfl
  rw [if_neg hn]
  refine opt_ext fun k => ?_
  rw [leafTok_some]
  constructor
  · intro h
    unfold tokOf at h
    obtain ⟨x, hx, h2⟩ := Option.bind_eq_some_iff.mp h
    split at h2
    · rename_i hx2
      have hk := Option.some.inj h2
      have ex : x = (k, []) := by rw [← hk, ← hx2]
      rw [ex] at hx
      split at hx
      · obtain ⟨-, -, ⟨n, e1, e2⟩, e3⟩ := rdNameTok_ok hx
        rw [e1, List.append_nil] at e3
        exfalso
        have e4 : t = n ++ [58] := e3
        exact hn ⟨by rw [e4]; exact List.getLast?_concat, by rw [e4, List.dropLast_concat]; exact e2⟩
      · split at hx
        · rename_i hs
          exfalso
          obtain ⟨c, r, rfl⟩ := seesEnd_cons hs
          simp only [rdEnd, List.tail_cons, Option.some.injEq, Prod.mk.injEq] at hx
          obtain ⟨-, rfl⟩ := hx
          by_cases q1 : c = 93
          · exact h93 (by rw [q1])
          · by_cases q2 : c = 125
            · exact h125 (by rw [q2])
            · rw [seesEnd_no q1 q2] at hs
              cases hs
        · obtain ⟨a1, a2, -, a3⟩ := rdHead_ok hx
          rw [List.append_nil] at a3
          cases k with
          | leaf v => exact ⟨v, rfl, a1, a3⟩
          | openList => exact absurd a3 h91
          | openRecord => exact absurd a3 h123
          | name n => cases a2
          | close l => cases a2
    · cases h2
  · rintro ⟨v, rfl, hv, rfl⟩
    obtain ⟨c, s, e, hb, -⟩ := leaf_head hv
    unfold tokOf
    have e1 : ((treeText v).head?.any isSmall && (treeText v).getLast? == some 58) = false := by
      have : ((treeText v).getLast? == some 58) = false := by
        rw [beq_eq_false_iff_ne]
        exact leaf_last hv
      rw [this, Bool.and_false]
    have e2 : seesEnd (treeText v) = false := by rw [e]; exact seesEnd_no hb.1 hb.2.1
    have e3 := rdHead_back (t := .leaf v) (r := []) rfl hv (fun _ => rfl)
    rw [List.append_nil] at e3
    have e4 : rdHead (treeText v) = some (.leaf v, []) := e3
    rw [e1, e2, e4]
    rfl
end TS.Rd
end
section
set_option Elab.async false
set_option linter.all false
/-! Questions: the specification's reader reads back each question that can be answered token by token. -/
namespace TS.Rd
open Vapaqf (Head Way Token Test Plan testOf wayOf piped taken innerPlan planOf)
open Vapaqa (Text Name Tree Row Ask off isSmall isDigit isSign isName treeText askText askFrom isAskIn nodes opText fnText inBrackets endText)
/-- conditions, by their tests -/
inductive IsCond : Ask → Test → Prop where
  | same (v : Tree) : IsCond (.op .same .here (.lit v)) (.same v)
  | less (v : Tree) : IsCond (.op .less .here (.lit v)) (.less v)
  | more (v : Tree) : IsCond (.op .less (.lit v) .here) (.more v)
  | not_ {e : Ask} {t : Test} (h : IsCond e t) : IsCond (.fn .not_ e) (.not_ t)
  | and_ {e f : Ask} {t u : Test} (h : IsCond e t) (k : IsCond f u) : IsCond (.op .and_ e f) (.and_ t u)
  | or_ {e f : Ask} {t u : Test} (h : IsCond e t) (k : IsCond f u) : IsCond (.op .or_ e f) (.or_ t u)
theorem IsCond.testOf {a : Ask} {t : Test} (h : IsCond a t) : testOf a = some t := by
  induction h with
  | same v => rfl
  | less v => rfl
  | more v => rfl
  | not_ h ih => rw [Vapaqf.testOf, ih]; rfl
  | and_ h k i1 i2 => rw [Vapaqf.testOf, i1, i2]; rfl
  | or_ h k i1 i2 => rw [Vapaqf.testOf, i1, i2]; rfl
theorem isCond_of : ∀ (a : Ask) (t : Test), testOf a = some t → IsCond a t := by
  intro a
  induction a with
  | op o e f ihe ihf =>
    intro t h
    unfold Vapaqf.testOf at h
    split at h
    · rename_i q; cases q; cases h; exact .same _
    · rename_i q; cases q; cases h; exact .less _
    · rename_i q; cases q; cases h; exact .more _
    · rename_i q; cases q
    · rename_i q
      cases q
      obtain ⟨x, hx, h⟩ := Option.bind_eq_some_iff.mp h
      obtain ⟨y, hy, h⟩ := Option.map_eq_some_iff.mp h
      subst h
      exact .and_ (ihe _ hx) (ihf _ hy)
    · rename_i q
      cases q
      obtain ⟨x, hx, h⟩ := Option.bind_eq_some_iff.mp h
      obtain ⟨y, hy, h⟩ := Option.map_eq_some_iff.mp h
      subst h
      exact .or_ (ihe _ hx) (ihf _ hy)
    · cases h
  | fn k e ih =>
    intro t h
    unfold Vapaqf.testOf at h
    split at h
    · rename_i q; cases q
    · rename_i q; cases q
    · rename_i q; cases q
    · rename_i q
      cases q
      obtain ⟨x, hx, h⟩ := Option.map_eq_some_iff.mp h
      subst h
      exact .not_ (ih _ hx)
    · rename_i q; cases q
    · rename_i q; cases q
    · cases h
  | _ => intro t h; cases h
/-- a chain, taken in from one plan to another -/
inductive IsChain : Plan → Ask → Plan → Prop where
  | pipe {p q r : Plan} {e f : Ask} (h : IsChain p e q) (k : IsChain q f r) : IsChain p (.pipe e f) r
  | here (p : Plan) : IsChain p .here p
  | deep (p : Plan) (h : (p.deep || p.test.isSome) = false) : IsChain p .deep { p with deep := true }
  | where_ (p : Plan) {c : Ask} {t : Test} (h : p.test.isSome = false) (k : IsCond c t) : IsChain p (.fn .where_ c) { p with test := some t }
  | step (p : Plan) {e : Ask} {w : Way} (h : (p.deep || p.test.isSome) = false) (k : wayOf e = some w) : IsChain p e { p with steps := p.steps ++ [w] }
theorem taken_cons (p : Plan) (e : Ask) (r : List Ask) : taken p (e :: r) = (match e with
    | .here => taken p r
    | .deep => if (p.deep || p.test.isSome) = true then none else taken { p with deep := true } r
    | .fn .where_ c => if p.test.isSome = true then none else (testOf c).bind fun t => taken { p with test := some t } r
    | e => if (p.deep || p.test.isSome) = true then none else (wayOf e).bind fun w => taken { p with steps := p.steps ++ [w] } r) := rfl
theorem taken_append : ∀ (l m : List Ask) (p : Plan), taken p (l ++ m) = (taken p l).bind fun q => taken q m
  | [], m, p => rfl
  | e :: l, m, p => by
    rw [List.cons_append, taken_cons, taken_cons]
    split
    · exact taken_append l m p
    · split
      · rfl
      · exact taken_append l m _
    · split
      · rfl
      · rename_i c _
        cases testOf c with
        | none => rfl
        | some t => exact taken_append l m _
    · split
      · rfl
      · cases wayOf e with
        | none => rfl
        | some w => exact taken_append l m _
theorem way_forms {e : Ask} {w : Way} (h : wayOf e = some w) : (∃ n, e = .field n ∧ w = .field n) ∨ (∃ i, e = .item i) ∨ (∃ a b, e = .slice a b) ∨ (e = .each ∧ w = .each) := by
  cases e with
  | field n => exact .inl ⟨n, rfl, (Option.some.inj h).symm⟩
  | item i => exact .inr (.inl ⟨i, rfl⟩)
  | slice a b => exact .inr (.inr (.inl ⟨a, b, rfl⟩))
  | each => exact .inr (.inr (.inr ⟨rfl, (Option.some.inj h).symm⟩))
  | _ => cases h
theorem taken_step {p : Plan} {e : Ask} {w : Way} (h : (p.deep || p.test.isSome) = false) (k : wayOf e = some w) : taken p [e] = some { p with steps := p.steps ++ [w] } := by
  have key : ∀ {e : Ask} {w : Way}, wayOf e = some w → (if (p.deep || p.test.isSome) = true then none else (wayOf e).bind fun w => taken { p with steps := p.steps ++ [w] } []) = some { p with steps := p.steps ++ [w] } := by
    intro e w k
    rw [h, if_neg (by decide), k]
    rfl
  rcases way_forms k with ⟨n, rfl, -⟩ | ⟨i, rfl⟩ | ⟨a, b, rfl⟩ | ⟨rfl, -⟩
  · exact key k
  · exact key k
  · exact key k
  · exact key k
theorem IsChain.taken {p q : Plan} {e : Ask} (h : IsChain p e q) : taken p (piped e) = some q := by
  induction h with
  | pipe h k i1 i2 => rw [piped, taken_append, i1]; exact i2
  | here p => rfl
  | deep p h =>
    show (if (p.deep || p.test.isSome) = true then none else Vapaqf.taken { p with deep := true } []) = _
    rw [h]
    rfl
  | where_ p h k =>
    rename_i c t
    show (if p.test.isSome = true then none else (testOf c).bind fun t => Vapaqf.taken { p with test := some t } []) = _
    rw [h, k.testOf]
    rfl
  | step p h k =>
    rename_i e w
    have : piped e = [e] := by
      rcases way_forms k with ⟨n, rfl, -⟩ | ⟨i, rfl⟩ | ⟨a, b, rfl⟩ | ⟨rfl, -⟩ <;> rfl
    rw [this]
    exact taken_step h k
theorem chain_of : ∀ (e : Ask) (p q : Plan), taken p (piped e) = some q → IsChain p e q := by
  intro e
  have stepC : ∀ (e : Ask) (p q : Plan), (if (p.deep || p.test.isSome) = true then none else (wayOf e).bind fun w => taken { p with steps := p.steps ++ [w] } []) = some q → IsChain p e q := by
    intro e p q h
    split at h
    · cases h
    · rename_i hd
      obtain ⟨w, hw, h⟩ := Option.bind_eq_some_iff.mp h
      have := Option.some.inj h
      subst this
      exact .step p (by simpa using hd) hw
  induction e with
  | pipe e f i1 i2 =>
    intro p q h
    rw [piped, taken_append] at h
    obtain ⟨x, hx, h⟩ := Option.bind_eq_some_iff.mp h
    exact .pipe (i1 _ _ hx) (i2 _ _ h)
  | here =>
    intro p q h
    have := Option.some.inj h
    subst this
    exact .here p
  | deep =>
    intro p q h
    have h2 : (if (p.deep || p.test.isSome) = true then none else taken { p with deep := true } []) = some q := h
    split at h2
    · cases h2
    · rename_i hd
      have := Option.some.inj h2
      subst this
      exact .deep p (by simpa using hd)
  | fn k e ih =>
    intro p q h
    cases k with
    | where_ =>
      have h2 : (if p.test.isSome = true then none else (testOf e).bind fun t => taken { p with test := some t } []) = some q := h
      split at h2
      · cases h2
      · rename_i hd
        obtain ⟨t, ht, h2⟩ := Option.bind_eq_some_iff.mp h2
        have := Option.some.inj h2
        subst this
        exact .where_ p (by simpa using hd) (isCond_of _ _ ht)
    | _ => exact stepC _ p q h
  | _ => exact fun p q h => stepC _ p q h
theorem IsChain.forms {p q : Plan} {e : Ask} (h : IsChain p e q) : (∀ e', e ≠ .fn .try_ e') ∧ (∀ e', e ≠ .fn .count e') ∧ (∀ e', e ≠ .fn .sum e') ∧ ∀ n e', e ≠ .first n e' := by
  have key : ∀ {e : Ask} {w : Way}, wayOf e = some w → (∀ e', e ≠ .fn .try_ e') ∧ (∀ e', e ≠ .fn .count e') ∧ (∀ e', e ≠ .fn .sum e') ∧ ∀ n e', e ≠ .first n e' := by
    intro e w k
    rcases way_forms k with ⟨n, rfl, -⟩ | ⟨i, rfl⟩ | ⟨a, b, rfl⟩ | ⟨rfl, -⟩ <;> refine ⟨?_, ?_, ?_, ?_⟩ <;> intros <;> exact fun z => by cases z
  cases h with
  | step p h k => exact key k
  | _ => refine ⟨?_, ?_, ?_, ?_⟩ <;> intros <;> exact fun z => by cases z
theorem IsChain.inner {p q : Plan} {e : Ask} (h : IsChain p e q) : innerPlan p e = some q := by
  have f := h.forms
  have e1 := h.taken
  unfold innerPlan
  split
  · exact absurd rfl (f.1 _)
  · exact absurd rfl (f.2.2.2 _ _)
  · exact e1
/-! ### the specification's reader -/
/-- what stands behind a question or a part of it -/
def Stq (r : Text) : Prop := r = [] ∨ ∃ c s, r = c :: s ∧ (c = 32 ∨ c = 41 ∨ c = 44)
theorem Stq.stop {r : Text} (h : Stq r) : Stop r := by
  rcases h with rfl | ⟨c, s, rfl, rfl | rfl | rfl⟩ <;> rfl
theorem stq_cons {c : UInt8} (s : Text) (h : c = 32 ∨ c = 41 ∨ c = 44) : Stq (c :: s) := .inr ⟨c, s, rfl, h⟩
def ReadsQ (a : Ask) : Prop := ∀ (f : Nat) (r : Text), 2 * (askText a).length ≤ f → Stq r → askFrom f .whole (askText a ++ r) = some (a, r)
theorem off_head {b c : UInt8} {w s : Text} (h : b ≠ c) : off (c :: w) (b :: s) = none := by
  unfold off
  rw [if_neg]
  simp [List.isPrefixOf, Ne.symm h]
theorem off_nil {c : UInt8} {w : Text} : off (c :: w) [] = none := rfl
theorem rq_here : ReadsQ .here := by
  intro f r hf hr
  cases f with
  | zero => exact absurd hf (by decide)
  | succ f =>
    have e : Vapaqa.wordOff r = ([], r) := wordOff_back (w := []) rfl hr.stop
    have k : askFrom (f + 1) .whole (46 :: r) = some (if (Vapaqa.wordOff r).1.isEmpty = true then .here else .field (Vapaqa.wordOff r).1, (Vapaqa.wordOff r).2) := by
      rcases hr with rfl | ⟨c, s, rfl, rfl | rfl | rfl⟩ <;> rfl
    show askFrom (f + 1) .whole (46 :: r) = _
    rw [k, e]
    rfl
theorem rq_deep : ReadsQ .deep := by
  intro f r hf hr
  cases f with
  | zero => exact absurd hf (by decide)
  | succ f => rfl
theorem rq_field {n : Name} (h : isName n = true) : ReadsQ (.field n) := by
  intro f r hf hr
  cases f with
  | zero => exact absurd hf (by simp [askText])
  | succ f =>
    have e : Vapaqa.wordOff (n ++ r) = (n, r) := wordOff_back (name_w3 h) hr.stop
    obtain ⟨⟨b, s, hb, hs⟩, -⟩ := isName_parts h
    have sn := small_ne hs
    have k : askFrom (f + 1) .whole (46 :: (n ++ r)) = some (if (Vapaqa.wordOff (n ++ r)).1.isEmpty = true then .here else .field (Vapaqa.wordOff (n ++ r)).1, (Vapaqa.wordOff (n ++ r)).2) := by
      rw [hb]
      show (match (46 : UInt8) :: b :: (s ++ r) with
        | 40 :: r => _
        | 36 :: 36 :: r => _
        | 36 :: r => _
        | 46 :: 46 :: r => _
        | 46 :: 91 :: r => _
        | 46 :: r => _
        | 64 :: r => _
        | 123 :: 125 :: r => _
        | 123 :: r => _
        | t => _) = _
      split
      · rename_i q; simp at q
      · rename_i q; simp at q
      · rename_i q; simp at q
      · rename_i q; simp at q; exact absurd q.1 sn.2.2.2.2.2.2.2.2.1
      · rename_i q; simp at q; exact absurd q.1 sn.2.2.2.2.2.1
      · rename_i q; simp at q; subst q; rfl
      · rename_i q; simp at q
      · rename_i q; simp at q
      · rename_i q; simp at q
      · rename_i x1 x2 x3 x4 x5 x6 x7 x8 x9
        first | exact absurd rfl (x6 _) | exact absurd rfl (x5 _) | exact absurd rfl (x7 _) | exact absurd rfl (x4 _) | exact absurd rfl (x8 _)
    show askFrom (f + 1) .whole (46 :: (n ++ r)) = _
    rw [k, e]
    have : n.isEmpty = false := by rw [hb]; rfl
    simp only [this]
    rfl
end TS.Rd
end
section
set_option Elab.async false
set_option linter.all false
namespace TS.Rd
open Vapaqf (Head Way Token Test Plan testOf wayOf piped taken innerPlan planOf)
open Vapaqa (Text Name Tree Row Ask off isSmall isDigit isSign isName treeText askText askFrom isAskIn nodes opText fnText inBrackets endText)
def isN (b : UInt8) : Bool := isDigit b || b == 45
theorem numberOff_back {w r : Text} (hw : w.all isN = true) (hr : r.head?.any isN = false) : Vapaqa.numberOff (w ++ r) = (w, r) := by
  unfold Vapaqa.numberOff
  have e : (w ++ r).takeWhile (fun b => isDigit b || b == 45) = w := (tw_append (p := isN) hw hr).1
  simp only [e]
  simp
theorem decimal_n (n : Nat) : (Vapaqa.decimal n).all isN = true := by
  rw [List.all_eq_true]
  intro b hb
  have := List.all_eq_true.mp (decimal_all n) b hb
  unfold isN
  rw [this]
  rfl
theorem integer_n (z : Int) : (Vapaqa.integer z).all isN = true := by
  unfold Vapaqa.integer
  split
  · rw [List.all_cons, decimal_n]
    rfl
  · exact decimal_n _
theorem integer_ne (z : Int) : Vapaqa.integer z ≠ [] := by
  obtain ⟨b, s, hb, -⟩ := integer_head z
  rw [hb]
  exact fun z => by cases z
theorem far_small {z : Int} (h : Vapaqa.isFar z = true) : z.natAbs ≤ 100 := of_decide_eq_true h
theorem end_n (a : Option Int) : (endText a).all isN = true := by
  cases a with
  | none => rfl
  | some z => exact integer_n z
theorem endOf_back {a : Option Int} (h : a.all Vapaqa.isFar = true) : Vapaqa.endOf (endText a) = some a := by
  cases a with
  | none => rfl
  | some z =>
    have hz : z.natAbs ≤ 100 := far_small h
    unfold Vapaqa.endOf
    have : (endText (some z)).isEmpty = false := by
      cases e : endText (some z) with
      | nil => exact absurd e (integer_ne z)
      | cons _ _ => rfl
    rw [this, if_neg (by decide)]
    show (Vapaqa.integerOf (Vapaqa.integer z)).map some = _
    rw [integerOf_back (by omega)]
    rfl
theorem from_index (f : Nat) (r : Text) : askFrom (f + 1) .whole (46 :: 91 :: r) = Vapaqa.indexOff r := rfl
theorem rq_each : ReadsQ .each := by
  intro f r hf hr
  cases f with
  | zero => exact absurd hf (by simp [askText])
  | succ f =>
    show askFrom (f + 1) .whole (46 :: 91 :: (93 :: r)) = _
    rw [from_index]
    unfold Vapaqa.indexOff
    have e : Vapaqa.numberOff (93 :: r) = ([], 93 :: r) := numberOff_back (w := []) rfl rfl
    rw [e]
    rfl
theorem rq_item {i : Int} (h : Vapaqa.isFar i = true) : ReadsQ (.item i) := by
  intro f r hf hr
  cases f with
  | zero => exact absurd hf (by simp [askText])
  | succ f =>
    show askFrom (f + 1) .whole (46 :: 91 :: ((Vapaqa.integer i ++ [93]) ++ r)) = _
    rw [from_index, List.append_assoc]
    have e : Vapaqa.numberOff (Vapaqa.integer i ++ (93 :: r)) = (Vapaqa.integer i, 93 :: r) := numberOff_back (integer_n i) rfl
    unfold Vapaqa.indexOff
    show (match (Vapaqa.numberOff (Vapaqa.integer i ++ (93 :: r))).2 with
      | 93 :: r => _
      | 58 :: r => _
      | _ => none) = _
    rw [e]
    have hz : (Vapaqa.integer i).isEmpty = false := by
      cases q : Vapaqa.integer i with
      | nil => exact absurd q (integer_ne i)
      | cons _ _ => rfl
    have hi := far_small h
    show (if (Vapaqa.numberOff (Vapaqa.integer i ++ (93 :: r))).1.isEmpty = true then some (Ask.each, r) else (Vapaqa.integerOf (Vapaqa.numberOff (Vapaqa.integer i ++ (93 :: r))).1).map fun z => (Ask.item z, r)) = _
    rw [e]
    simp only [hz]
    rw [if_neg (by decide), integerOf_back (by omega)]
    rfl
theorem rq_slice {a b : Option Int} (ha : a.all Vapaqa.isFar = true) (hb : b.all Vapaqa.isFar = true) : ReadsQ (.slice a b) := by
  intro f r hf hr
  cases f with
  | zero => exact absurd hf (by simp [askText])
  | succ f =>
    show askFrom (f + 1) .whole (46 :: 91 :: ((endText a ++ (58 :: (endText b ++ [93]))) ++ r)) = _
    rw [from_index]
    have et : ((endText a ++ (58 :: (endText b ++ [93]))) ++ r) = endText a ++ (58 :: (endText b ++ (93 :: r))) := by simp
    rw [et]
    have e : Vapaqa.numberOff (endText a ++ (58 :: (endText b ++ (93 :: r)))) = (endText a, 58 :: (endText b ++ (93 :: r))) := numberOff_back (end_n a) rfl
    have e2 : Vapaqa.numberOff (endText b ++ (93 :: r)) = (endText b, 93 :: r) := numberOff_back (end_n b) rfl
    unfold Vapaqa.indexOff
    show (match (Vapaqa.numberOff (endText a ++ (58 :: (endText b ++ (93 :: r))))).2 with
      | 93 :: r => _
      | 58 :: r => _
      | _ => none) = _
    rw [e]
    show (off [93] (Vapaqa.numberOff (endText b ++ (93 :: r))).2).bind (fun u => (Vapaqa.endOf (endText a)).bind fun x => (Vapaqa.endOf (Vapaqa.numberOff (endText b ++ (93 :: r))).1).map fun y => (Ask.slice x y, u)) = _
    rw [e2]
    show (off [93] ([93] ++ r)).bind (fun u => (Vapaqa.endOf (endText a)).bind fun x => (Vapaqa.endOf (endText b)).map fun y => (Ask.slice x y, u)) = _
    rw [off_append, endOf_back ha, endOf_back hb]
    rfl
/-- the last arm of the reader -/
theorem from_word (f : Nat) {b : UInt8} {s : Text} (h1 : b ≠ 40) (h2 : b ≠ 36) (h3 : b ≠ 46) (h4 : b ≠ 64) (h5 : b ≠ 123) : askFrom (f + 1) .whole (b :: s) = (match off [40] (Vapaqa.wordOff (b :: s)).2 with
      | none => (Vapaqa.leafOff (b :: s)).map fun x => (Ask.lit x.1, x.2)
      | some u =>
        if (Vapaqa.wordOff (b :: s)).1 = Vapaqa.ascii "first" then
          (Vapaqa.naturalOf (Vapaqa.numberOff u).1).bind fun k => (off [44, 32] (Vapaqa.numberOff u).2).bind fun r => (askFrom f .whole r).bind fun e => (off [41] e.2).map fun x => (.first k e.1, x)
        else if (Vapaqa.wordOff (b :: s)).1 = Vapaqa.ascii "if" then
          (askFrom f .whole u).bind fun c => (off [44, 32] c.2).bind fun r => (askFrom f .whole r).bind fun e => (off [44, 32] e.2).bind fun q => (askFrom f .whole q).bind fun g => (off [41] g.2).map fun x => (.cond c.1 e.1 g.1, x)
        else (Vapaqa.FNS.find? fun k => fnText k == (Vapaqa.wordOff (b :: s)).1).bind fun k => (askFrom f .whole u).bind fun e => (off [41] e.2).map fun x => (.fn k e.1, x)) := by
  show (match b :: s with
        | 40 :: r => _
        | 36 :: 36 :: r => _
        | 36 :: r => _
        | 46 :: 46 :: r => _
        | 46 :: 91 :: r => _
        | 46 :: r => _
        | 64 :: r => _
        | 123 :: 125 :: r => _
        | 123 :: r => _
        | t => _) = _
  split
  · rename_i q; simp at q; exact absurd q.1 h1
  · rename_i q; simp at q; exact absurd q.1 h2
  · rename_i q; simp at q; exact absurd q.1 h2
  · rename_i q; simp at q; exact absurd q.1 h3
  · rename_i q; simp at q; exact absurd q.1 h3
  · rename_i q; simp at q; exact absurd q.1 h3
  · rename_i q; simp at q; exact absurd q.1 h4
  · rename_i q; simp at q; exact absurd q.1 h5
  · rename_i q; simp at q; exact absurd q.1 h5
  · rfl
theorem small_more {b : UInt8} (h : isSmall b = true) : b ≠ 36 ∧ b ≠ 64 ∧ b ≠ 40 ∧ b ≠ 46 ∧ b ≠ 123 ∧ b ≠ 34 := by
  have h2 := isSmall_iff.mp h
  refine ⟨?_, ?_, ?_, ?_, ?_, ?_⟩ <;> (rintro rfl; revert h2; decide)
theorem leaf_first {v : Tree} (h : LeafOk v) : ∃ b s, treeText v = b :: s ∧ b ≠ 40 ∧ b ≠ 36 ∧ b ≠ 46 ∧ b ≠ 64 ∧ b ≠ 123 ∧ (b = 34 ∨ (treeText v).all isW3 = true) := by
  rcases leaf_cases h with rfl | ⟨b, rfl⟩ | ⟨z, rfl, -⟩ | ⟨u, rfl, -⟩
  · exact ⟨110, _, treeText_null, by decide, by decide, by decide, by decide, by decide, .inr (by decide)⟩
  · cases b
    · exact ⟨102, _, treeText_bool _, by decide, by decide, by decide, by decide, by decide, .inr (by decide)⟩
    · exact ⟨116, _, treeText_bool _, by decide, by decide, by decide, by decide, by decide, .inr (by decide)⟩
  · obtain ⟨b, s, hb, hd⟩ := integer_head z
    have ht : (treeText (Vapaqa.tNum z)).all isW3 = true := by rw [treeText_num]; exact integer_all z
    refine ⟨b, s, by rw [treeText_num, hb], ?_⟩
    rcases hd with rfl | hd
    · exact ⟨by decide, by decide, by decide, by decide, by decide, .inr ht⟩
    · have h2 := isDigit_iff.mp hd
      refine ⟨?_, ?_, ?_, ?_, ?_, .inr ht⟩ <;> (rintro rfl; revert h2; decide)
  · exact ⟨34, _, by rw [treeText_text, quoted_eq], by decide, by decide, by decide, by decide, by decide, .inl rfl⟩
theorem stq_no40 {r : Text} (h : Stq r) : off [40] r = none := by
  rcases h with rfl | ⟨c, s, rfl, rfl | rfl | rfl⟩ <;> rfl
theorem rq_lit {v : Tree} (h : LeafOk v) : ReadsQ (.lit v) := by
  intro f r hf hr
  obtain ⟨b, s, hb, h1, h2, h3, h4, h5, hw⟩ := leaf_first h
  cases f with
  | zero => have e : askText (.lit v) = b :: s := hb; rw [e] at hf; simp at hf
  | succ f =>
    have k : off [40] (Vapaqa.wordOff (treeText v ++ r)).2 = none := by
      rcases hw with rfl | hw
      · have : Vapaqa.wordOff (treeText v ++ r) = ([], treeText v ++ r) := by
          rw [hb]
          exact wordOff_back (w := []) rfl rfl
        rw [this, hb]
        rfl
      · rw [wordOff_back hw hr.stop]
        exact stq_no40 hr
    show askFrom (f + 1) .whole (treeText v ++ r) = _
    have e := from_word f (s := s ++ r) h1 h2 h3 h4 h5
    rw [← List.cons_append, ← hb, k] at e
    rw [e]
    show (Vapaqa.leafOff (treeText v ++ r)).map (fun x => (Ask.lit x.1, x.2)) = _
    rw [leafOff_back h hr.stop]
    rfl
theorem fn_call {w : Text} (f : Nat) (u : Text) (hne : w ≠ []) (hw : w.all isSmall = true) : Vapaqa.wordOff (w ++ 40 :: u) = (w, 40 :: u) ∧ ∃ b s, w ++ 40 :: u = b :: s ∧ b ≠ 40 ∧ b ≠ 36 ∧ b ≠ 46 ∧ b ≠ 64 ∧ b ≠ 123 := by
  have h3 : w.all isW3 = true := by
    rw [List.all_eq_true] at hw ⊢
    intro b hb
    unfold isW3
    rw [hw b hb]
    rfl
  refine ⟨wordOff_back h3 rfl, ?_⟩
  cases w with
  | nil => exact absurd rfl hne
  | cons b s =>
    have hb := List.all_eq_true.mp hw b List.mem_cons_self
    have := small_more hb
    exact ⟨b, s ++ 40 :: u, rfl, this.2.2.1, this.1, this.2.2.2.1, this.2.1, this.2.2.2.2.1⟩
theorem rq_fn {k : Vapaqa.Fn} {e : Ask} (he : ReadsQ e) : ReadsQ (.fn k e) := by
  intro f r hf hr
  have et : askText (.fn k e) ++ r = fnText k ++ 40 :: (askText e ++ (41 :: r)) := by
    show (fnText k ++ (40 :: (askText e ++ ([] ++ ([] ++ [41]))))) ++ r = _
    simp
  have hl : (askText (.fn k e)).length = (fnText k).length + (askText e).length + 2 := by
    show (fnText k ++ (40 :: (askText e ++ ([] ++ ([] ++ [41]))))).length = _
    simp
    omega
  cases f with
  | zero => omega
  | succ f =>
    rw [et]
    obtain ⟨e1, b, s, e2, h1, h2, h3, h4, h5⟩ := fn_call f (askText e ++ (41 :: r)) (w := fnText k) (by cases k <;> decide) (by cases k <;> decide)
    have q := from_word f (s := s) h1 h2 h3 h4 h5
    rw [← e2, e1] at q
    rw [q]
    show (if fnText k = Vapaqa.ascii "first" then _ else if fnText k = Vapaqa.ascii "if" then _ else (Vapaqa.FNS.find? fun j => fnText j == fnText k).bind fun j => (askFrom f .whole (askText e ++ (41 :: r))).bind fun e => (off [41] e.2).map fun x => (Ask.fn j e.1, x)) = _
    rw [if_neg (by cases k <;> decide), if_neg (by cases k <;> decide)]
    have hfi : (Vapaqa.FNS.find? fun j => fnText j == fnText k) = some k := by cases k <;> decide
    rw [hfi, Option.bind_some, he f (41 :: r) (by omega) (stq_cons _ (by decide)), Option.bind_some]
    rfl
theorem rq_first {n : Nat} {e : Ask} (hn : n ≤ 1000000000) (he : ReadsQ e) : ReadsQ (.first n e) := by
  intro f r hf hr
  have et : askText (.first n e) ++ r = Vapaqa.ascii "first" ++ 40 :: (Vapaqa.decimal n ++ (44 :: 32 :: (askText e ++ (41 :: r)))) := by
    show (Vapaqa.ascii "first" ++ (40 :: (Vapaqa.decimal n ++ ([44, 32] ++ (askText e ++ [41]))))) ++ r = _
    simp
  have hl : (askText e).length + 2 ≤ (askText (.first n e)).length := by
    show _ ≤ (Vapaqa.ascii "first" ++ (40 :: (Vapaqa.decimal n ++ ([44, 32] ++ (askText e ++ [41]))))).length
    simp
    omega
  cases f with
  | zero => omega
  | succ f =>
    rw [et]
    obtain ⟨e1, b, s, e2, h1, h2, h3, h4, h5⟩ := fn_call f (Vapaqa.decimal n ++ (44 :: 32 :: (askText e ++ (41 :: r)))) (w := Vapaqa.ascii "first") (by decide) (by decide)
    have q := from_word f (s := s) h1 h2 h3 h4 h5
    rw [← e2, e1] at q
    rw [q]
    show (if Vapaqa.ascii "first" = Vapaqa.ascii "first" then (Vapaqa.naturalOf (Vapaqa.numberOff (Vapaqa.decimal n ++ (44 :: 32 :: (askText e ++ (41 :: r))))).1).bind (fun k => (off [44, 32] (Vapaqa.numberOff (Vapaqa.decimal n ++ (44 :: 32 :: (askText e ++ (41 :: r))))).2).bind fun r => (askFrom f .whole r).bind fun e => (off [41] e.2).map fun x => (Ask.first k e.1, x)) else _) = _
    rw [if_pos rfl, numberOff_back (decimal_n n) rfl]
    show (Vapaqa.naturalOf (Vapaqa.decimal n)).bind (fun k => (off [44, 32] ([44, 32] ++ (askText e ++ (41 :: r)))).bind fun r => (askFrom f .whole r).bind fun e => (off [41] e.2).map fun x => (Ask.first k e.1, x)) = _
    rw [naturalOf_back hn, Option.bind_some, off_append, Option.bind_some, he f (41 :: r) (by omega) (stq_cons _ (by decide)), Option.bind_some]
    rfl
theorem from_pair (f : Nat) (r : Text) : askFrom (f + 1) .whole (40 :: r) = (askFrom f .whole r).bind fun e => (Vapaqa.joins.findSome? fun j => (off j.1 e.2).map fun u => (j.2, u)).bind fun j => (askFrom f .whole j.2).bind fun g => (off [41] g.2).map fun u => (j.1 e.1 g.1, u) := rfl
theorem rq_pair {m : Text} {mk : Ask → Ask → Ask} {e g : Ask} (hm : ∀ u, (Vapaqa.joins.findSome? fun j => (off j.1 (m ++ u)).map fun u => (j.2, u)) = some (mk, u)) (hs : ∀ u, Stq (m ++ u)) (ht : askText (mk e g) = inBrackets (askText e) m (askText g)) (he : ReadsQ e) (hg : ReadsQ g) : ReadsQ (mk e g) := by
  intro f r hf hr
  have et : askText (mk e g) ++ r = 40 :: (askText e ++ (m ++ (askText g ++ (41 :: r)))) := by
    rw [ht]
    unfold inBrackets
    simp
  have hl : (askText (mk e g)).length = (askText e).length + m.length + (askText g).length + 2 := by
    rw [ht]
    unfold inBrackets
    simp
    omega
  cases f with
  | zero => omega
  | succ f =>
    rw [et, from_pair, he f _ (by omega) (hs _), Option.bind_some, hm, Option.bind_some, hg f (41 :: r) (by omega) (stq_cons _ (by decide)), Option.bind_some]
    show (off [41] ([41] ++ r)).map _ = _
    rw [off_append]
    rfl
theorem rq_pipe {e g : Ask} (he : ReadsQ e) (hg : ReadsQ g) : ReadsQ (.pipe e g) := rq_pair (mk := .pipe) (m := Vapaqa.ascii " | ") (fun u => rfl) (fun u => stq_cons _ (by decide)) rfl he hg
theorem rq_same {e g : Ask} (he : ReadsQ e) (hg : ReadsQ g) : ReadsQ (.op .same e g) := rq_pair (mk := .op .same) (m := Vapaqa.ascii " = ") (fun u => rfl) (fun u => stq_cons _ (by decide)) rfl he hg
theorem rq_less {e g : Ask} (he : ReadsQ e) (hg : ReadsQ g) : ReadsQ (.op .less e g) := rq_pair (mk := .op .less) (m := Vapaqa.ascii " < ") (fun u => rfl) (fun u => stq_cons _ (by decide)) rfl he hg
theorem rq_and {e g : Ask} (he : ReadsQ e) (hg : ReadsQ g) : ReadsQ (.op .and_ e g) := rq_pair (mk := .op .and_) (m := Vapaqa.ascii " and ") (fun u => rfl) (fun u => stq_cons _ (by decide)) rfl he hg
theorem rq_or {e g : Ask} (he : ReadsQ e) (hg : ReadsQ g) : ReadsQ (.op .or_ e g) := rq_pair (mk := .op .or_) (m := Vapaqa.ascii " or ") (fun u => rfl) (fun u => stq_cons _ (by decide)) rfl he hg
theorem lit_ok {v : Tree} (h : isAskIn (.lit v) = true) : LeafOk v := bt h
theorem IsCond.reads {a : Ask} {t : Test} (h : IsCond a t) (ok : isAskIn a = true) : ReadsQ a := by
  induction h with
  | same v => exact rq_same rq_here (rq_lit (lit_ok (bt ok).2))
  | less v => exact rq_less rq_here (rq_lit (lit_ok (bt ok).2))
  | more v => exact rq_less (rq_lit (lit_ok (bt ok).1)) rq_here
  | not_ h ih => exact rq_fn (ih ok)
  | and_ h k i1 i2 => exact rq_and (i1 (bt ok).1) (i2 (bt ok).2)
  | or_ h k i1 i2 => exact rq_or (i1 (bt ok).1) (i2 (bt ok).2)
theorem IsChain.reads {p q : Plan} {e : Ask} (h : IsChain p e q) (ok : isAskIn e = true) : ReadsQ e := by
  induction h with
  | pipe h k i1 i2 => exact rq_pipe (i1 (bt ok).1) (i2 (bt ok).2)
  | here p => exact rq_here
  | deep p h => exact rq_deep
  | where_ p h k => exact rq_fn (k.reads ok)
  | step p h k =>
    rcases way_forms k with ⟨n, rfl, -⟩ | ⟨i, rfl⟩ | ⟨a, b, rfl⟩ | ⟨rfl, -⟩
    · exact rq_field ok
    · exact rq_item ok
    · exact rq_slice (bt ok).1 (bt ok).2
    · exact rq_each
/-- a question that has a plan is read back -/
theorem inner_reads {p q : Plan} {a : Ask} (h : innerPlan p a = some q) (ok : isAskIn a = true) : ReadsQ a := by
  unfold innerPlan at h
  split at h
  · exact rq_fn ((chain_of _ _ _ h).reads ok)
  · rename_i n e
    have hn : n ≤ 60 := of_decide_eq_true (bt ok).1
    exact rq_first (by omega) ((chain_of _ _ _ h).reads (bt ok).2)
  · exact (chain_of _ _ _ h).reads ok
theorem plan_reads {q : Plan} {a : Ask} (h : planOf a = some q) (ok : isAskIn a = true) : ReadsQ a := by
  unfold planOf at h
  split at h
  · exact rq_fn (inner_reads h ok)
  · exact rq_fn (inner_reads h ok)
  · exact inner_reads h ok
theorem askOf_back {q : Plan} {a : Ask} (h : planOf a = some q) (ok : Vapaqa.isAsk a = true) : Vapaqa.askOf (askText a) = some a := by
  have r := plan_reads h (bt ok).1 (2 * (askText a).length + 2) [] (by omega) (.inl rfl)
  rw [List.append_nil] at r
  unfold Vapaqa.askOf
  rw [r, Option.bind_some, if_pos]
  simp [ok]
theorem askOf_sound {t : Text} {a : Ask} (h : Vapaqa.askOf t = some a) : Vapaqa.isAsk a = true ∧ askText a = t := by
  unfold Vapaqa.askOf at h
  obtain ⟨x, hx, h⟩ := Option.bind_eq_some_iff.mp h
  split at h
  · rename_i hc
    simp only [Bool.and_eq_true, beq_iff_eq] at hc
    have := Option.some.inj h
    subst this
    exact hc.2
  · cases h
end TS.Rd
end
section
set_option Elab.async false
set_option linter.all false
/-! The mirror of the question's reader: what it reads is a question's text, with that plan. -/
namespace TS.Rd
open Vapaqf (Head Way Token Test Plan testOf wayOf piped taken innerPlan planOf)
open Vapaqa (Text Name Tree Row Ask off isSmall isDigit isSign isName treeText askText askFrom isAskIn nodes opText fnText inBrackets endText)
/-! ### the small steps -/
theorem bnd {α β : Type} {r : Option α} {f : α → Option β} {y : β} (h : r.bind f = some y) : ∃ x, r = some x ∧ f x = some y := Option.bind_eq_some_iff.mp h
theorem need_inv {w t : Text} {n g : Nat} {p : Plan} {x : Unit × QS} (h : qNeed w ⟨t, n, g, p⟩ = some x) : ∃ r, t = w ++ r ∧ x = ((), ⟨r, n, g, p⟩) := by
  unfold qNeed at h
  obtain ⟨r, hr, e⟩ := Option.map_eq_some_iff.mp h
  exact ⟨r, off_eq hr, e.symm⟩
theorem need_back (w r : Text) (n g : Nat) (p : Plan) : qNeed w ⟨w ++ r, n, g, p⟩ = some ((), ⟨r, n, g, p⟩) := by
  unfold qNeed
  rw [off_append]
  rfl
theorem skips_cases (w t : Text) (n g : Nat) (p : Plan) : (∃ r, t = w ++ r ∧ qSkips w ⟨t, n, g, p⟩ = (true, ⟨r, n, g, p⟩)) ∨ (off w t = none ∧ qSkips w ⟨t, n, g, p⟩ = (false, ⟨t, n, g, p⟩)) := by
  unfold qSkips
  cases h : off w t with
  | none => exact .inr ⟨rfl, rfl⟩
  | some r => exact .inl ⟨r, off_eq h, rfl⟩
theorem skips_yes (w r : Text) (n g : Nat) (p : Plan) : qSkips w ⟨w ++ r, n, g, p⟩ = (true, ⟨r, n, g, p⟩) := by
  unfold qSkips
  rw [off_append]
theorem skips_no {w t : Text} (h : off w t = none) (n g : Nat) (p : Plan) : qSkips w ⟨t, n, g, p⟩ = (false, ⟨t, n, g, p⟩) := by
  unfold qSkips
  rw [show off w (QS.rest ⟨t, n, g, p⟩) = none from h]
theorem node_inv {t : Text} {n g : Nat} {p : Plan} {x : Unit × QS} (h : qNode ⟨t, n, g, p⟩ = some x) : n < 30 ∧ x = ((), ⟨t, n + 1, g, p⟩) := by
  unfold qNode at h
  split at h
  · cases h
  · rename_i hn
    exact ⟨Nat.lt_of_not_le hn, (Option.some.inj h).symm⟩
theorem node_back {t : Text} {n g : Nat} {p : Plan} (h : n < 30) : qNode ⟨t, n, g, p⟩ = some ((), ⟨t, n + 1, g, p⟩) := by
  unfold qNode
  rw [if_neg (Nat.not_le_of_lt h)]
theorem num_inv {hi : Nat} {t : Text} {n g : Nat} {p : Plan} {x : Nat × QS} (h : qNum hi ⟨t, n, g, p⟩ = some x) : ∃ (z : Int) (r : Text), 0 ≤ z ∧ z ≤ hi ∧ t = Vapaqa.integer z ++ r ∧ x = (z.toNat, ⟨r, n, g, p⟩) := by
  unfold qNum at h
  obtain ⟨y, hy, e⟩ := Option.map_eq_some_iff.mp h
  obtain ⟨h1, h2, h3⟩ := rdNumber_sound (z := y.1) (r := y.2) hy
  exact ⟨y.1, y.2, h2, h3, h1, e.symm⟩
theorem num_back {hi : Nat} {z : Int} {r : Text} (n g : Nat) (p : Plan) (h0 : 0 ≤ z) (h1 : z ≤ hi) (hr : r.head?.any isDigit = false) : qNum hi ⟨Vapaqa.integer z ++ r, n, g, p⟩ = some (z.toNat, ⟨r, n, g, p⟩) := by
  unfold qNum
  rw [show rdNumber 0 (hi : Int) (QS.rest ⟨Vapaqa.integer z ++ r, n, g, p⟩) = _ from rdNumber_back h0 h1 hr]
  rfl
theorem key_inv {t : Text} {n g : Nat} {p : Plan} {x : Tree × QS} (h : qKey ⟨t, n, g, p⟩ = some x) : ∃ r, LeafOk x.1 ∧ t = treeText x.1 ++ r ∧ x.2 = ⟨r, n, g, p⟩ := by
  unfold qKey at h
  obtain ⟨y, hy, e⟩ := Option.map_eq_some_iff.mp h
  obtain ⟨h1, h2⟩ := rdLeaf_sound (v := y.1) (r := y.2) hy
  subst e
  exact ⟨y.2, h2, h1, rfl⟩
theorem key_back {v : Tree} {r : Text} (n g : Nat) (p : Plan) (h : LeafOk v) (hr : r.head?.any isDigit = false) : qKey ⟨treeText v ++ r, n, g, p⟩ = some (v, ⟨r, n, g, p⟩) := by
  unfold qKey
  rw [show rdLeaf (QS.rest ⟨treeText v ++ r, n, g, p⟩) = _ from rdLeaf_back h hr]
  rfl
theorem stage_inv {a b : Nat} {t : Text} {n g : Nat} {p : Plan} {x : Unit × QS} (h : qStage a b ⟨t, n, g, p⟩ = some x) : g ≤ a ∧ x = ((), ⟨t, n, b, p⟩) := by
  unfold qStage at h
  split at h
  · cases h
  · rename_i hn
    exact ⟨Nat.le_of_not_lt hn, (Option.some.inj h).symm⟩
theorem stage_back {a b : Nat} {t : Text} {n g : Nat} {p : Plan} (h : g ≤ a) : qStage a b ⟨t, n, g, p⟩ = some ((), ⟨t, n, b, p⟩) := by
  unfold qStage
  rw [if_neg (Nat.not_lt_of_le h)]
theorem step_inv {w : Way} {t : Text} {n g : Nat} {p : Plan} {x : Unit × QS} (h : qStep w ⟨t, n, g, p⟩ = some x) : g = 0 ∧ x = ((), ⟨t, n, 0, { p with steps := p.steps ++ [w] }⟩) := by
  unfold qStep at h
  split at h
  · cases h
  · rename_i hn
    exact ⟨Nat.eq_zero_of_not_pos hn, (Option.some.inj h).symm⟩
theorem step_back (w : Way) (t : Text) (n : Nat) (p : Plan) : qStep w ⟨t, n, 0, p⟩ = some ((), ⟨t, n, 0, { p with steps := p.steps ++ [w] }⟩) := rfl
/-! ### conditions -/
theorem a_same : opText .same = [32, 61, 32] := by decide
theorem a_less : opText .less = [32, 60, 32] := by decide
theorem a_and : opText .and_ = wAnd := by decide
theorem a_or : opText .or_ = wOr := by decide
theorem a_not : fnText .not_ = [110, 111, 116] := by decide
theorem a_where : fnText .where_ = [119, 104, 101, 114, 101] := by decide
theorem a_try : fnText .try_ = [116, 114, 121] := by decide
theorem a_count : fnText .count = [99, 111, 117, 110, 116] := by decide
theorem a_sum : fnText .sum = [115, 117, 109] := by decide
theorem a_first : Vapaqa.ascii "first" = [102, 105, 114, 115, 116] := by decide
theorem a_pipe : Vapaqa.ascii " | " = wPipe := by decide
theorem a_comma : Vapaqa.ascii ", " = [44, 32] := by decide
theorem text_op (o : Vapaqa.Op) (e f : Ask) : askText (.op o e f) = 40 :: (askText e ++ (opText o ++ (askText f ++ [41]))) := rfl
theorem text_fn (k : Vapaqa.Fn) (e : Ask) : askText (.fn k e) = fnText k ++ 40 :: (askText e ++ [41]) := by
  show fnText k ++ (40 :: (askText e ++ ([] ++ ([] ++ [41])))) = _
  simp
theorem text_first (n : Nat) (e : Ask) : askText (.first n e) = wFirst ++ (Vapaqa.decimal n ++ (44 :: 32 :: (askText e ++ [41]))) := by
  show Vapaqa.ascii "first" ++ (40 :: (Vapaqa.decimal n ++ (Vapaqa.ascii ", " ++ (askText e ++ [41])))) = _
  rw [a_first, a_comma]
  rfl
theorem text_pipe (e f : Ask) : askText (.pipe e f) = 40 :: (askText e ++ (wPipe ++ (askText f ++ [41]))) := by
  rw [← a_pipe]
  rfl
theorem lit_in {v : Tree} (h : LeafOk v) : isAskIn (.lit v) = true := Bool.and_eq_true_iff.mpr h
/-- what stands between a condition's brackets -/
def Inner (t : Text) (a : Ask) (r : Text) : Prop := ∀ u, r = 41 :: u → 40 :: t = askText a ++ u
theorem cmp_sound {t : Text} {n g : Nat} {p : Plan} {x : Test × QS} (h : qCmp ⟨t, n, g, p⟩ = some x) : ∃ a r m, IsCond a x.1 ∧ isAskIn a = true ∧ Inner t a r ∧ x.2 = ⟨r, m, g, p⟩ ∧ m + 1 = n + nodes a ∧ m ≤ 30 := by
  unfold qCmp at h
  obtain ⟨a, ha, h⟩ := bnd h
  obtain ⟨h1, rfl⟩ := node_inv ha
  obtain ⟨b, hb, h⟩ := bnd h
  obtain ⟨h2, rfl⟩ := node_inv hb
  rw [Option.bind_some] at h
  rcases skips_cases wSame t (n + 1 + 1) g p with ⟨r, e, hs⟩ | ⟨e, hs⟩
  · rw [hs, if_pos rfl] at h
    obtain ⟨y, hy, h⟩ := bnd h
    obtain ⟨r2, k1, k2, k3⟩ := key_inv hy
    have := Option.some.inj h
    subst this
    refine ⟨_, r2, n + 1 + 1, .same y.1, Bool.and_eq_true_iff.mpr ⟨rfl, lit_in k1⟩, ?_, k3, rfl, by omega⟩
    intro u hu
    rw [e, k2, hu, text_op, a_same]
    show 40 :: (wSame ++ (treeText y.1 ++ 41 :: u)) = (40 :: ([46] ++ ([32, 61, 32] ++ (treeText y.1 ++ [41])))) ++ u
    simp [wSame]
  · rw [hs, if_neg (show ¬ (false = true) by decide), Option.bind_some] at h
    rcases skips_cases wLess t (n + 1 + 1) g p with ⟨r, e, hs⟩ | ⟨e, hs⟩
    · rw [hs, if_pos rfl] at h
      obtain ⟨y, hy, h⟩ := bnd h
      obtain ⟨r2, k1, k2, k3⟩ := key_inv hy
      have := Option.some.inj h
      subst this
      refine ⟨_, r2, n + 1 + 1, .less y.1, Bool.and_eq_true_iff.mpr ⟨rfl, lit_in k1⟩, ?_, k3, rfl, by omega⟩
      intro u hu
      rw [e, k2, hu, text_op, a_less]
      show 40 :: (wLess ++ (treeText y.1 ++ 41 :: u)) = (40 :: ([46] ++ ([32, 60, 32] ++ (treeText y.1 ++ [41])))) ++ u
      simp [wLess]
    · rw [hs, if_neg (show ¬ (false = true) by decide)] at h
      obtain ⟨y, hy, h⟩ := bnd h
      obtain ⟨r2, k1, k2, k3⟩ := key_inv hy
      obtain ⟨z, hz, h⟩ := bnd h
      rw [k3] at hz
      obtain ⟨r3, k4, k5⟩ := need_inv hz
      have := Option.some.inj h
      subst this
      refine ⟨_, r3, n + 1 + 1, .more y.1, Bool.and_eq_true_iff.mpr ⟨lit_in k1, rfl⟩, ?_, by rw [k5], rfl, by omega⟩
      intro u hu
      rw [k2, k4, hu, text_op, a_less]
      show 40 :: (treeText y.1 ++ (wMore ++ 41 :: u)) = (40 :: (treeText y.1 ++ ([32, 60, 32] ++ ([46] ++ [41])))) ++ u
      simp [wMore]
/-- what a reader of conditions gives -/
def CondSound (f : Nat) : Prop := ∀ (t : Text) (n g : Nat) (p : Plan) (x : Test × QS), qCond f ⟨t, n, g, p⟩ = some x → ∃ a r m, IsCond a x.1 ∧ isAskIn a = true ∧ t = askText a ++ r ∧ x.2 = ⟨r, m, g, p⟩ ∧ m = n + nodes a ∧ m ≤ 30
theorem pair_sound {f : Nat} (H : CondSound f) {t : Text} {n g : Nat} {p : Plan} {x : Test × QS} (h : qPair (qCond f) ⟨t, n, g, p⟩ = some x) : ∃ a r m, IsCond a x.1 ∧ isAskIn a = true ∧ Inner t a r ∧ x.2 = ⟨r, m, g, p⟩ ∧ m + 1 = n + nodes a ∧ m ≤ 30 := by
  unfold qPair at h
  obtain ⟨y, hy, h⟩ := bnd h
  obtain ⟨a, r, m, i1, i2, i3, i4, i5, i6⟩ := H _ _ _ _ _ hy
  rw [i4, Option.bind_some] at h
  rcases skips_cases wAnd r m g p with ⟨r2, e, hs⟩ | ⟨e, hs⟩
  · rw [hs, if_pos rfl] at h
    obtain ⟨z, hz, h⟩ := bnd h
    obtain ⟨b, r3, m2, j1, j2, j3, j4, j5, j6⟩ := H _ _ _ _ _ hz
    have := Option.some.inj h
    subst this
    refine ⟨_, r3, m2, .and_ i1 j1, Bool.and_eq_true_iff.mpr ⟨i2, j2⟩, ?_, j4, ?_, j6⟩
    · intro u hu
      rw [i3, e, j3, hu, text_op, a_and]
      simp
    · show m2 + 1 = n + (1 + nodes a + nodes b)
      omega
  · rw [hs, if_neg (show ¬ (false = true) by decide)] at h
    obtain ⟨v, hv, h⟩ := bnd h
    obtain ⟨r2, e2, rfl⟩ := need_inv hv
    obtain ⟨z, hz, h⟩ := bnd h
    obtain ⟨b, r3, m2, j1, j2, j3, j4, j5, j6⟩ := H _ _ _ _ _ hz
    have := Option.some.inj h
    subst this
    refine ⟨_, r3, m2, .or_ i1 j1, Bool.and_eq_true_iff.mpr ⟨i2, j2⟩, ?_, j4, ?_, j6⟩
    · intro u hu
      rw [i3, e2, j3, hu, text_op, a_or]
      simp
    · show m2 + 1 = n + (1 + nodes a + nodes b)
      omega
theorem cond_sound : ∀ f : Nat, CondSound f
  | 0, _, _, _, _, _, h => by cases h
  | f + 1, t, n, g, p, x, h => by
    unfold qCond at h
    obtain ⟨a, ha, h⟩ := bnd h
    obtain ⟨h1, rfl⟩ := node_inv ha
    rw [Option.bind_some] at h
    rcases skips_cases wNot t (n + 1) g p with ⟨r, e, hs⟩ | ⟨e, hs⟩
    · rw [hs, if_pos rfl] at h
      obtain ⟨y, hy, h⟩ := bnd h
      obtain ⟨b, r2, m, i1, i2, i3, i4, i5, i6⟩ := cond_sound f _ _ _ _ _ hy
      obtain ⟨z, hz, h⟩ := bnd h
      rw [i4] at hz
      obtain ⟨r3, e3, k5⟩ := need_inv hz
      have := Option.some.inj h
      subst this
      refine ⟨_, r3, m, .not_ i1, i2, ?_, by rw [k5], ?_, i6⟩
      · rw [e, i3, e3, text_fn, a_not]
        simp [wNot]
      · show m = n + (1 + nodes b)
        omega
    · rw [hs, if_neg (show ¬ (false = true) by decide)] at h
      obtain ⟨v, hv, h⟩ := bnd h
      obtain ⟨r2, e2, rfl⟩ := need_inv hv
      obtain ⟨y, hy, h⟩ := bnd h
      have hy2 : ∃ a r m, IsCond a y.1 ∧ isAskIn a = true ∧ Inner r2 a r ∧ y.2 = ⟨r, m, g, p⟩ ∧ m + 1 = n + 1 + nodes a ∧ m ≤ 30 := by
        split at hy
        · exact pair_sound (cond_sound f) hy
        · exact cmp_sound hy
      obtain ⟨b, r3, m, i1, i2, i3, i4, i5, i6⟩ := hy2
      obtain ⟨z, hz, h⟩ := bnd h
      rw [i4] at hz
      obtain ⟨r4, e4, k5⟩ := need_inv hz
      have := Option.some.inj h
      subst this
      refine ⟨b, r4, m, i1, i2, ?_, by rw [k5], by omega, i6⟩
      rw [e2]
      exact i3 r4 e4
/-! ### brackets -/
theorem far_of {z : Int} (h0 : 0 ≤ z) (h1 : z ≤ 100) : Vapaqa.isFar z = true := by
  unfold Vapaqa.isFar
  rw [decide_eq_true_eq]
  show z.natAbs ≤ 100
  omega
theorem nat_of {z : Int} (h : 0 ≤ z) : Vapaqf.natural z = some z.toNat := by
  unfold Vapaqf.natural
  rw [if_neg (by omega)]
theorem high_sound {low : Nat} {t : Text} {n g : Nat} {p : Plan} {x : Way × QS} (h : qHigh low ⟨t, n, g, p⟩ = some x) : ∃ (b : Option Int) (r : Text), b.all Vapaqa.isFar = true ∧ t = 58 :: (endText b ++ (93 :: r)) ∧ x.2 = ⟨r, n, g, p⟩ ∧ (match b with
    | none => x.1 = .items low none
    | some z => 0 ≤ z ∧ x.1 = .items low (some z.toNat)) := by
  unfold qHigh at h
  obtain ⟨a, ha, h⟩ := bnd h
  obtain ⟨r, e, rfl⟩ := need_inv ha
  obtain ⟨y, hy, h⟩ := bnd h
  split at hy
  · have := Option.some.inj hy
    subst this
    obtain ⟨z, hz, h⟩ := bnd h
    obtain ⟨r2, e2, rfl⟩ := need_inv hz
    have := Option.some.inj h
    subst this
    exact ⟨none, r2, rfl, by rw [e, e2]; rfl, rfl, rfl⟩
  · obtain ⟨m, hm, hy⟩ := bnd hy
    obtain ⟨z, r2, h0, h1, e2, rfl⟩ := num_inv hm
    have := Option.some.inj hy
    subst this
    obtain ⟨v, hv, h⟩ := bnd h
    obtain ⟨r3, e3, rfl⟩ := need_inv hv
    have := Option.some.inj h
    subst this
    refine ⟨some z, r3, far_of h0 (by simpa using h1), ?_, rfl, h0, rfl⟩
    rw [e, e2, e3]
    rfl
theorem brackets_sound {t : Text} {n g : Nat} {p : Plan} {x : Way × QS} (h : qBrackets ⟨t, n, g, p⟩ = some x) : ∃ e r, wayOf e = some x.1 ∧ isAskIn e = true ∧ 46 :: 91 :: t = askText e ++ r ∧ nodes e = 1 ∧ x.2 = ⟨r, n, g, p⟩ := by
  unfold qBrackets at h
  rw [Option.bind_some] at h
  rcases skips_cases [93] t n g p with ⟨r, e, hs⟩ | ⟨e, hs⟩
  · rw [hs, if_pos rfl] at h
    have := Option.some.inj h
    subst this
    exact ⟨.each, r, rfl, rfl, by rw [e]; rfl, rfl, rfl⟩
  · rw [hs, if_neg (show ¬ (false = true) by decide)] at h
    split at h
    · obtain ⟨b, r, k1, k2, k3, k4⟩ := high_sound h
      refine ⟨.slice none b, r, ?_, Bool.and_eq_true_iff.mpr ⟨rfl, k1⟩, ?_, rfl, k3⟩
      · cases b with
        | none => rw [k4]; rfl
        | some z =>
          rw [k4.2]
          show (Vapaqf.natural z).map _ = _
          rw [nat_of k4.1]
          rfl
      · rw [k2]
        show _ = (46 :: 91 :: ([] ++ (58 :: (endText b ++ [93])))) ++ r
        simp
    · obtain ⟨y, hy, h⟩ := bnd h
      obtain ⟨z, r, h0, h1, e1, rfl⟩ := num_inv hy
      have hf : Vapaqa.isFar z = true := far_of h0 (by simpa using h1)
      rw [Option.bind_some] at h
      rcases skips_cases [93] r n g p with ⟨r2, e2, hs2⟩ | ⟨e2, hs2⟩
      · rw [hs2, if_pos rfl] at h
        have := Option.some.inj h
        subst this
        refine ⟨.item z, r2, ?_, hf, ?_, rfl, rfl⟩
        · show (Vapaqf.natural z).map _ = _
          rw [nat_of h0]
          rfl
        · rw [e1, e2]
          show _ = (46 :: 91 :: (Vapaqa.integer z ++ [93])) ++ r2
          simp
      · rw [hs2, if_neg (show ¬ (false = true) by decide)] at h
        obtain ⟨b, r3, k1, k2, k3, k4⟩ := high_sound h
        refine ⟨.slice (some z) b, r3, ?_, Bool.and_eq_true_iff.mpr ⟨hf, k1⟩, ?_, rfl, k3⟩
        · cases b with
          | none =>
            rw [k4]
            show (Vapaqf.natural z).map _ = _
            rw [nat_of h0]
            rfl
          | some y =>
            rw [k4.2]
            show (Vapaqf.natural z).bind _ = _
            rw [nat_of h0, Option.bind_some, nat_of k4.1]
            rfl
        · rw [e1, k2]
          show _ = (46 :: 91 :: (Vapaqa.integer z ++ (58 :: (endText b ++ [93])))) ++ r3
          simp
/-! ### links and chains -/
def ChainSound (f : Nat) : Prop := ∀ (t : Text) (n g : Nat) (p : Plan) (x : Unit × QS), g = stageOf p → qChain f ⟨t, n, g, p⟩ = some x → ∃ e r m q, IsChain p e q ∧ isAskIn e = true ∧ t = askText e ++ r ∧ x.2 = ⟨r, m, stageOf q, q⟩ ∧ m = n + nodes e ∧ m ≤ 30
theorem stage_test {p : Plan} (h : stageOf p ≤ 1) : p.test.isSome = false := by
  unfold stageOf at h
  cases ht : p.test.isSome with
  | false => rfl
  | true => rw [ht, if_pos rfl] at h; omega
theorem stage_zero {p : Plan} : stageOf p = 0 ↔ (p.deep || p.test.isSome) = false := by
  unfold stageOf
  cases p.test.isSome <;> cases p.deep <;> decide
theorem stage_steps (p : Plan) (w : Way) : stageOf { p with steps := p.steps ++ [w] } = stageOf p := rfl
theorem link_sound {t : Text} {n g : Nat} {p : Plan} {x : Unit × QS} (hg : g = stageOf p) (hn : n ≤ 30) (h : qLink ⟨t, n, g, p⟩ = some x) : ∃ e r m q, IsChain p e q ∧ isAskIn e = true ∧ t = askText e ++ r ∧ x.2 = ⟨r, m, stageOf q, q⟩ ∧ m + 1 = n + nodes e ∧ m ≤ 30 := by
  have hstep : ∀ {e : Ask} {w : Way} {r : Text} {x : Unit × QS}, wayOf e = some w → isAskIn e = true → t = askText e ++ r → nodes e = 1 → qStep w ⟨r, n, g, p⟩ = some x → ∃ e r m q, IsChain p e q ∧ isAskIn e = true ∧ t = askText e ++ r ∧ x.2 = ⟨r, m, stageOf q, q⟩ ∧ m + 1 = n + nodes e ∧ m ≤ 30 := by
    intro e w r x k1 k2 k3 k4 hx
    obtain ⟨g0, rfl⟩ := step_inv hx
    have hz : (p.deep || p.test.isSome) = false := stage_zero.mp (by omega)
    refine ⟨e, r, n, _, .step p hz k1, k2, k3, ?_, by omega, hn⟩
    show (⟨r, n, 0, _⟩ : QS) = _
    rw [stage_steps, ← hg, g0]
  unfold qLink at h
  rw [Option.bind_some] at h
  rcases skips_cases wWhere t n g p with ⟨r, e, hs⟩ | ⟨e, hs⟩
  · rw [hs, if_pos rfl] at h
    obtain ⟨a, ha, h⟩ := bnd h
    obtain ⟨g1, rfl⟩ := stage_inv ha
    obtain ⟨c, hc, h⟩ := bnd h
    obtain ⟨b, r2, m, i1, i2, i3, i4, i5, i6⟩ := cond_sound _ _ _ _ _ _ hc
    rw [i4] at h
    have h2 : qNeed [41] ⟨r2, m, 2, { p with test := some c.1 }⟩ = some x := h
    obtain ⟨r3, e3, rfl⟩ := need_inv h2
    refine ⟨_, r3, m, _, .where_ p (stage_test (by omega)) i1, i2, ?_, ?_, ?_, i6⟩
    · rw [e, i3, e3, text_fn, a_where]
      simp [wWhere]
    · rfl
    · show m + 1 = n + (1 + nodes b)
      omega
  rw [hs, if_neg (show ¬ (false = true) by decide), Option.bind_some] at h
  rcases skips_cases [46, 46] t n g p with ⟨r, e, hs⟩ | ⟨e, hs⟩
  · rw [hs, if_pos rfl] at h
    obtain ⟨a, ha, h⟩ := bnd h
    obtain ⟨g1, rfl⟩ := stage_inv ha
    have := Option.some.inj h
    subst this
    have hz : (p.deep || p.test.isSome) = false := stage_zero.mp (by omega)
    have ht : p.test.isSome = false := (Bool.or_eq_false_iff.mp hz).2
    refine ⟨_, r, n, _, .deep p hz, rfl, e, ?_, rfl, hn⟩
    show (⟨r, n, 1, { p with deep := true }⟩ : QS) = ⟨r, n, stageOf { p with deep := true }, { p with deep := true }⟩
    have : stageOf { p with deep := true } = 1 := by
      unfold stageOf
      rw [show ({ p with deep := true } : Plan).test.isSome = false from ht]
      rfl
    rw [this]
  rw [hs, if_neg (show ¬ (false = true) by decide), Option.bind_some] at h
  rcases skips_cases [46, 91] t n g p with ⟨r, e, hs⟩ | ⟨e, hs⟩
  · rw [hs, if_pos rfl] at h
    obtain ⟨wy, hw, h⟩ := bnd h
    obtain ⟨a, r2, k1, k2, k3, k4, k5⟩ := brackets_sound hw
    rw [k5] at h
    exact hstep k1 k2 (by rw [e]; exact k3) k4 h
  rw [hs, if_neg (show ¬ (false = true) by decide)] at h
  obtain ⟨a, ha, h⟩ := bnd h
  obtain ⟨r, e, rfl⟩ := need_inv ha
  split at h
  · obtain ⟨y, hy, h⟩ := bnd h
    unfold qName at hy
    obtain ⟨z, hz, hy⟩ := bnd hy
    have := Option.some.inj hy
    subst this
    obtain ⟨k1, k2⟩ := rdName_sound (n := z.1) (r := z.2) hz
    have k1' : r = z.1 ++ z.2 := k1
    refine hstep (e := .field z.1) rfl k2 ?_ rfl h
    rw [e, k1']
    rfl
  · have := Option.some.inj h
    subst this
    exact ⟨.here, r, n, p, .here p, rfl, e, by rw [hg], rfl, hn⟩
theorem chain_sound : ∀ f : Nat, ChainSound f
  | 0, _, _, _, _, _, _, h => by cases h
  | f + 1, t, n, g, p, x, hg, h => by
    unfold qChain at h
    obtain ⟨a, ha, h⟩ := bnd h
    obtain ⟨h1, rfl⟩ := node_inv ha
    rw [Option.bind_some] at h
    rcases skips_cases [40] t (n + 1) g p with ⟨r, e, hs⟩ | ⟨e, hs⟩
    · rw [hs, if_pos rfl] at h
      obtain ⟨b, hb, h⟩ := bnd h
      obtain ⟨e1, r1, m1, q1, i1, i2, i3, i4, i5, i6⟩ := chain_sound f _ _ _ _ _ hg hb
      obtain ⟨c, hc, h⟩ := bnd h
      rw [i4] at hc
      obtain ⟨r2, e2, rfl⟩ := need_inv hc
      obtain ⟨d, hd, h⟩ := bnd h
      obtain ⟨e3, r3, m3, q3, j1, j2, j3, j4, j5, j6⟩ := chain_sound f _ _ _ _ _ rfl hd
      rw [j4] at h
      obtain ⟨r4, e4, rfl⟩ := need_inv h
      refine ⟨.pipe e1 e3, r4, m3, q3, .pipe i1 j1, Bool.and_eq_true_iff.mpr ⟨i2, j2⟩, ?_, rfl, ?_, j6⟩
      · rw [e, i3, e2, j3, e4, text_pipe]
        simp
      · show m3 = n + (1 + nodes e1 + nodes e3)
        omega
    · rw [hs, if_neg (show ¬ (false = true) by decide)] at h
      obtain ⟨e1, r1, m1, q1, i1, i2, i3, i4, i5, i6⟩ := link_sound hg (by omega) h
      exact ⟨e1, r1, m1, q1, i1, i2, i3, i4, by omega, i6⟩
/-! ### the whole -/
theorem told_sound {t : Text} {n g : Nat} {p : Plan} {x : Unit × QS} (hg : g = stageOf p) (h : qTold ⟨t, n, g, p⟩ = some x) : ∃ e r m q, innerPlan p e = some q ∧ isAskIn e = true ∧ t = askText e ++ r ∧ x.2 = ⟨r, m, stageOf q, q⟩ ∧ m = n + nodes e ∧ m ≤ 30 := by
  unfold qTold at h
  rw [Option.bind_some] at h
  rcases skips_cases wTry t n g p with ⟨r, e, hs⟩ | ⟨e, hs⟩
  · rw [hs, if_pos rfl] at h
    obtain ⟨a, ha, h⟩ := bnd h
    obtain ⟨h1, rfl⟩ := node_inv ha
    obtain ⟨b, hb, h⟩ := bnd h
    have hg2 : g = stageOf { p with tried := true } := hg
    have hb2 : qChain 32 ⟨r, n + 1, g, { p with tried := true }⟩ = some b := hb
    obtain ⟨e1, r1, m1, q1, i1, i2, i3, i4, i5, i6⟩ := chain_sound _ _ _ _ _ _ hg2 hb2
    rw [i4] at h
    obtain ⟨r2, e2, rfl⟩ := need_inv h
    refine ⟨.fn .try_ e1, r2, m1, q1, i1.taken, i2, ?_, rfl, ?_, i6⟩
    · rw [e, i3, e2, text_fn, a_try]
      simp [wTry]
    · show m1 = n + (1 + nodes e1)
      omega
  rw [hs, if_neg (show ¬ (false = true) by decide), Option.bind_some] at h
  rcases skips_cases wFirst t n g p with ⟨r, e, hs⟩ | ⟨e, hs⟩
  · rw [hs, if_pos rfl] at h
    obtain ⟨a, ha, h⟩ := bnd h
    obtain ⟨h1, rfl⟩ := node_inv ha
    obtain ⟨y, hy, h⟩ := bnd h
    obtain ⟨z, r2, h0, h60, e2, rfl⟩ := num_inv hy
    obtain ⟨c, hc, h⟩ := bnd h
    have hc2 : qNeed [44, 32] ⟨r2, n + 1, g, { p with limit := some z.toNat }⟩ = some c := hc
    obtain ⟨r3, e3, rfl⟩ := need_inv hc2
    obtain ⟨d, hd, h⟩ := bnd h
    have hg2 : g = stageOf { p with limit := some z.toNat } := hg
    obtain ⟨e1, r1, m1, q1, i1, i2, i3, i4, i5, i6⟩ := chain_sound _ _ _ _ _ _ hg2 hd
    rw [i4] at h
    obtain ⟨r4, e4, rfl⟩ := need_inv h
    refine ⟨.first z.toNat e1, r4, m1, q1, i1.taken, ?_, ?_, rfl, ?_, i6⟩
    · refine Bool.and_eq_true_iff.mpr ⟨decide_eq_true ?_, i2⟩
      show z.toNat ≤ 60
      have : z ≤ 60 := by simpa using h60
      omega
    · have ez : Vapaqa.integer z = Vapaqa.decimal z.toNat := by
        unfold Vapaqa.integer
        rw [if_neg (by omega)]
      rw [e, e2, e3, i3, e4, text_first, ez]
      simp
    · show m1 = n + (1 + nodes e1)
      omega
  rw [hs, if_neg (show ¬ (false = true) by decide)] at h
  obtain ⟨e1, r1, m1, q1, i1, i2, i3, i4, i5, i6⟩ := chain_sound _ _ _ _ _ _ hg h
  exact ⟨e1, r1, m1, q1, i1.inner, i2, i3, i4, i5, i6⟩
theorem inner_forms {p q : Plan} {e : Ask} (h : innerPlan p e = some q) : (∀ e', e ≠ .fn .count e') ∧ ∀ e', e ≠ .fn .sum e' := by
  unfold innerPlan at h
  split at h
  · exact ⟨fun _ z => (by cases z), fun _ z => (by cases z)⟩
  · exact ⟨fun _ z => (by cases z), fun _ z => (by cases z)⟩
  · exact ⟨(chain_of _ _ _ h).forms.2.1, (chain_of _ _ _ h).forms.2.2.1⟩
theorem planAt_inner {q : Plan} {e : Ask} (h : innerPlan (planAt 0) e = some q) : planOf e = some q := by
  obtain ⟨h1, h2⟩ := inner_forms h
  unfold planOf
  split
  · exact absurd rfl (h1 _)
  · exact absurd rfl (h2 _)
  · exact h
theorem rest_sound {t : Text} {n g : Nat} {p : Plan} {x : Unit × QS} (hg : g = stageOf p) (h : qRest ⟨t, n, g, p⟩ = some x) : ∃ e q, innerPlan p e = some q ∧ isAskIn e = true ∧ x.2.plan = q ∧ (p.gather = 0 → t = askText e ∧ n + nodes e ≤ 30) ∧ (p.gather ≠ 0 → t = askText e ++ [41] ∧ n + 1 + nodes e ≤ 30) := by
  unfold qRest at h
  obtain ⟨d, hd, h⟩ := bnd h
  split at h
  · rename_i hr
    have := Option.some.inj h
    subst this
    split at hd
    · rename_i g0
      have g0' : p.gather = 0 := g0
      obtain ⟨e1, r1, m1, q1, i1, i2, i3, i4, i5, i6⟩ := told_sound hg hd
      rw [i4] at hr
      have hr' : r1 = [] := hr
      exact ⟨e1, q1, i1, i2, by rw [i4], fun _ => ⟨by rw [i3, hr', List.append_nil], by omega⟩, fun z => absurd g0' z⟩
    · rename_i g0
      have g0' : p.gather ≠ 0 := g0
      obtain ⟨b, hb, hd⟩ := bnd hd
      obtain ⟨h1, rfl⟩ := node_inv hb
      obtain ⟨c, hc, hd⟩ := bnd hd
      obtain ⟨e1, r1, m1, q1, i1, i2, i3, i4, i5, i6⟩ := told_sound hg hc
      rw [i4] at hd
      obtain ⟨r2, e2, rfl⟩ := need_inv hd
      have hr' : r2 = [] := hr
      exact ⟨e1, q1, i1, i2, rfl, fun z => absurd z g0', fun _ => ⟨by rw [i3, e2, hr']; rfl, by omega⟩⟩
  · cases h
theorem isAsk_of {a : Ask} (h : isAskIn a = true) (hn : nodes a ≤ 30) : Vapaqa.isAsk a = true := Bool.and_eq_true_iff.mpr ⟨h, decide_eq_true hn⟩
theorem quest_sound {t : Text} {q : Plan} (h : questOf t = some q) : ∃ a, Vapaqa.isAsk a = true ∧ askText a = t ∧ planOf a = some q := by
  unfold questOf at h
  obtain ⟨x, hx, rfl⟩ := Option.map_eq_some_iff.mp h
  rw [qWhole_eq, Option.bind_some] at hx
  rcases skips_cases wCount t 0 0 (planAt 0) with ⟨r, e, hs⟩ | ⟨e, hs⟩
  · rw [hs, if_pos rfl] at hx
    have hx2 : qRest ⟨r, 0, 0, planAt 1⟩ = some x := hx
    obtain ⟨e1, q1, i1, i2, i3, -, i5⟩ := rest_sound rfl hx2
    obtain ⟨j1, j2⟩ := i5 (by decide)
    refine ⟨.fn .count e1, isAsk_of i2 (by show 1 + nodes e1 ≤ 30; omega), ?_, ?_⟩
    · rw [e, j1, text_fn, a_count]
      simp [wCount]
    · rw [i3]
      exact i1
  rw [hs, if_neg (show ¬ (false = true) by decide), Option.bind_some] at hx
  rcases skips_cases wSum t 0 0 (planAt 0) with ⟨r, e, hs⟩ | ⟨e, hs⟩
  · rw [hs, if_pos rfl] at hx
    have hx2 : qRest ⟨r, 0, 0, planAt 2⟩ = some x := hx
    obtain ⟨e1, q1, i1, i2, i3, -, i5⟩ := rest_sound rfl hx2
    obtain ⟨j1, j2⟩ := i5 (by decide)
    refine ⟨.fn .sum e1, isAsk_of i2 (by show 1 + nodes e1 ≤ 30; omega), ?_, ?_⟩
    · rw [e, j1, text_fn, a_sum]
      simp [wSum]
    · rw [i3]
      exact i1
  rw [hs, if_neg (show ¬ (false = true) by decide)] at hx
  obtain ⟨e1, q1, i1, i2, i3, i4, -⟩ := rest_sound rfl hx
  obtain ⟨j1, j2⟩ := i4 rfl
  refine ⟨e1, isAsk_of i2 (by omega), j1.symm, ?_⟩
  rw [i3]
  exact planAt_inner i1
end TS.Rd
end
section
set_option Elab.async false
set_option linter.all false
/-! The mirror of the question's reader: each question's text that has a plan is read, with that plan. -/
namespace TS.Rd
open Vapaqf (Head Way Token Test Plan testOf wayOf piped taken innerPlan planOf)
open Vapaqa (Text Name Tree Row Ask off isSmall isDigit isSign isName treeText askText askFrom isAskIn nodes opText fnText inBrackets endText)
theorem leaf_no {v : Tree} (h : LeafOk v) (r : Text) : off wSame (treeText v ++ r) = none ∧ off wLess (treeText v ++ r) = none ∧ ([40] : Text).isPrefixOf (treeText v ++ r) = false ∧ wNot.isPrefixOf (treeText v ++ r) = false := by
  obtain ⟨b, s, hb, h1, h2, h3, h4, h5, -⟩ := leaf_first h
  have e1 : off wSame (treeText v ++ r) = none := by rw [hb]; exact off_head h3
  have e2 : off wLess (treeText v ++ r) = none := by rw [hb]; exact off_head h3
  have e3 : ([40] : Text).isPrefixOf (treeText v ++ r) = false := by rw [hb]; simp [List.isPrefixOf, Ne.symm h1]
  refine ⟨e1, e2, e3, ?_⟩
  rcases leaf_cases h with rfl | ⟨b, rfl⟩ | ⟨z, rfl, -⟩ | ⟨u, rfl, -⟩
  · rw [treeText_null]; rfl
  · rw [treeText_bool]; cases b <;> rfl
  · obtain ⟨c, w, hc, hd⟩ := integer_head z
    have : c ≠ 110 := by
      rcases hd with rfl | hd
      · decide
      · have h2 := isDigit_iff.mp hd
        rintro rfl
        revert h2
        decide
    rw [treeText_num, hc]
    simp [wNot, List.isPrefixOf, Ne.symm this]
  · rw [treeText_text, quoted_eq]
    rfl
theorem cmp_same {v : Tree} {r : Text} {n g : Nat} {p : Plan} (h : LeafOk v) (hr : r.head?.any isDigit = false) (hn : n + 2 ≤ 30) : qCmp ⟨wSame ++ (treeText v ++ r), n, g, p⟩ = some (.same v, ⟨r, n + 2, g, p⟩) := by
  unfold qCmp
  rw [node_back (by omega), Option.bind_some]
  show (qNode ⟨wSame ++ (treeText v ++ r), n + 1, g, p⟩).bind _ = _
  rw [node_back (by omega), Option.bind_some, Option.bind_some]
  show (if (qSkips wSame ⟨wSame ++ (treeText v ++ r), n + 1 + 1, g, p⟩).1 = true then (qKey (qSkips wSame ⟨wSame ++ (treeText v ++ r), n + 1 + 1, g, p⟩).2).bind fun y => some (Test.same y.1, y.2) else _) = _
  rw [skips_yes, if_pos rfl, key_back _ _ _ h hr]
  rfl
theorem cmp_less {v : Tree} {r : Text} {n g : Nat} {p : Plan} (h : LeafOk v) (hr : r.head?.any isDigit = false) (hn : n + 2 ≤ 30) : qCmp ⟨wLess ++ (treeText v ++ r), n, g, p⟩ = some (.less v, ⟨r, n + 2, g, p⟩) := by
  unfold qCmp
  rw [node_back (by omega), Option.bind_some]
  show (qNode ⟨wLess ++ (treeText v ++ r), n + 1, g, p⟩).bind _ = _
  rw [node_back (by omega), Option.bind_some, Option.bind_some]
  have e : off wSame (wLess ++ (treeText v ++ r)) = none := rfl
  rw [skips_no e, if_neg (show ¬ (false = true) by decide), Option.bind_some, skips_yes, if_pos rfl, key_back _ _ _ h hr]
  rfl
theorem cmp_more {v : Tree} {r : Text} {n g : Nat} {p : Plan} (h : LeafOk v) (hn : n + 2 ≤ 30) : qCmp ⟨treeText v ++ (wMore ++ r), n, g, p⟩ = some (.more v, ⟨r, n + 2, g, p⟩) := by
  obtain ⟨e1, e2, -⟩ := leaf_no h (wMore ++ r)
  unfold qCmp
  rw [node_back (by omega), Option.bind_some]
  show (qNode ⟨treeText v ++ (wMore ++ r), n + 1, g, p⟩).bind _ = _
  rw [node_back (by omega), Option.bind_some, Option.bind_some]
  rw [skips_no e1, if_neg (show ¬ (false = true) by decide), Option.bind_some, skips_no e2, if_neg (show ¬ (false = true) by decide), key_back _ _ _ h rfl, Option.bind_some, need_back]
  rfl
/-- a condition within brackets -/
theorem paren_back {f : Nat} {T r : Text} {n m g : Nat} {p : Plan} {t : Test} (b : Bool) (hb : (([40] : Text).isPrefixOf (T ++ 41 :: r) || wNot.isPrefixOf (T ++ 41 :: r)) = b) (hn : n < 30)
    (hi : (if b = true then qPair (qCond f) ⟨T ++ 41 :: r, n + 1, g, p⟩ else qCmp ⟨T ++ 41 :: r, n + 1, g, p⟩) = some (t, ⟨41 :: r, m, g, p⟩)) : qCond (f + 1) ⟨40 :: (T ++ 41 :: r), n, g, p⟩ = some (t, ⟨r, m, g, p⟩) := by
  unfold qCond
  rw [node_back hn, Option.bind_some, Option.bind_some]
  have e : off wNot (40 :: (T ++ 41 :: r)) = none := off_head (by decide)
  rw [skips_no e, if_neg (show ¬ (false = true) by decide)]
  show (qNeed [40] ⟨[40] ++ (T ++ 41 :: r), n + 1, g, p⟩).bind _ = _
  rw [need_back, Option.bind_some]
  show (if (([40] : Text).isPrefixOf (T ++ 41 :: r) || wNot.isPrefixOf (T ++ 41 :: r)) = true then qPair (qCond f) ⟨T ++ 41 :: r, n + 1, g, p⟩ else qCmp ⟨T ++ 41 :: r, n + 1, g, p⟩).bind _ = _
  rw [hb, hi, Option.bind_some]
  show (qNeed [41] ⟨[41] ++ r, m, g, p⟩).bind _ = _
  rw [need_back, Option.bind_some]
theorem nodes_pos (a : Ask) : 1 ≤ nodes a := by
  cases a <;> simp [nodes] <;> omega
theorem cond_open {e : Ask} {t : Test} (h : IsCond e t) (r : Text) : (([40] : Text).isPrefixOf (askText e ++ r) || wNot.isPrefixOf (askText e ++ r)) = true := by
  cases h with
  | not_ h =>
    rw [text_fn, a_not]
    rfl
  | _ => rw [text_op]; rfl
def CondBack (a : Ask) (t : Test) : Prop := ∀ (f n g : Nat) (p : Plan) (r : Text), nodes a ≤ f → n + nodes a ≤ 30 → qCond f ⟨askText a ++ r, n, g, p⟩ = some (t, ⟨r, n + nodes a, g, p⟩)
theorem cond_back {a : Ask} {t : Test} (h : IsCond a t) (ok : isAskIn a = true) : CondBack a t := by
  induction h with
  | same v =>
    intro f n g p r hf hn
    have hv := lit_ok (bt ok).2
    have hk : nodes (.op .same .here (.lit v)) = 3 := rfl
    rw [hk] at hf hn
    cases f with
    | zero => omega
    | succ f =>
      have et : askText (.op .same .here (.lit v)) ++ r = 40 :: ((wSame ++ treeText v) ++ 41 :: r) := by
        rw [text_op, a_same]
        show (40 :: ([46] ++ ([32, 61, 32] ++ (treeText v ++ [41])))) ++ r = _
        simp [wSame]
      rw [et]
      refine paren_back false rfl (by omega) ?_
      rw [if_neg (by decide), List.append_assoc]
      exact cmp_same hv rfl (by omega)
  | less v =>
    intro f n g p r hf hn
    have hv := lit_ok (bt ok).2
    have hk : nodes (.op .less .here (.lit v)) = 3 := rfl
    rw [hk] at hf hn
    cases f with
    | zero => omega
    | succ f =>
      have et : askText (.op .less .here (.lit v)) ++ r = 40 :: ((wLess ++ treeText v) ++ 41 :: r) := by
        rw [text_op, a_less]
        show (40 :: ([46] ++ ([32, 60, 32] ++ (treeText v ++ [41])))) ++ r = _
        simp [wLess]
      rw [et]
      refine paren_back false rfl (by omega) ?_
      rw [if_neg (by decide), List.append_assoc]
      exact cmp_less hv rfl (by omega)
  | more v =>
    intro f n g p r hf hn
    have hv := lit_ok (bt ok).1
    have hk : nodes (.op .less (.lit v) .here) = 3 := rfl
    rw [hk] at hf hn
    cases f with
    | zero => omega
    | succ f =>
      have et : askText (.op .less (.lit v) .here) ++ r = 40 :: ((treeText v ++ wMore) ++ 41 :: r) := by
        rw [text_op, a_less]
        show (40 :: (treeText v ++ ([32, 60, 32] ++ ([46] ++ [41])))) ++ r = _
        simp [wMore]
      rw [et]
      obtain ⟨-, -, e3, e4⟩ := leaf_no hv (wMore ++ 41 :: r)
      refine paren_back false (by rw [List.append_assoc, e3, e4]; rfl) (by omega) ?_
      rw [if_neg (by decide), List.append_assoc]
      exact cmp_more hv (by omega)
  | not_ h ih =>
    rename_i e t
    intro f n g p r hf hn
    have hk : nodes (.fn .not_ e) = 1 + nodes e := rfl
    rw [hk] at hf hn
    cases f with
    | zero => omega
    | succ f =>
      have et : askText (.fn .not_ e) ++ r = wNot ++ (askText e ++ 41 :: r) := by
        rw [text_fn, a_not]
        simp [wNot]
      rw [et]
      unfold qCond
      rw [node_back (by omega), Option.bind_some, Option.bind_some, skips_yes, if_pos rfl]
      rw [ih ok f (n + 1) g p (41 :: r) (by omega) (by omega), Option.bind_some]
      show (qNeed [41] ⟨[41] ++ r, _, g, p⟩).bind _ = _
      rw [need_back, Option.bind_some, hk, show n + (1 + nodes e) = n + 1 + nodes e by omega]
  | and_ h k i1 i2 =>
    rename_i e b t u
    intro f n g p r hf hn
    have hk : nodes (.op .and_ e b) = 1 + nodes e + nodes b := rfl
    rw [hk] at hf hn
    have pe := nodes_pos e
    have pb := nodes_pos b
    cases f with
    | zero => omega
    | succ f =>
      have et : askText (.op .and_ e b) ++ r = 40 :: ((askText e ++ (wAnd ++ askText b)) ++ 41 :: r) := by
        rw [text_op, a_and]
        simp
      rw [et, hk]
      refine paren_back true (by rw [List.append_assoc]; exact cond_open h _) (by omega) ?_
      rw [if_pos rfl, List.append_assoc, List.append_assoc]
      unfold qPair
      rw [i1 (bt ok).1 f (n + 1) g p _ (by omega) (by omega), Option.bind_some, Option.bind_some, skips_yes, if_pos rfl]
      rw [i2 (bt ok).2 f _ g p (41 :: r) (by omega) (by omega), Option.bind_some]
      rw [show n + (1 + nodes e + nodes b) = n + 1 + nodes e + nodes b by omega]
  | or_ h k i1 i2 =>
    rename_i e b t u
    intro f n g p r hf hn
    have hk : nodes (.op .or_ e b) = 1 + nodes e + nodes b := rfl
    rw [hk] at hf hn
    have pe := nodes_pos e
    have pb := nodes_pos b
    cases f with
    | zero => omega
    | succ f =>
      have et : askText (.op .or_ e b) ++ r = 40 :: ((askText e ++ (wOr ++ askText b)) ++ 41 :: r) := by
        rw [text_op, a_or]
        simp
      rw [et, hk]
      refine paren_back true (by rw [List.append_assoc]; exact cond_open h _) (by omega) ?_
      rw [if_pos rfl, List.append_assoc, List.append_assoc]
      unfold qPair
      rw [i1 (bt ok).1 f (n + 1) g p _ (by omega) (by omega), Option.bind_some, Option.bind_some]
      have e2 : off wAnd (wOr ++ (askText b ++ 41 :: r)) = none := rfl
      rw [skips_no e2, if_neg (show ¬ (false = true) by decide), need_back, Option.bind_some]
      rw [i2 (bt ok).2 f _ g p (41 :: r) (by omega) (by omega), Option.bind_some]
      rw [show n + (1 + nodes e + nodes b) = n + 1 + nodes e + nodes b by omega]
/-! ### brackets -/
theorem low_of {i : Int} {k : Nat} (h : Vapaqf.natural i = some k) : 0 ≤ i ∧ k = i.toNat := by
  unfold Vapaqf.natural at h
  split at h
  · cases h
  · exact ⟨by omega, (Option.some.inj h).symm⟩
theorem far_top {z : Int} (h : Vapaqa.isFar z = true) : z ≤ ((100 : Nat) : Int) := by
  have := far_small h
  omega
theorem high_none (low : Nat) (r : Text) (n g : Nat) (p : Plan) : qHigh low ⟨58 :: 93 :: r, n, g, p⟩ = some (.items low none, ⟨r, n, g, p⟩) := by
  unfold qHigh
  show (qNeed [58] ⟨[58] ++ (93 :: r), n, g, p⟩).bind _ = _
  rw [need_back, Option.bind_some]
  show (Option.bind (some (none, (⟨93 :: r, n, g, p⟩ : QS))) fun h => (qNeed [93] h.2).bind fun z => some (Way.items low h.1, z.2)) = _
  rw [Option.bind_some]
  show (qNeed [93] ⟨[93] ++ r, n, g, p⟩).bind _ = _
  rw [need_back]
  rfl
theorem int_no93 {z : Int} (s : Text) : ([93] : Text).isPrefixOf (Vapaqa.integer z ++ s) = false ∧ ([58] : Text).isPrefixOf (Vapaqa.integer z ++ s) = false := by
  obtain ⟨b, w, hb, hd⟩ := integer_head z
  have h93 : b ≠ 93 ∧ b ≠ 58 := by
    rcases hd with rfl | hd
    · exact ⟨by decide, by decide⟩
    · exact ⟨(digit_ne hd).2.2.1, (digit_ne hd).2.2.2.2.1⟩
  rw [hb]
  constructor
  · simp [List.isPrefixOf, Ne.symm h93.1]
  · simp [List.isPrefixOf, Ne.symm h93.2]
theorem high_some (low : Nat) {z : Int} (r : Text) (n g : Nat) (p : Plan) (h0 : 0 ≤ z) (h1 : Vapaqa.isFar z = true) : qHigh low ⟨58 :: (Vapaqa.integer z ++ 93 :: r), n, g, p⟩ = some (.items low (some z.toNat), ⟨r, n, g, p⟩) := by
  unfold qHigh
  show (qNeed [58] ⟨[58] ++ (Vapaqa.integer z ++ 93 :: r), n, g, p⟩).bind _ = _
  rw [need_back, Option.bind_some]
  show (Option.bind (if ([93] : Text).isPrefixOf (Vapaqa.integer z ++ 93 :: r) = true then some (none, (⟨Vapaqa.integer z ++ 93 :: r, n, g, p⟩ : QS)) else (qNum 100 ⟨Vapaqa.integer z ++ 93 :: r, n, g, p⟩).bind fun y => some (some y.1, y.2)) fun h => (qNeed [93] h.2).bind fun z => some (Way.items low h.1, z.2)) = _
  rw [(int_no93 (93 :: r)).1, if_neg (by decide), num_back _ _ _ h0 (far_top h1) rfl, Option.bind_some, Option.bind_some]
  show (qNeed [93] ⟨[93] ++ r, n, g, p⟩).bind _ = _
  rw [need_back]
  rfl
theorem brackets_colon (s : Text) (n g : Nat) (p : Plan) : qBrackets ⟨58 :: s, n, g, p⟩ = qHigh 0 ⟨58 :: s, n, g, p⟩ := rfl
theorem brackets_num {z : Int} {s : Text} {n g : Nat} {p : Plan} (h0 : 0 ≤ z) (h1 : Vapaqa.isFar z = true) (hs : s.head?.any isDigit = false) : qBrackets ⟨Vapaqa.integer z ++ s, n, g, p⟩ = (some (qSkips [93] ⟨s, n, g, p⟩)).bind fun y => if y.1 = true then some (.items z.toNat (some (z.toNat + 1)), y.2) else qHigh z.toNat y.2 := by
  obtain ⟨e1, e2⟩ := int_no93 (z := z) s
  have e3 : off [93] (Vapaqa.integer z ++ s) = none := by
    unfold off
    rw [e1]
    rfl
  unfold qBrackets
  rw [Option.bind_some, skips_no e3, if_neg (show ¬ (false = true) by decide)]
  show (if ([58] : Text).isPrefixOf (Vapaqa.integer z ++ s) = true then _ else (qNum 100 ⟨Vapaqa.integer z ++ s, n, g, p⟩).bind _) = _
  rw [e2, if_neg (by decide), num_back _ _ _ h0 (far_top h1) hs, Option.bind_some]
/-- steps in brackets -/
theorem brackets_back {e : Ask} {w : Way} (hw : wayOf e = some w) (ok : isAskIn e = true) (hf : ∀ n, e ≠ .field n) (r : Text) : ∃ t, askText e ++ r = 46 :: 91 :: t ∧ ∀ n g p, qBrackets ⟨t, n, g, p⟩ = some (w, ⟨r, n, g, p⟩) := by
  rcases way_forms hw with ⟨n, rfl, -⟩ | ⟨i, rfl⟩ | ⟨a, b, rfl⟩ | ⟨rfl, rfl⟩
  · exact absurd rfl (hf n)
  · obtain ⟨k, hk, rfl⟩ := Option.map_eq_some_iff.mp (show (Vapaqf.natural i).map (fun k => Way.items k (some (k + 1))) = some w from hw)
    obtain ⟨h0, rfl⟩ := low_of hk
    refine ⟨Vapaqa.integer i ++ 93 :: r, ?_, fun n g p => ?_⟩
    · show (46 :: 91 :: (Vapaqa.integer i ++ [93])) ++ r = _
      simp
    · rw [brackets_num h0 ok rfl, Option.bind_some]
      show (if (qSkips [93] ⟨[93] ++ r, n, g, p⟩).1 = true then some (Way.items i.toNat (some (i.toNat + 1)), (qSkips [93] ⟨[93] ++ r, n, g, p⟩).2) else _) = _
      rw [skips_yes]
      rfl
  · obtain ⟨fa, fb⟩ := bt ok
    have et : askText (.slice a b) ++ r = 46 :: 91 :: (endText a ++ (58 :: (endText b ++ 93 :: r))) := by
      show (46 :: 91 :: (endText a ++ (58 :: (endText b ++ [93])))) ++ r = _
      simp
    refine ⟨_, et, fun n g p => ?_⟩
    cases a with
    | none =>
      show qBrackets ⟨58 :: (endText b ++ 93 :: r), n, g, p⟩ = _
      rw [brackets_colon]
      cases b with
      | none =>
        have := Option.some.inj hw
        subst this
        exact high_none 0 r n g p
      | some z =>
        obtain ⟨k, hk, rfl⟩ := Option.map_eq_some_iff.mp (show (Vapaqf.natural z).map (fun k => Way.items 0 (some k)) = some w from hw)
        obtain ⟨h0, rfl⟩ := low_of hk
        exact high_some 0 r n g p h0 fb
    | some y =>
      have e58 : off [93] (58 :: (endText b ++ 93 :: r)) = none := off_head (by decide)
      show qBrackets ⟨Vapaqa.integer y ++ (58 :: (endText b ++ 93 :: r)), n, g, p⟩ = _
      cases b with
      | none =>
        obtain ⟨k, hk, rfl⟩ := Option.map_eq_some_iff.mp (show (Vapaqf.natural y).map (fun k => Way.items k none) = some w from hw)
        obtain ⟨h0, rfl⟩ := low_of hk
        rw [brackets_num h0 fa rfl, Option.bind_some, skips_no e58, if_neg (show ¬ (false = true) by decide)]
        exact high_none _ r n g p
      | some z =>
        obtain ⟨k, hk, h2⟩ := Option.bind_eq_some_iff.mp (show ((Vapaqf.natural y).bind fun k => (Vapaqf.natural z).map fun l => Way.items k (some l)) = some w from hw)
        obtain ⟨l, hl, rfl⟩ := Option.map_eq_some_iff.mp h2
        obtain ⟨h0, rfl⟩ := low_of hk
        obtain ⟨h1, rfl⟩ := low_of hl
        rw [brackets_num h0 fa rfl, Option.bind_some, skips_no e58, if_neg (show ¬ (false = true) by decide)]
        exact high_some _ r n g p h1 fb
  · refine ⟨93 :: r, rfl, fun n g p => ?_⟩
    have k : qSkips [93] ⟨93 :: r, n, g, p⟩ = (true, ⟨r, n, g, p⟩) := skips_yes [93] r n g p
    unfold qBrackets
    rw [k]
    rfl
/-! ### links and chains -/
theorem stage_where (p : Plan) (t : Test) : stageOf { p with test := some t } = 2 := rfl
theorem stage_le {p : Plan} (h : p.test.isSome = false) : stageOf p ≤ 1 := by
  unfold stageOf
  rw [h, if_neg (by decide)]
  split <;> omega
theorem no_where {b : UInt8} {s : Text} (h : b ≠ 119) : off wWhere (b :: s) = none := off_head h
def LinkBack (p : Plan) (e : Ask) (q : Plan) : Prop := ∀ (n : Nat) (r : Text), n + nodes e ≤ 31 → Stq r → qLink ⟨askText e ++ r, n, stageOf p, p⟩ = some ((), ⟨r, n + nodes e - 1, stageOf q, q⟩) ∧ off [40] (askText e ++ r) = none
theorem link_where {p : Plan} {c : Ask} {t : Test} (hp : p.test.isSome = false) (hc : IsCond c t) (ok : isAskIn c = true) : LinkBack p (.fn .where_ c) { p with test := some t } := by
  intro n r hn hr
  have hk : nodes (.fn .where_ c) = 1 + nodes c := rfl
  rw [hk] at hn ⊢
  have et : askText (.fn .where_ c) ++ r = wWhere ++ (askText c ++ 41 :: r) := by
    rw [text_fn, a_where]
    simp [wWhere]
  rw [et]
  refine ⟨?_, rfl⟩
  unfold qLink
  rw [Option.bind_some, skips_yes, if_pos rfl, stage_back (stage_le hp), Option.bind_some, cond_back hc ok 31 n 2 p (41 :: r) (by omega) (by omega), Option.bind_some]
  show qNeed [41] ⟨[41] ++ r, n + nodes c, 2, { p with test := some t }⟩ = _
  rw [need_back, stage_where, show n + (1 + nodes c) - 1 = n + nodes c by omega]
theorem link_deep {p : Plan} (hp : (p.deep || p.test.isSome) = false) : LinkBack p .deep { p with deep := true } := by
  intro n r hn hr
  refine ⟨?_, rfl⟩
  have e1 : off wWhere (46 :: 46 :: r) = none := no_where (by decide)
  have ht : p.test.isSome = false := (Bool.or_eq_false_iff.mp hp).2
  have hs : stageOf { p with deep := true } = 1 := by
    unfold stageOf
    rw [show ({ p with deep := true } : Plan).test.isSome = false from ht]
    rfl
  show qLink ⟨46 :: 46 :: r, n, stageOf p, p⟩ = _
  unfold qLink
  rw [Option.bind_some, skips_no e1, if_neg (show ¬ (false = true) by decide), Option.bind_some]
  show (if (qSkips [46, 46] ⟨[46, 46] ++ r, n, stageOf p, p⟩).1 = true then (qStage 0 1 (qSkips [46, 46] ⟨[46, 46] ++ r, n, stageOf p, p⟩).2).bind fun a => some ((), qDeep a.2) else _) = _
  rw [skips_yes, if_pos rfl, stage_back (by rw [stage_zero.mpr hp]; exact Nat.le_refl _), Option.bind_some, hs]
  rfl
theorem link_step {p : Plan} {e : Ask} {w : Way} (hp : (p.deep || p.test.isSome) = false) (hw : wayOf e = some w) (ok : isAskIn e = true) : LinkBack p e { p with steps := p.steps ++ [w] } := by
  intro n r hn hr
  have h0 : stageOf p = 0 := stage_zero.mpr hp
  by_cases hf : ∃ m, e = .field m
  · obtain ⟨m, rfl⟩ := hf
    have := Option.some.inj hw
    subst this
    have hm : isName m = true := ok
    obtain ⟨⟨b, s, hb, hs⟩, -⟩ := isName_parts hm
    have sn := small_ne hs
    refine ⟨?_, rfl⟩
    have e1 : off wWhere (46 :: (m ++ r)) = none := no_where (by decide)
    have e2 : off [46, 46] (46 :: (m ++ r)) = none := by
      rw [hb]
      unfold off
      rw [if_neg]
      simp [List.isPrefixOf, Ne.symm sn.2.2.2.2.2.2.2.2.1]
    have e3 : off [46, 91] (46 :: (m ++ r)) = none := by
      rw [hb]
      unfold off
      rw [if_neg]
      simp [List.isPrefixOf, Ne.symm sn.2.2.2.2.2.1]
    have hh : (m ++ r).head?.any isSmall = true := by rw [hb]; exact hs
    show qLink ⟨46 :: (m ++ r), n, stageOf p, p⟩ = _
    unfold qLink
    rw [Option.bind_some, skips_no e1, if_neg (show ¬ (false = true) by decide), Option.bind_some, skips_no e2, if_neg (show ¬ (false = true) by decide), Option.bind_some, skips_no e3, if_neg (show ¬ (false = true) by decide)]
    show (qNeed [46] ⟨[46] ++ (m ++ r), n, stageOf p, p⟩).bind _ = _
    rw [need_back, Option.bind_some]
    show (if (m ++ r).head?.any isSmall = true then _ else _) = _
    rw [if_pos hh]
    unfold qName
    rw [show rdName (QS.rest ⟨m ++ r, n, stageOf p, p⟩) = some (m, r) from rdName_back hm hr.stop.word, Option.bind_some, Option.bind_some, h0]
    rw [step_back, stage_steps, h0]
    rfl
  · obtain ⟨t, et, hb⟩ := brackets_back hw ok (fun m z => hf ⟨m, z⟩) r
    have hk : nodes e = 1 := by
      rcases way_forms hw with ⟨n, rfl, -⟩ | ⟨i, rfl⟩ | ⟨a, b, rfl⟩ | ⟨rfl, -⟩ <;> rfl
    rw [et, hk]
    refine ⟨?_, rfl⟩
    have e1 : off wWhere (46 :: 91 :: t) = none := no_where (by decide)
    have e2 : off [46, 46] (46 :: 91 :: t) = none := rfl
    unfold qLink
    rw [Option.bind_some, skips_no e1, if_neg (show ¬ (false = true) by decide), Option.bind_some, skips_no e2, if_neg (show ¬ (false = true) by decide), Option.bind_some]
    show (if (qSkips [46, 91] ⟨[46, 91] ++ t, n, stageOf p, p⟩).1 = true then (qBrackets (qSkips [46, 91] ⟨[46, 91] ++ t, n, stageOf p, p⟩).2).bind fun wy => qStep wy.1 wy.2 else _) = _
    rw [skips_yes, if_pos rfl, hb, Option.bind_some, h0, step_back, stage_steps, h0]
    rfl
theorem link_here (p : Plan) : LinkBack p .here p := by
  intro n r hn hr
  show qLink ⟨46 :: r, n, stageOf p, p⟩ = some ((), ⟨r, n, stageOf p, p⟩) ∧ _
  have e1 : off wWhere (46 :: r) = none := no_where (by decide)
  have e2 : off [46, 46] (46 :: r) = none := by rcases hr with rfl | ⟨c, s, rfl, rfl | rfl | rfl⟩ <;> rfl
  have e3 : off [46, 91] (46 :: r) = none := by rcases hr with rfl | ⟨c, s, rfl, rfl | rfl | rfl⟩ <;> rfl
  have e4 : r.head?.any isSmall = false := by rcases hr with rfl | ⟨c, s, rfl, rfl | rfl | rfl⟩ <;> rfl
  refine ⟨?_, rfl⟩
  unfold qLink
  rw [Option.bind_some, skips_no e1, if_neg (show ¬ (false = true) by decide), Option.bind_some, skips_no e2, if_neg (show ¬ (false = true) by decide), Option.bind_some, skips_no e3, if_neg (show ¬ (false = true) by decide)]
  show (qNeed [46] ⟨[46] ++ r, n, stageOf p, p⟩).bind _ = _
  rw [need_back, Option.bind_some]
  show (if r.head?.any isSmall = true then _ else _) = _
  rw [e4, if_neg (by decide)]
theorem chain_link {p q : Plan} {e : Ask} (h : LinkBack p e q) {f n : Nat} {r : Text} (hf : nodes e ≤ f) (hn : n + nodes e ≤ 30) (hr : Stq r) : qChain f ⟨askText e ++ r, n, stageOf p, p⟩ = some ((), ⟨r, n + nodes e, stageOf q, q⟩) := by
  have pe := nodes_pos e
  obtain ⟨h1, h2⟩ := h (n + 1) r (by omega) hr
  cases f with
  | zero => omega
  | succ f =>
    unfold qChain
    rw [node_back (by omega), Option.bind_some, Option.bind_some, skips_no h2, if_neg (show ¬ (false = true) by decide), h1, show n + 1 + nodes e - 1 = n + nodes e by omega]
theorem chain_back {p q : Plan} {e : Ask} (h : IsChain p e q) (ok : isAskIn e = true) : ∀ (f n : Nat) (r : Text), nodes e ≤ f → n + nodes e ≤ 30 → Stq r → qChain f ⟨askText e ++ r, n, stageOf p, p⟩ = some ((), ⟨r, n + nodes e, stageOf q, q⟩) := by
  induction h with
  | here p => exact fun f n r hf hn hr => chain_link (link_here p) hf hn hr
  | deep p h => exact fun f n r hf hn hr => chain_link (link_deep h) hf hn hr
  | where_ p h k => exact fun f n r hf hn hr => chain_link (link_where h k ok) hf hn hr
  | step p h k => exact fun f n r hf hn hr => chain_link (link_step h k ok) hf hn hr
  | pipe h k i1 i2 =>
    rename_i p q w e b
    intro f n r hf hn hr
    have hk : nodes (.pipe e b) = 1 + nodes e + nodes b := rfl
    rw [hk] at hf hn ⊢
    have pe := nodes_pos e
    have pb := nodes_pos b
    cases f with
    | zero => omega
    | succ f =>
      have et : askText (.pipe e b) ++ r = [40] ++ (askText e ++ (wPipe ++ (askText b ++ 41 :: r))) := by
        rw [text_pipe]
        simp
      rw [et]
      unfold qChain
      rw [node_back (by omega), Option.bind_some, Option.bind_some, skips_yes, if_pos rfl]
      rw [i1 (bt ok).1 f (n + 1) (wPipe ++ (askText b ++ 41 :: r)) (by omega) (by omega) (.inr ⟨32, _, rfl, .inl rfl⟩), Option.bind_some, need_back, Option.bind_some]
      rw [i2 (bt ok).2 f _ (41 :: r) (by omega) (by omega) (stq_cons _ (by decide)), Option.bind_some]
      show qNeed [41] ⟨[41] ++ r, _, _, _⟩ = _
      rw [need_back, show n + (1 + nodes e + nodes b) = n + 1 + nodes e + nodes b by omega]
/-- a chain's first byte -/
theorem chain_head {p q : Plan} {e : Ask} (h : IsChain p e q) : ∃ b s, askText e = b :: s ∧ (b = 40 ∨ b = 46 ∨ b = 119) := by
  cases h with
  | pipe h k => exact ⟨40, _, text_pipe _ _, .inl rfl⟩
  | here => exact ⟨46, _, rfl, .inr (.inl rfl)⟩
  | deep h => exact ⟨46, _, rfl, .inr (.inl rfl)⟩
  | where_ p h k => exact ⟨119, _, by rw [text_fn, a_where]; rfl, .inr (.inr rfl)⟩
  | step p h k => rcases way_forms k with ⟨n, rfl, -⟩ | ⟨i, rfl⟩ | ⟨a, b, rfl⟩ | ⟨rfl, -⟩ <;> exact ⟨46, _, rfl, .inr (.inl rfl)⟩
theorem told_back {p q : Plan} {e : Ask} (h : innerPlan p e = some q) (ok : isAskIn e = true) {n : Nat} {r : Text} (hn : n + nodes e ≤ 30) (hr : Stq r) : qTold ⟨askText e ++ r, n, stageOf p, p⟩ = some ((), ⟨r, n + nodes e, stageOf q, q⟩) := by
  unfold innerPlan at h
  split at h
  · rename_i c
    have hc := chain_of _ _ _ h
    have hk : nodes (.fn .try_ c) = 1 + nodes c := rfl
    rw [hk] at hn ⊢
    have et : askText (.fn .try_ c) ++ r = wTry ++ (askText c ++ 41 :: r) := by
      rw [text_fn, a_try]
      simp [wTry]
    rw [et]
    unfold qTold
    rw [Option.bind_some, skips_yes, if_pos rfl, node_back (by omega), Option.bind_some]
    show (qChain 32 ⟨askText c ++ 41 :: r, n + 1, stageOf { p with tried := true }, { p with tried := true }⟩).bind _ = _
    rw [chain_back hc ok 32 (n + 1) (41 :: r) (by omega) (by omega) (stq_cons _ (by decide)), Option.bind_some]
    show qNeed [41] ⟨[41] ++ r, _, _, _⟩ = _
    rw [need_back, show n + (1 + nodes c) = n + 1 + nodes c by omega]
  · rename_i m c
    have hc := chain_of _ _ _ h
    have hk : nodes (.first m c) = 1 + nodes c := rfl
    rw [hk] at hn ⊢
    have hm : m ≤ 60 := of_decide_eq_true (bt ok).1
    have ei : Vapaqa.decimal m = Vapaqa.integer (m : Int) := by
      unfold Vapaqa.integer
      rw [if_neg (by omega)]
      rfl
    have et : askText (.first m c) ++ r = wFirst ++ (Vapaqa.integer (m : Int) ++ ([44, 32] ++ (askText c ++ 41 :: r))) := by
      rw [text_first, ei]
      simp
    rw [et]
    unfold qTold
    have e1 : off wTry (wFirst ++ (Vapaqa.integer (m : Int) ++ ([44, 32] ++ (askText c ++ 41 :: r)))) = none := rfl
    rw [Option.bind_some, skips_no e1, if_neg (show ¬ (false = true) by decide), Option.bind_some, skips_yes, if_pos rfl, node_back (by omega), Option.bind_some]
    rw [num_back _ _ _ (by omega) (by show (m : Int) ≤ ((60 : Nat) : Int); omega) rfl, Option.bind_some]
    show (qNeed [44, 32] ⟨[44, 32] ++ (askText c ++ 41 :: r), n + 1, stageOf { p with limit := some m }, { p with limit := some m }⟩).bind _ = _
    rw [need_back, Option.bind_some]
    rw [chain_back hc (bt ok).2 32 (n + 1) (41 :: r) (by omega) (by omega) (stq_cons _ (by decide)), Option.bind_some]
    show qNeed [41] ⟨[41] ++ r, _, _, _⟩ = _
    rw [need_back, show n + (1 + nodes c) = n + 1 + nodes c by omega]
  · have hc := chain_of _ _ _ h
    obtain ⟨b, s, hb, hd⟩ := chain_head hc
    have e1 : off wTry (askText e ++ r) = none := by
      rw [hb]
      exact off_head (by rcases hd with rfl | rfl | rfl <;> decide)
    have e2 : off wFirst (askText e ++ r) = none := by
      rw [hb]
      exact off_head (by rcases hd with rfl | rfl | rfl <;> decide)
    unfold qTold
    rw [Option.bind_some, skips_no e1, if_neg (show ¬ (false = true) by decide), Option.bind_some, skips_no e2, if_neg (show ¬ (false = true) by decide)]
    exact chain_back hc ok 32 n r (by omega) hn hr
theorem inner_head {p q : Plan} {e : Ask} (h : innerPlan p e = some q) : ∃ b s, askText e = b :: s ∧ b ≠ 99 ∧ b ≠ 115 := by
  unfold innerPlan at h
  split at h
  · exact ⟨116, _, by rw [text_fn, a_try]; rfl, by decide, by decide⟩
  · exact ⟨102, _, by rw [text_first]; rfl, by decide, by decide⟩
  · obtain ⟨b, s, hb, hd⟩ := chain_head (chain_of _ _ _ h)
    exact ⟨b, s, hb, by rcases hd with rfl | rfl | rfl <;> decide, by rcases hd with rfl | rfl | rfl <;> decide⟩
theorem rest_zero {q : Plan} {e : Ask} (h : innerPlan (planAt 0) e = some q) (ok : isAskIn e = true) (hn : nodes e ≤ 30) : qRest ⟨askText e, 0, 0, planAt 0⟩ = some ((), ⟨[], nodes e, stageOf q, q⟩) := by
  have k := told_back h ok (n := 0) (r := []) (by omega) (.inl rfl)
  rw [List.append_nil] at k
  have k2 : qTold ⟨askText e, 0, 0, planAt 0⟩ = some ((), ⟨[], 0 + nodes e, stageOf q, q⟩) := k
  unfold qRest
  show (if (planAt 0).gather = 0 then qTold ⟨askText e, 0, 0, planAt 0⟩ else _).bind _ = _
  rw [if_pos (show (planAt 0).gather = 0 from rfl), k2, Option.bind_some, Nat.zero_add]
  rfl
theorem rest_more {q : Plan} {e : Ask} {m : Nat} (hm : (planAt m).gather ≠ 0) (h : innerPlan (planAt m) e = some q) (ok : isAskIn e = true) (hn : 1 + nodes e ≤ 30) : qRest ⟨askText e ++ [41], 0, 0, planAt m⟩ = some ((), ⟨[], 1 + nodes e, stageOf q, q⟩) := by
  have k := told_back h ok (n := 1) (r := [41]) (by omega) (stq_cons _ (by decide))
  have k2 : qTold ⟨askText e ++ [41], 1, 0, planAt m⟩ = some ((), ⟨[41], 1 + nodes e, stageOf q, q⟩) := k
  unfold qRest
  show (if (planAt m).gather = 0 then _ else (qNode ⟨askText e ++ [41], 0, 0, planAt m⟩).bind fun b => (qTold b.2).bind fun c => qNeed [41] c.2).bind _ = _
  rw [if_neg hm, node_back (by omega), Option.bind_some]
  show ((qTold ⟨askText e ++ [41], 1, 0, planAt m⟩).bind fun c => qNeed [41] c.2).bind _ = _
  rw [k2, Option.bind_some]
  show (qNeed [41] ⟨[41] ++ [], _, _, _⟩).bind _ = _
  rw [need_back]
  rfl
theorem quest_back {a : Ask} {q : Plan} (ok : Vapaqa.isAsk a = true) (h : planOf a = some q) : questOf (askText a) = some q := by
  have hin := (bt ok).1
  have hn : nodes a ≤ 30 := of_decide_eq_true (bt ok).2
  unfold questOf
  rw [qWhole_eq, Option.bind_some]
  unfold planOf at h
  split at h
  · rename_i e
    have hk : nodes (.fn .count e) = 1 + nodes e := rfl
    have et : askText (.fn .count e) = wCount ++ (askText e ++ [41]) := by
      rw [text_fn, a_count]
      simp [wCount]
    rw [et, skips_yes, if_pos rfl]
    show (qRest ⟨askText e ++ [41], 0, 0, planAt 1⟩).map _ = _
    rw [rest_more (by decide) h hin (by omega)]
    rfl
  · rename_i e
    have hk : nodes (.fn .sum e) = 1 + nodes e := rfl
    have et : askText (.fn .sum e) = wSum ++ (askText e ++ [41]) := by
      rw [text_fn, a_sum]
      simp [wSum]
    have e1 : off wCount (wSum ++ (askText e ++ [41])) = none := rfl
    rw [et, skips_no e1, if_neg (show ¬ (false = true) by decide), Option.bind_some, skips_yes, if_pos rfl]
    show (qRest ⟨askText e ++ [41], 0, 0, planAt 2⟩).map _ = _
    rw [rest_more (by decide) h hin (by omega)]
    rfl
  · obtain ⟨b, s, hb, h1, h2⟩ := inner_head h
    have e1 : off wCount (askText a) = none := by rw [hb]; exact off_head h1
    have e2 : off wSum (askText a) = none := by rw [hb]; exact off_head h2
    rw [skips_no e1, if_neg (show ¬ (false = true) by decide), Option.bind_some, skips_no e2, if_neg (show ¬ (false = true) by decide)]
    rw [rest_zero h hin hn]
    rfl
theorem quest_is (t : Text) : questOf t = (Vapaqa.askOf t).bind planOf := by
  refine opt_ext fun q => ?_
  constructor
  · intro h
    obtain ⟨a, h1, h2, h3⟩ := quest_sound h
    rw [← h2, askOf_back h3 h1, Option.bind_some, h3]
  · intro h
    obtain ⟨a, h1, h2⟩ := bnd h
    obtain ⟨h3, h4⟩ := askOf_sound h1
    rw [← h4]
    exact quest_back h3 h2
end TS.Rd
end
section
set_option Elab.async false
set_option linter.all false
set_option maxRecDepth 100000
set_option maxHeartbeats 8000000
namespace TS
open PySem PySem.Spec PyProof.Rows L2
/-- the readers of texts -/
theorem reads : Reads := ⟨Rd.quest_is, Rd.tok_is, Rd.tree_is, fun _ _ h => gather_le h⟩
theorem answers_fn {P : Program} {w : World} {K : PySem.W.Frag} {mg : Str → Option Value} (T : Facts K mg) : ∃ fd : FuncData, (∀ (s : Shared) (us : List Value), us.length = (["calls"] : List Str).length → BindsTo s fd ⟨us, []⟩ ((["calls"] : List Str).zip us)) ∧ ∀ base : Heap, K.In base → base.Ns mainGlobals mg → FnOk P w K mg base (L2.CX P w) 111 (He.ga K "answers") fd ["calls"] (spAnswers K) := by
  obtain ⟨fd, F⟩ := T.d_answers
  exact ⟨fd, fun s us hl => F.bindsA (fun _ _ _ _ _ _ us hl => match us, hl with | [_], _ => rfl) s us hl, fun base _ _ => ok_answersD T F⟩
end TS
open PySem PySem.W PyProof.Rows
theorem PySem.Challenge.cw_treestream_s01_answers_holds : PySem.Challenge.rw_treestream_s01_answers.Holds := by
  w_on
  refine TS.frame ?hc
  case hc =>
    intro w s₀ s₁ mg mb G Y
    obtain ⟨K, KX, c, x⟩ := Y
    refine L2.walk_spec (r := PySem.Challenge.rw_treestream_s01_answers) (k := 111) (K := fun _ => K) (YP := fun w' h => w' = w ∧ K.In h) (CX := fun w => L2.CX PySem.Challenge.rw_treestream_s01_answers.prog w) (ps := ["calls"]) (sp := fun _ => TS.spAnswers K) TS.h_ws TS.h_df TS.h_ln ⟨rfl, by decide, by decide⟩ (fun w h Y => Y.2) ?F ?S ?C w s₀ s₁ mg mb G ⟨rfl, KX⟩
    case C =>
      intro w H s e s' h
      obtain ⟨_, _, _, _, _, _, _, _, _, _, _, _, z⟩ := h
      exact z
    case F =>
      intro w' mg fa h Y KX G hmg0
      have hmg : mg ("answers" : PySem.Str) = some (.ref fa) := by
        rw [← TS.h_nm]
        exact hmg0
      have T : TS.Facts K mg := ⟨⟨h, KX, G⟩, c, x⟩
      have e := hmg.symm.trans T.g_answers
      cases e
      exact TS.answers_fn T
    case S =>
      intro w' H xs a hO hwi hask hx
      cases hx with
      | cons h1 h2 =>
        cases h2
        cases h1 with
        | lst hs ha =>
          have e := L2.ints_dw a.1 _ ha
          subst e
          have q : ((Codec.inLen 0 80000 a.1 && a.1.all (Codec.inInt 0 3000)) && true) = true := hwi
          rw [Bool.and_eq_true, Bool.and_eq_true] at q
          have hl : a.1.length ≤ 80000 := (Codec.inNat_iff.mp q.1.1).2
          obtain ⟨cs, e1, e2, e3, e4⟩ := TS.due TS.reads a.1 hask
          rename_i ca
          have hs2 : L2.SqL K H ca (TS.intsV (TS.encAll cs)) := by rw [← e1]; exact hs
          exact ⟨_, cs, rfl, hs2, by rw [← e1]; omega, e2, e4, fun H' r _ _ hr => by
            rw [e3] at hr
            exact L2.Dw.lst (K := K) (L2.SqL.of hr) (L2.dw_ints _)⟩
end
