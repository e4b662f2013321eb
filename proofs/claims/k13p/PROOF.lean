import PyProof.Rows.All
import Wide.All
import OpenK.AllK
import Wide.FinOn
import HandS.Defaults
import HandS.Evl
import HandS.Exc
import HandS.ForMost
import HandS.Head0
import HandS.Head1
import HandS.Head2
import HandS.HeadEnd
import HandS.HeadHook1
import HandS.HeadHook2
import HandS.HeadHook3
import HandS.IsInst
import HandS.Iter
import HandS.MakeKw
import HandS.MakeKwOnly
import HandS.More
import HandS.Property
import HandS.TupMul
import HandS.WordsExc
import HandS.Zip
import KE.KStateDown
import PyProof.RulesMatch
import PySem.Challenge.RW_signskept_k13_whole_needs_that_are_neede
set_option Elab.async false
set_option linter.all false
set_option maxRecDepth 1000000
set_option maxHeartbeats 0
/-! PD: plain data, a store of cells, a small code, and its evaluator. -/
namespace PD
open PySem L2

/-- values: scalars, tuples as they are, a cell of the store, a dict of the text's top -/
inductive D where
  | non | bl (b : Bool) | int (i : Int) | str (x : Str) | tup (l : List D) | ref (i : Nat) | kd (i : Nat)
/-- cells: a list (w: may be written), an instance of the class c -/
inductive Cell where
  | lst (w : Bool) (l : List D) | ins (c : Nat) (fs : List (Str × D)) | bld (n : Nat) (l : List D)
structure Store where
  n : Nat
  l : List Cell
  /-- no cell below it has been written since the frame began -/
  w : Nat
namespace Store
def get (S : Store) (i : Nat) : Option Cell := if i < S.n then S.l[S.n - 1 - i]? else none
def push (S : Store) (c : Cell) : Store := ⟨S.n + 1, c :: S.l, S.w⟩
def set (S : Store) (i : Nat) (c : Cell) : Store := if i < S.n then ⟨S.n, S.l.set (S.n - 1 - i) c, if i < S.w then i else S.w⟩ else S
theorem lt {S : Store} {i : Nat} {c : Cell} (h : S.get i = some c) : i < S.n := by
  unfold get at h
  split at h
  · assumption
  · cases h
theorem get_push {S : Store} {c : Cell} : (S.push c).get S.n = some c := by
  unfold get push
  simp
theorem get_old {S : Store} {c : Cell} {i : Nat} (h : i < S.n) : (S.push c).get i = S.get i := by
  unfold get push
  dsimp only
  rw [if_pos (by omega), if_pos h, show S.n + 1 - 1 - i = (S.n - 1 - i) + 1 by omega, List.getElem?_cons_succ]
theorem get_push_some {S : Store} {c d : Cell} {i : Nat} (h : S.get i = some d) : (S.push c).get i = some d := by
  rw [get_old (lt h), h]
theorem get_push_cases {S : Store} {c d : Cell} {i : Nat} (h : (S.push c).get i = some d) : (i = S.n ∧ d = c) ∨ S.get i = some d := by
  have hl := lt h
  have hl' : i < S.n + 1 := hl
  by_cases e : i = S.n
  · subst e
    rw [get_push] at h
    exact .inl ⟨rfl, (Option.some.inj h).symm⟩
  · rw [get_old (by omega)] at h
    exact .inr h
theorem set_n {S : Store} {i : Nat} {c : Cell} : (S.set i c).n = S.n := by
  unfold set
  split <;> rfl
theorem get_set {S : Store} {i : Nat} {c d : Cell} (h : S.get i = some d) : (S.set i c).get i = some c := by
  have hl := lt h
  unfold get at h
  rw [if_pos hl] at h
  unfold set get
  rw [if_pos hl]
  dsimp only
  rw [if_pos hl]
  have := (List.getElem?_eq_some_iff.mp h).1
  rw [List.getElem?_set_self this]
theorem get_set_ne {S : Store} {i j : Nat} {c : Cell} (h : i ≠ j) : (S.set i c).get j = S.get j := by
  unfold set
  split
  · unfold get
    dsimp only
    split
    · rw [List.getElem?_set_ne (by omega)]
    · rfl
  · rfl
theorem set_w {S : Store} {i : Nat} {c : Cell} : (S.set i c).w ≤ S.w := by
  unfold set
  split
  · dsimp only
    split <;> omega
  · exact Nat.le_refl _
theorem set_low {S : Store} {i j : Nat} {c : Cell} (h : j < (S.set i c).w) : (S.set i c).get j = S.get j := by
  by_cases e : i = j
  · subst e
    unfold set at h ⊢
    split
    · rename_i hl
      rw [if_pos hl] at h
      dsimp only at h
      split at h <;> omega
    · rfl
  · exact get_set_ne e
end Store

inductive Res (α : Type) where
  | ok (a : α) (S : Store) | ex (x : D) (S : Store) | stuck
def Res.bind {α β : Type} (r : Res α) (f : α → Store → Res β) : Res β := match r with
  | .ok a S => f a S
  | .ex x S => .ex x S
  | .stuck => .stuck
theorem Res.bind_ok {α β : Type} {r : Res α} {f : α → Store → Res β} {b : β} {S : Store} (h : r.bind f = .ok b S) : ∃ a S1, r = .ok a S1 ∧ f a S1 = .ok b S := by
  cases r with
  | ok a S1 => exact ⟨a, S1, rfl, h⟩
  | ex x S1 => cases h
  | stuck => cases h
def Res.of {α : Type} (o : Option α) (S : Store) : Res α := match o with
  | some a => .ok a S
  | none => .stuck
theorem Res.of_ok {α : Type} {o : Option α} {S S' : Store} {a : α} (h : Res.of o S = .ok a S') : o = some a ∧ S' = S := by
  cases o with
  | none => cases h
  | some b => cases h; exact ⟨rfl, rfl⟩

inductive Op where
  | add | sub | mul | fdiv | mod | shl | shr | band | bor | bxor | pow
inductive Un where
  | neg | inv
inductive Cm where
  | eq | ne | lt | le | gt | ge | isN | notN | in_ | nin
/-- types asked by isinstance -/
inductive Tk where
  | int | bool | str | list | tuple | dict | cls (c : Nat)
inductive Bl where
  | len | int1 | abs | all | any | tuple1 | list1 | isi (ts : List Tk)
/-- where a parameter's value comes from: the i-th written argument, a literal -/
inductive Src where
  | arg (i : Nat) | lit (d : D)

mutual
inductive C where
  | lit (d : D) | var (i : Nat) | glb (i : Nat)
  | op (o : Op) (a b : C) | un (o : Un) (a : C) | cmp (o : Cm) (a b : C) | cmp2 (o p : Cm) (a b c : C)
  | and (a b : C) | or (a b : C) | not (a : C) | ite (t a b : C)
  | tup (l : Cs) | lst (l : Cs)
  | call (f : Nat) (sh : List Src) (l : Cs) | mk (c f : Nat) (sh : List Src) (l : Cs)
  | meth (o : C) (m : Str) (l : Cs)
  | blt (b : Bl) (l : Cs) | app (o x : C) | dget (o x : C)
  | attr (o : C) (f : Str) | sub (o i : C)
  | comp (it : Iter) (tg : List Nat) (one : Bool) (own : List Nat) (ifs : Cs) (elt : C)
  | scope (c : C)
  | comp2 (it : Iter) (tg : List Nat) (one : Bool) (it2 : Iter) (tg2 : List Nat) (one2 : Bool) (own own2 : List Nat) (elt : C)
inductive Cs where
  | nil | cons (c : C) (r : Cs)
inductive Iter where
  | seq (c : C) | range1 (a : C) | range2 (a b : C) | zip (a b : C)
end
mutual
inductive Stm where
  | asg (i : Nat) (c : C) | asgT (is : List Nat) (c : C) | setI (o i v : C) | setF (o : C) (f : Str) (v : C) | aug (i : Nat) (o : Op) (c : C)
  | expr (c : C) | ifs (t : C) (a b : Ss) | for1 (it : Iter) (tg : List Nat) (one : Bool) (b : Ss)
  | ret (c : C) | retN | pass | brk | cont | never
  | mat (c : C) (ms : Ms)
inductive Ss where
  | nil | cons (s : Stm) (r : Ss)
inductive Ms where
  | nil | cons (x : Str) (b : Ss) (r : Ms)
end

/-- the program's own data, beside its code -/
structure Gd where
  gv : Nat → Option D
  kdt : Nat → Option (List (Str × D))
  props : Nat → List (Str × Nat)
  meths : Nat → List (Str × Nat)
  flds : Nat → List Str
  isc : Nat → Bool

abbrev Sl := List (Option D)
def wipeD (σ : Sl) : List Nat → Sl
  | [] => σ
  | v :: vs => (wipeD σ vs).set v none
def setAll : Sl → List Nat → List D → Option Sl
  | σ, [], [] => some σ
  | σ, i :: is, d :: ds => setAll (σ.set i (some d)) is ds
  | _, _, _ => none

def truth (S : Store) : D → Option Bool
  | .non => some false
  | .bl b => some b
  | .int i => some (i != 0)
  | .str x => if x.length ≤ sizeLine then some ((x.length : Int) != 0) else none
  | .tup l => some (!l.isEmpty)
  | .ref i => (match S.get i with
    | some (.lst _ l) => some (!l.isEmpty)
    | _ => none)
  | .kd _ => none

def flat : D → Bool
  | .non => true | .bl _ => true | .int _ => true | .str _ => true | _ => false
/-- == of flat values -/
def eqF : D → D → Bool
  | .non, .non => true
  | .bl a, .bl b => a == b
  | .bl a, .int b => (if a then 1 else 0) == b
  | .int a, .bl b => a == (if b then 1 else 0)
  | .int a, .int b => a == b
  | .str a, .str b => a == b
  | _, _ => false
mutual
/-- lists and tuples of flat values and such, as the library's data -/
def py (S : Store) : Nat → D → Option PyData
  | _, .non => some .none
  | _, .bl b => some (.bool b)
  | _, .int i => some (.int i)
  | _, .str x => some (.str x)
  | n + 1, .tup l => (pyL S n l).map .tuple
  | n + 1, .ref i => (match S.get i with
    | some (.lst _ l) => (pyL S n l).map .list
    | _ => none)
  | _, _ => none
def pyL (S : Store) : Nat → List D → Option (List PyData)
  | _, [] => some []
  | n + 1, d :: ds => (match py S n d, pyL S n ds with
    | some a, some b => some (a :: b)
    | _, _ => none)
  | _, _ => none
end
def eqD (S : Store) (a b : D) : Option Bool :=
  if flat a && flat b then some (eqF a b) else (match py S 64 a, py S 64 b with
    | some d, some e => if SeqAt.shaped d && SeqAt.shaped e then some (PyData.eqv d e) else none
    | _, _ => none)

def evOp (S : Store) (o : Op) (a b : D) : Res D := match o, a, b with
  | .add, .int i, .int j => .ok (.int (i + j)) S
  | .sub, .int i, .int j => .ok (.int (i - j)) S
  | .mul, .int i, .int j => if (-(2 ^ 64) < i ∧ i < 2 ^ 64) ∨ (-(2 ^ 64) < j ∧ j < 2 ^ 64) then .ok (.int (i * j)) S else .stuck
  | .fdiv, .int i, .int j => if 0 < j ∧ j < 1073741824 then .ok (.int (i / j)) S else .stuck
  | .mod, .int i, .int j => if 0 < j then .ok (.int (i % j)) S else .stuck
  | .shl, .int i, .int j => if 0 ≤ j ∧ j ≤ 1000000 ∧ i.natAbs < 2 ^ 64 then .ok (.int (i * 2 ^ j.toNat)) S else .stuck
  | .shr, .int i, .int j => if 0 ≤ j then .ok (.int (i / 2 ^ j.toNat)) S else .stuck
  | .band, .int i, .int j => .ok (.int (Builtin.bitAnd i j)) S
  | .pow, .int i, .int j => if 0 ≤ j ∧ j ≤ 1000000 ∧ i.natAbs < 2 ^ 64 then .ok (.int (i ^ j.toNat)) S else .stuck
  | .bor, .int i, .int j => .ok (.int (Builtin.bitOr i j)) S
  | .bxor, .int i, .int j => .ok (.int (Builtin.bitXor i j)) S
  | .add, .str x, .str y => if x.length + y.length ≤ sizeLine then .ok (.str (x ++ y)) S else .stuck
  | .add, .tup x, .tup y => if x.length + y.length ≤ sizeLine then .ok (.tup (x ++ y)) S else .stuck
  | .mul, .tup x, .int k => if (x.isEmpty = false) ∧ 2 ≤ k ∧ k ≤ 1000 ∧ x.length ≤ 1000 then .ok (.tup (List.replicate k.toNat x).flatten) S else .stuck
  | .add, .ref i, .ref j => (match S.get i, S.get j with
    | some (.lst true x), some (.lst true y) => if x.length + y.length ≤ sizeLine then .ok (.ref S.n) (S.push (.lst true (x ++ y))) else .stuck
    | _, _ => .stuck)
  | _, _, _ => .stuck
def evUn (S : Store) (o : Un) (a : D) : Res D := match o, a with
  | .neg, .int i => .ok (.int (-i)) S
  | .inv, .int i => .ok (.int (Builtin.bitNot i)) S
  | _, _ => .stuck
def inS (x y : Str) : Bool := match x.cps.toList with
  | [c] => decide (c ∈ y.cps.toList)
  | _ => !(Builtin.Str.occurrences y x 0 y.length 1).isEmpty
def inD (S : Store) (G : Gd) (a b : D) : Option Bool := match a, b with
  | .str x, .str y => some (inS x y)
  | a, .tup l => if flat a && l.all flat then some (l.any fun y => eqF y a) else none
  | a, .ref i => (match S.get i with
    | some (.lst _ l) => if flat a && l.all flat then some (l.any fun y => eqF y a) else none
    | _ => none)
  | .str x, .kd i => (G.kdt i).map fun t => (t.lookup x).isSome
  | _, _ => none
def isNon : D → Bool
  | .non => true
  | _ => false
def evCm (G : Gd) (S : Store) (o : Cm) (a b : D) : Option Bool := match o with
  | .eq => eqD S a b
  | .ne => (eqD S a b).map (!·)
  | .lt => (match a, b with | .int i, .int j => some (decide (i < j)) | _, _ => none)
  | .le => (match a, b with | .int i, .int j => some (decide (i ≤ j)) | _, _ => none)
  | .gt => (match a, b with | .int i, .int j => some (decide (j < i)) | _, _ => none)
  | .ge => (match a, b with | .int i, .int j => some (decide (j ≤ i)) | _, _ => none)
  | .isN => if isNon b then some (isNon a) else none
  | .notN => if isNon b then some (!isNon a) else none
  | .in_ => inD S G a b
  | .nin => (inD S G a b).map (!·)
/-- the types of values -/
inductive Bt where
  | non | bool | int | str | list | tuple | dict
inductive Ty where
  | bt (b : Bt) | own (c : Nat)
def tyD (G : Gd) (S : Store) : D → Option Ty
  | .non => some (.bt .non)
  | .bl _ => some (.bt .bool)
  | .int _ => some (.bt .int)
  | .str _ => some (.bt .str)
  | .tup _ => some (.bt .tuple)
  | .kd i => if (G.kdt i).isSome then some (.bt .dict) else none
  | .ref i => (match S.get i with
    | some (.lst _ _) => some (.bt .list)
    | some (.ins c _) => if G.isc c then some (.own c) else none
    | _ => none)
def btIs : Bt → Tk → Bool
  | .bool, .bool => true | .bool, .int => true
  | .int, .int => true
  | .str, .str => true
  | .list, .list => true
  | .tuple, .tuple => true
  | .dict, .dict => true
  | _, _ => false
def isTk (G : Gd) (S : Store) (d : D) : Tk → Option Bool
  | .cls c => if G.isc c then (match tyD G S d with | some (.own c') => some (c == c') | some (.bt _) => some false | none => none) else none
  | t => (match tyD G S d with | some (.own _) => some false | some (.bt n) => some (btIs n t) | none => none)
def anyTk (G : Gd) (S : Store) (d : D) : List Tk → Option Bool
  | [] => some false
  | t :: ts => (match isTk G S d t with
    | some true => some true
    | some false => anyTk G S d ts
    | none => none)
def bls : List D → Option (List Bool)
  | [] => some []
  | .bl b :: r => (bls r).map (b :: ·)
  | _ => none
def evBl (G : Gd) (S : Store) (b : Bl) (l : List D) : Res D := match b, l with
  | .len, [.str x] => if x.length ≤ sizeLine then .ok (.int x.length) S else .stuck
  | .len, [.tup l] => .ok (.int l.length) S
  | .len, [.ref i] => (match S.get i with | some (.lst _ l) => .ok (.int l.length) S | _ => .stuck)
  | .int1, [.int i] => .ok (.int i) S
  | .int1, [.bl b] => .ok (.int (if b then 1 else 0)) S
  | .abs, [.int i] => .ok (.int (if i < 0 then -i else i)) S
  | .all, [.ref i] => (match S.get i with | some (.lst _ l) => Res.of ((bls l).map fun bs => .bl (bs.all id)) S | _ => .stuck)
  | .any, [.ref i] => (match S.get i with | some (.lst _ l) => Res.of ((bls l).map fun bs => .bl (bs.any id)) S | _ => .stuck)
  | .tuple1, [.ref i] => (match S.get i with | some (.lst _ l) => .ok (.tup l) S | _ => .stuck)
  | .tuple1, [.tup l] => .ok (.tup l) S
  | .list1, [.ref i] => (match S.get i with | some (.lst _ l) => .ok (.ref S.n) (S.push (.lst true l)) | _ => .stuck)
  | .list1, [.tup l] => .ok (.ref S.n) (S.push (.lst true l))
  | .isi ts, [d] => Res.of ((anyTk G S d ts).map .bl) S
  | _, _ => .stuck
def evSub (S : Store) (G : Gd) (a b : D) : Option D := match a, b with
  | .tup l, .int i => atI l i
  | .ref j, .int i => (match S.get j with | some (.lst _ l) => atI l i | _ => none)
  | .str x, .int i => if x.length ≤ sizeLine then (atI x.cps.toList i).map fun c => .str ⟨#[c]⟩ else none
  | .kd j, .str x => (G.kdt j).bind fun t => t.lookup x
  | _, _ => none
def putD (f : Str) (v : D) : List (Str × D) → List (Str × D)
  | [] => [(f, v)]
  | (g, x) :: r => if g = f then (g, v) :: r else (g, x) :: putD f v r
def srcs (vs : List D) : List Src → Option (List D)
  | [] => some []
  | .arg i :: r => (match vs[i]?, srcs vs r with | some d, some ds => some (d :: ds) | _, _ => none)
  | .lit d :: r => (match srcs vs r with | some ds => some (d :: ds) | none => none)

/-- what a for walks: items that stand, a list that is read turn by turn -/
inductive Sq where
  | fix (l : List D) | live (i : Nat) (k : Nat)
def rangeL (lo : Int) : Nat → List D
  | 0 => []
  | n + 1 => .int lo :: rangeL (lo + 1) n
def sqOf (S : Store) : D → Option Sq
  | .tup l => some (.fix l)
  | .str x => some (.fix (x.cps.toList.map fun c => .str ⟨#[c]⟩))
  | .ref i => (match S.get i with | some (.lst _ l) => some (.live i l.length) | _ => none)
  | _ => none
def zipD : List D → List D → List D
  | a :: r, b :: s => .tup [a, b] :: zipD r s
  | _, _ => []
def itemsOf : D → Option (List D)
  | .tup l => some l
  | _ => none
/-- the target's slots -/
def bindT (one : Bool) (tg : List Nat) (σ : Sl) (d : D) : Option Sl := if one then (match tg with | [i] => some (σ.set i (some d)) | _ => none) else (match d with
  | .tup l => setAll σ tg l
  | _ => none)

section
variable (G : Gd) (cf : Nat → List D → Store → Res D)
/-- a comprehension's turns over items: one gives the turn's own result: none (left out), some value -/
def compPut (D0 : Nat) (y : D) (S : Store) : Res Unit := match S.get D0 with
  | some (.bld n acc) => if Nat.blt n sizeLine = true then .ok () (S.set D0 (.bld (n + 1) (y :: acc))) else .stuck
  | _ => .stuck
/-- the list is whole -/
def compEnd (D0 : Nat) (S : Store) : Res D := match S.get D0 with
  | some (.bld _ acc) => .ok (.ref D0) (S.set D0 (.lst true acc.reverse))
  | _ => .stuck
def walkFix (turn : D → Store → Res Unit) : List D → Store → Res Unit
  | [], S => .ok () S
  | x :: r, S => (turn x S).bind fun _ S1 => walkFix turn r S1
def walkLive (turn : D → Store → Res Unit) (i : Nat) : Nat → Nat → Store → Res Unit
  | 0, j, S => (match S.get i with
    | some (.lst _ l) => if l.length ≤ j then .ok () S else .stuck
    | _ => .stuck)
  | k + 1, j, S => (match S.get i with
    | some (.lst _ l) => (match l[j]? with
      | none => .ok () S
      | some x => (turn x S).bind fun _ S1 => walkLive turn i k (j + 1) S1)
    | _ => .stuck)
def walkSq (turn : D → Store → Res Unit) (q : Sq) (S : Store) : Res Unit := match q with
  | .fix l => walkFix turn l S
  | .live i k => walkLive turn i k 0 S

mutual
/-- no reference within -/
def refless : D → Bool
  | .ref _ => false
  | .tup l => reflessL l
  | _ => true
def reflessL : List D → Bool
  | [] => true
  | d :: ds => refless d && reflessL ds
end
/-- a def's end: where nothing older was written and the result refers to nothing, the store is as it was -/
def leave (S : Store) (d : D) (S1 : Store) : Res D := if (Nat.ble S.n S1.w && refless d) = true then .ok d S else .ok d ⟨S1.n, S1.l, if S1.w < S.w then S1.w else S.w⟩
/-- how many -/
def Cs.len : Cs → Nat
  | .nil => 0
  | .cons _ r => r.len + 1
def Cs.app : Cs → Cs → Cs
  | .nil, b => b
  | .cons c r, b => .cons c (r.app b)
mutual
def evC : C → Sl → Store → Res D
  | .lit d, _, S => .ok d S
  | .var i, σ, S => (match σ[i]? with | some (some d) => .ok d S | _ => .stuck)
  | .glb i, _, S => Res.of (G.gv i) S
  | .op o a b, σ, S => (evC a σ S).bind fun x S1 => (evC b σ S1).bind fun y S2 => evOp S2 o x y
  | .un o a, σ, S => (evC a σ S).bind fun x S1 => evUn S1 o x
  | .cmp o a b, σ, S => (evC a σ S).bind fun x S1 => (evC b σ S1).bind fun y S2 => Res.of ((evCm G S2 o x y).map .bl) S2
  | .cmp2 o p a b c, σ, S => (evC a σ S).bind fun x S1 => (evC b σ S1).bind fun y S2 => (Res.of (evCm G S2 o x y) S2).bind fun k S3 =>
    if k then (evC c σ S3).bind fun z S4 => Res.of ((evCm G S4 p y z).map .bl) S4 else .ok (.bl false) S3
  | .and a b, σ, S => (evC a σ S).bind fun x S1 => match x with
    | .bl true => evC b σ S1
    | .bl false => .ok (.bl false) S1
    | _ => .stuck
  | .or a b, σ, S => (evC a σ S).bind fun x S1 => match x with
    | .bl true => .ok (.bl true) S1
    | .bl false => evC b σ S1
    | _ => .stuck
  | .not a, σ, S => (evC a σ S).bind fun x S1 => Res.of ((truth S1 x).map fun b => .bl (!b)) S1
  | .ite t a b, σ, S => (evC t σ S).bind fun x S1 => (Res.of (truth S1 x) S1).bind fun k S2 => if k then evC a σ S2 else evC b σ S2
  | .tup l, σ, S => (evCs l σ S).bind fun ds S1 => if ds.length ≤ sizeLine then .ok (.tup ds) S1 else .stuck
  | .lst l, σ, S => (evCs l σ S).bind fun ds S1 => if ds.length ≤ sizeLine then .ok (.ref S1.n) (S1.push (.lst true ds)) else .stuck
  | .call f sh l, σ, S => (evCs l σ S).bind fun ds S1 => (Res.of (srcs ds sh) S1).bind fun as S2 => cf f as S2
  | .mk c f sh l, σ, S => (evCs l σ S).bind fun ds S1 => (Res.of (srcs (.ref S1.n :: ds) sh) S1).bind fun as S2 => (cf f as (S2.push (.ins c []))).bind fun v S3 =>
    if isNon v then .ok (.ref S1.n) S3 else .stuck
  | .meth o m l, σ, S => (evC o σ S).bind fun x S1 => match x with
    | .ref i => (match S1.get i with
      | some (.ins c fs) => if (fs.lookup m).isNone then (Res.of ((G.meths c).lookup m) S1).bind fun f S2 => (evCs l σ S2).bind fun ds S3 => cf f (.ref i :: ds) S3 else .stuck
      | _ => .stuck)
    | _ => .stuck
  | .blt b l, σ, S => (evCs l σ S).bind fun ds S1 => evBl G S1 b ds
  | .app o x, σ, S => (evC o σ S).bind fun a S1 => match a with
    | .ref i => (match S1.get i with
      | some (.lst _ _) => (evC x σ S1).bind fun d S2 => match S2.get i with
        | some (.lst true l) => if l.length < sizeLine then .ok .non (S2.set i (.lst true (l ++ [d]))) else .stuck
        | _ => .stuck
      | _ => .stuck)
    | _ => .stuck
  | .dget o x, σ, S => (evC o σ S).bind fun a S1 => match a with
    | .kd i => (evC x σ S1).bind fun d S2 => match d with
      | .str z => Res.of ((G.kdt i).map fun t => (t.lookup z).getD .non) S2
      | _ => .stuck
    | _ => .stuck
  | .attr o f, σ, S => (evC o σ S).bind fun x S1 => match x with
    | .ref i => (match S1.get i with
      | some (.ins c fs) => (match (G.props c).lookup f with
        | some g => cf g [.ref i] S1
        | none => if (G.flds c).contains f then Res.of (fs.lookup f) S1 else .stuck)
      | _ => .stuck)
    | _ => .stuck
  | .sub o i, σ, S => (evC o σ S).bind fun x S1 => (evC i σ S1).bind fun y S2 => Res.of (evSub S2 G x y) S2
  | .scope c, σ, S => (evC c σ ⟨S.n, S.l, S.n⟩).bind fun d S1 => leave S d S1
  | .comp it tg one own ifs elt, σ, S => (evIt it σ S).bind fun q S1 =>
    (walkSq (fun x S2 => (Res.of (bindT one tg (wipeD σ own) x) S2).bind fun σ2 S3 => (evIfs ifs σ2 S3).bind fun k S4 => if k then (evC elt σ2 S4).bind fun y S5 => compPut S1.n y S5 else .ok () S4) q (S1.push (.bld 0 []))).bind fun _ S2 => compEnd S1.n S2
  | .comp2 it tg one it2 tg2 one2 own own2 elt, σ, S => (evIt it σ S).bind fun q S1 =>
    (walkSq (fun x S2 => (Res.of (bindT one tg (wipeD σ own) x) S2).bind fun σ2 S3 => (evIt it2 σ2 S3).bind fun q2 S4 =>
      walkSq (fun y S5 => (Res.of (bindT one2 tg2 (wipeD σ2 own2) y) S5).bind fun σ3 S6 => (evC elt σ3 S6).bind fun z S7 => compPut S1.n z S7) q2 S4) q (S1.push (.bld 0 []))).bind fun _ S2 => compEnd S1.n S2
def evCs : Cs → Sl → Store → Res (List D)
  | .nil, _, S => .ok [] S
  | .cons c r, σ, S => (evC c σ S).bind fun d S1 => (evCs r σ S1).bind fun ds S2 => .ok (d :: ds) S2
def evIfs : Cs → Sl → Store → Res Bool
  | .nil, _, S => .ok true S
  | .cons c r, σ, S => (evC c σ S).bind fun d S1 => (Res.of (truth S1 d) S1).bind fun k S2 => if k then evIfs r σ S2 else .ok false S2
def evIt : Iter → Sl → Store → Res Sq
  | .seq c, σ, S => (evC c σ S).bind fun d S1 => Res.of (sqOf S1 d) S1
  | .range1 a, σ, S => (evC a σ S).bind fun d S1 => match d with
    | .int j => if -(2 ^ 62) ≤ j ∧ j < 2 ^ 62 then .ok (.fix (rangeL 0 j.toNat)) S1 else .stuck
    | _ => .stuck
  | .range2 a b, σ, S => (evC a σ S).bind fun d S1 => (evC b σ S1).bind fun e S2 => match d, e with
    | .int i, .int j => if -(2 ^ 62) ≤ i ∧ i < 2 ^ 62 ∧ -(2 ^ 62) ≤ j ∧ j < 2 ^ 62 then .ok (.fix (rangeL i (j - i).toNat)) S2 else .stuck
    | _, _ => .stuck
  | .zip a b, σ, S => (evC a σ S).bind fun d S1 => (evC b σ S1).bind fun e S2 => match itemsOf d, itemsOf e with
    | some l, some m => .ok (.fix (zipD l m)) S2
    | _, _ => .stuck
end

/-- a statement's end -/
inductive Fl where
  | nx (σ : Sl) | rt (d : D) | bk (σ : Sl) | ct (σ : Sl)
def loopFix (body : D → Sl → Store → Res Fl) : List D → Sl → Store → Res Fl
  | [], σ, S => .ok (.nx σ) S
  | x :: r, σ, S => (body x σ S).bind fun f S1 => match f with
    | .nx σ1 => loopFix body r σ1 S1
    | .ct σ1 => loopFix body r σ1 S1
    | .bk σ1 => .ok (.nx σ1) S1
    | .rt d => .ok (.rt d) S1
def loopLive (body : D → Sl → Store → Res Fl) (i : Nat) : Nat → Nat → Sl → Store → Res Fl
  | 0, j, σ, S => (match S.get i with
    | some (.lst _ l) => if l.length ≤ j then .ok (.nx σ) S else .stuck
    | _ => .stuck)
  | k + 1, j, σ, S => (match S.get i with
    | some (.lst _ l) => (match l[j]? with
      | none => .ok (.nx σ) S
      | some x => (body x σ S).bind fun f S1 => match f with
        | .nx σ1 => loopLive body i k (j + 1) σ1 S1
        | .ct σ1 => loopLive body i k (j + 1) σ1 S1
        | .bk σ1 => .ok (.nx σ1) S1
        | .rt d => .ok (.rt d) S1)
    | _ => .stuck)
def loopSq (body : D → Sl → Store → Res Fl) (q : Sq) (σ : Sl) (S : Store) : Res Fl := match q with
  | .fix l => loopFix body l σ S
  | .live i k => loopLive body i k 0 σ S

mutual
def exS : Stm → Sl → Store → Res Fl
  | .asg i c, σ, S => (evC G cf c σ S).bind fun d S1 => .ok (.nx (σ.set i (some d))) S1
  | .asgT is c, σ, S => (evC G cf c σ S).bind fun d S1 => match d with
    | .tup l => (Res.of (setAll σ is l) S1).bind fun σ1 S2 => .ok (.nx σ1) S2
    | _ => .stuck
  | .setI o i v, σ, S => (evC G cf v σ S).bind fun x S1 => (evC G cf o σ S1).bind fun a S2 => (evC G cf i σ S2).bind fun y S3 => match a, y with
    | .ref p, .int k => (match S3.get p with
      | some (.lst true l) => (match ixN l.length k with
        | some j => .ok (.nx σ) (S3.set p (.lst true (l.set j x)))
        | none => .stuck)
      | _ => .stuck)
    | _, _ => .stuck
  | .setF o f v, σ, S => (evC G cf v σ S).bind fun x S1 => (evC G cf o σ S1).bind fun a S2 => match a with
    | .ref p => (match S2.get p with
      | some (.ins c fs) => if (G.flds c).contains f = true ∧ fs.length < 1000 then .ok (.nx σ) (S2.set p (.ins c (putD f x fs))) else .stuck
      | _ => .stuck)
    | _ => .stuck
  | .aug i o c, σ, S => .stuck
  | .expr c, σ, S => (evC G cf c σ S).bind fun _ S1 => .ok (.nx σ) S1
  | .ifs t a b, σ, S => (evC G cf t σ S).bind fun x S1 => (Res.of (truth S1 x) S1).bind fun k S2 => if k then exSs a σ S2 else exSs b σ S2
  | .for1 it tg one b, σ, S => (evIt G cf it σ S).bind fun q S1 => loopSq (fun x σ1 S2 => (Res.of (bindT one tg σ1 x) S2).bind fun σ2 S3 => exSs b σ2 S3) q σ S1
  | .ret c, σ, S => (evC G cf c σ S).bind fun d S1 => .ok (.rt d) S1
  | .retN, σ, S => .ok (.rt .non) S
  | .pass, σ, S => .ok (.nx σ) S
  | .brk, σ, S => .ok (.bk σ) S
  | .cont, σ, S => .ok (.ct σ) S
  | .never, _, _ => .stuck
  | .mat c ms, σ, S => (evC G cf c σ S).bind fun d S1 => match d with
    | .str x => exMs x ms σ S1
    | _ => .stuck
def exSs : Ss → Sl → Store → Res Fl
  | .nil, σ, S => .ok (.nx σ) S
  | .cons s r, σ, S => (exS s σ S).bind fun f S1 => match f with
    | .nx σ1 => exSs r σ1 S1
    | f => .ok f S1
def exMs (x : Str) : Ms → Sl → Store → Res Fl
  | .nil, σ, S => .ok (.nx σ) S
  | .cons y b r, σ, S => if y = x then exSs b σ S else exMs x r σ S
end
end
/-- a def: how many slots, its code -/
structure Fn where
  ar : Nat
  k : Nat
  body : Ss
def start (k : Nat) (as : List D) : Sl := as.map some ++ List.replicate (k - as.length) none
def callD (G : Gd) (F : Nat → Option Fn) : Nat → Nat → List D → Store → Res D
  | 0, _, _, _ => .stuck
  | l + 1, f, as, S => match F f with
    | none => .stuck
    | some fn => if as.length = fn.ar then (exSs G (callD G F l) fn.body (start fn.k as) ⟨S.n, S.l, S.n⟩).bind fun r S1 => match r with
      | .rt d => leave S d S1
      | .nx _ => leave S .non S1
      | _ => .stuck else .stuck
end PD

/-! PD1: plain data beside the abstract heap; what it means that a code simulates an expression. -/
namespace PD
open PySem PySem.Spec PyProof.Rows L2

/-- where the top's dicts and classes stand -/
structure Pl where
  kda : Nat → Addr
  cla : Nat → Addr
section
variable (K : PySem.W.Frag) (L : Pl) (H : Hp) (ρ : Nat → Addr) (n : Nat)
mutual
def Rp : D → V → Prop
  | .non, v => v = .non
  | .bl b, v => v = .bl b
  | .int i, v => v = .int i
  | .str x, v => v = .str x
  | .tup l, v => ∃ a vs, v = .ref a ∧ SqT K H a vs ∧ RpL l vs
  | .ref i, v => i < n ∧ v = .ref (ρ i)
  | .kd i, v => v = .ref (L.kda i)
def RpL : List D → List V → Prop
  | [], vs => vs = []
  | d :: ds, vs => ∃ v r, vs = v :: r ∧ Rp d v ∧ RpL ds r
end
end
section
variable {K : PySem.W.Frag} {L : Pl} {H H' : Hp} {ρ ρ' : Nat → Addr} {n n' : Nat}
theorem RpL.length : ∀ {ds : List D} {vs : List V}, RpL K L H ρ n ds vs → ds.length = vs.length
  | [], vs, h => by cases (show vs = [] from h); rfl
  | d :: ds, vs, h => by
    obtain ⟨v, r, rfl, _, h2⟩ := (show ∃ v r, vs = v :: r ∧ Rp K L H ρ n d v ∧ RpL K L H ρ n ds r from h)
    rw [List.length_cons, List.length_cons, RpL.length h2]
theorem RpL.nil : RpL K L H ρ n [] [] := rfl
theorem RpL.cons {d : D} {ds : List D} {v : V} {vs : List V} (h : Rp K L H ρ n d v) (t : RpL K L H ρ n ds vs) : RpL K L H ρ n (d :: ds) (v :: vs) := ⟨v, vs, rfl, h, t⟩
theorem RpL.append : ∀ {ds es : List D} {vs us : List V}, RpL K L H ρ n ds vs → RpL K L H ρ n es us → RpL K L H ρ n (ds ++ es) (vs ++ us)
  | [], es, vs, us, h, t => by cases (show vs = [] from h); exact t
  | d :: ds, es, vs, us, h, t => by
    obtain ⟨v, r, rfl, h1, h2⟩ := (show ∃ v r, vs = v :: r ∧ Rp K L H ρ n d v ∧ RpL K L H ρ n ds r from h)
    exact RpL.cons h1 (RpL.append h2 t)
theorem RpL.get : ∀ {ds : List D} {vs : List V} {i : Nat} {d : D}, RpL K L H ρ n ds vs → ds[i]? = some d → ∃ v, vs[i]? = some v ∧ Rp K L H ρ n d v
  | [], _, _, _, _, e => by simp at e
  | d :: ds, vs, i, x, h, e => by
    obtain ⟨v, r, rfl, h1, h2⟩ := (show ∃ v r, vs = v :: r ∧ Rp K L H ρ n d v ∧ RpL K L H ρ n ds r from h)
    cases i with
    | zero => simp at e; subst e; exact ⟨v, rfl, h1⟩
    | succ i =>
      obtain ⟨u, e1, e2⟩ := RpL.get (i := i) (d := x) h2 (by simpa using e)
      exact ⟨u, by simpa using e1, e2⟩
theorem RpL.get' : ∀ {ds : List D} {vs : List V} {i : Nat} {v : V}, RpL K L H ρ n ds vs → vs[i]? = some v → ∃ d, ds[i]? = some d ∧ Rp K L H ρ n d v := fun {ds vs i v} h e => by
  have hl := h.length
  have hi := (List.getElem?_eq_some_iff.mp e).1
  have e2 : ds[i]? = some ds[i] := List.getElem?_eq_getElem (by omega)
  obtain ⟨u, e3, r⟩ := h.get e2
  rw [e] at e3
  cases e3
  exact ⟨_, e2, r⟩
theorem RpL.set : ∀ {ds : List D} {vs : List V} {d : D} {v : V} (i : Nat), RpL K L H ρ n ds vs → Rp K L H ρ n d v → RpL K L H ρ n (ds.set i d) (vs.set i v)
  | [], vs, _, _, _, h, _ => by cases (show vs = [] from h); exact RpL.nil
  | x :: ds, vs, d, v, i, h, r => by
    obtain ⟨w, t, rfl, h1, h2⟩ := (show ∃ v r, vs = v :: r ∧ Rp K L H ρ n x v ∧ RpL K L H ρ n ds r from h)
    cases i with
    | zero => exact RpL.cons r h2
    | succ i => exact RpL.cons h1 (RpL.set i h2 r)
theorem RpL.replicate {ds : List D} {vs : List V} (h : RpL K L H ρ n ds vs) : ∀ k : Nat, RpL K L H ρ n (List.replicate k ds).flatten (List.replicate k vs).flatten
  | 0 => RpL.nil
  | k + 1 => by
    rw [List.replicate_succ, List.replicate_succ, List.flatten_cons, List.flatten_cons]
    exact h.append (RpL.replicate h k)
theorem RpL.of_forall : ∀ {α : Type} {l : List α} {f : α → D} {g : α → V}, (∀ a ∈ l, Rp K L H ρ n (f a) (g a)) → RpL K L H ρ n (l.map f) (l.map g)
  | _, [], _, _, _ => RpL.nil
  | _, a :: l, f, g, h => RpL.cons (h a (List.mem_cons_self ..)) (RpL.of_forall fun b hb => h b (List.mem_cons_of_mem _ hb))

/-- what never changes: tuples, what is locked -/
def Fixed : HO → Prop
  | .tup _ => True
  | .frz _ _ => True
  | _ => False
def TM (H H' : Hp) : Prop := ∀ a o, H a = some o → Fixed o → H' a = some o
theorem TM.refl (H : Hp) : TM H H := fun _ _ h _ => h
theorem TM.trans {H H1 H2 : Hp} (a : TM H H1) (b : TM H1 H2) : TM H H2 := fun x o h f => b x o (a x o h f) f
theorem TM.new {H : Hp} {p : Addr} {o : HO} (h : H p = none) : TM H (upd H p o) := fun a u e _ => by
  rw [upd_ne (ne_of_none e h)]
  exact e
theorem TM.wr {H : Hp} {p : Addr} {o u : HO} (h : H p = some u) (hf : ¬ Fixed u) : TM H (upd H p o) := fun a x e f => by
  have : a ≠ p := fun z => by
    rw [z, h] at e
    cases e
    exact hf f
  rw [upd_ne this]
  exact e
theorem TM.sqT {a : Addr} {xs : List V} (m : TM H H') (h : SqT K H a xs) : SqT K H' a xs := by
  rcases h with (h | ⟨o, h⟩) | h
  · exact .inl (.inl (m _ _ h True.intro))
  · exact .inl (.inr ⟨o, m _ _ h True.intro⟩)
  · exact .inr h
def Agree (ρ ρ' : Nat → Addr) (n : Nat) : Prop := ∀ i, i < n → ρ' i = ρ i
theorem Agree.refl (ρ : Nat → Addr) (n : Nat) : Agree ρ ρ n := fun _ _ => rfl
theorem Agree.trans {ρ ρ1 ρ2 : Nat → Addr} {n m : Nat} (a : Agree ρ ρ1 n) (h : n ≤ m) (b : Agree ρ1 ρ2 m) : Agree ρ ρ2 n := fun i hi => (b i (Nat.lt_of_lt_of_le hi h)).trans (a i hi)
mutual
theorem Rp.mono (m : TM H H') (a : Agree ρ ρ' n) (hn : n ≤ n') : ∀ {d : D} {v : V}, Rp K L H ρ n d v → Rp K L H' ρ' n' d v
  | .non, _, h => h
  | .bl _, _, h => h
  | .int _, _, h => h
  | .str _, _, h => h
  | .tup l, v, h => by
    obtain ⟨p, vs, e, s, r⟩ := (show ∃ a vs, v = .ref a ∧ SqT K H a vs ∧ RpL K L H ρ n l vs from h)
    exact ⟨p, vs, e, m.sqT s, RpL.mono m a hn r⟩
  | .ref i, v, h => by
    obtain ⟨h1, h2⟩ := (show i < n ∧ v = .ref (ρ i) from h)
    exact ⟨Nat.lt_of_lt_of_le h1 hn, by rw [a i h1]; exact h2⟩
  | .kd _, _, h => h
theorem RpL.mono (m : TM H H') (a : Agree ρ ρ' n) (hn : n ≤ n') : ∀ {ds : List D} {vs : List V}, RpL K L H ρ n ds vs → RpL K L H' ρ' n' ds vs
  | [], _, h => h
  | d :: ds, vs, h => by
    obtain ⟨v, r, e, h1, h2⟩ := (show ∃ v r, vs = v :: r ∧ Rp K L H ρ n d v ∧ RpL K L H ρ n ds r from h)
    exact ⟨v, r, e, Rp.mono m a hn h1, RpL.mono m a hn h2⟩
end
end

/-- the attributes -/
def RpF (K : PySem.W.Frag) (L : Pl) (H : Hp) (ρ : Nat → Addr) (n : Nat) : List (Str × D) → List (Str × V) → Prop
  | [], vs => vs = []
  | p :: ps, vs => ∃ v r, vs = (p.1, v) :: r ∧ Rp K L H ρ n p.2 v ∧ RpF K L H ρ n ps r
section
variable {K : PySem.W.Frag} {L : Pl} {H H' : Hp} {ρ ρ' : Nat → Addr} {n n' : Nat}
theorem RpF.length : ∀ {ds : List (Str × D)} {vs : List (Str × V)}, RpF K L H ρ n ds vs → ds.length = vs.length
  | [], vs, h => by cases (show vs = [] from h); rfl
  | d :: ds, vs, h => by
    obtain ⟨v, r, rfl, _, h2⟩ := h
    rw [List.length_cons, List.length_cons, RpF.length h2]
theorem RpF.mono (m : TM H H') (a : Agree ρ ρ' n) (hn : n ≤ n') : ∀ {ds : List (Str × D)} {vs : List (Str × V)}, RpF K L H ρ n ds vs → RpF K L H' ρ' n' ds vs
  | [], _, h => h
  | d :: ds, vs, h => by
    obtain ⟨v, r, e, h1, h2⟩ := h
    exact ⟨v, r, e, h1.mono m a hn, RpF.mono m a hn h2⟩
theorem RpF.look : ∀ {ds : List (Str × D)} {vs : List (Str × V)} (f : Str), RpF K L H ρ n ds vs → (ds.lookup f = none ∧ vs.lookup f = none) ∨ ∃ d v, ds.lookup f = some d ∧ vs.lookup f = some v ∧ Rp K L H ρ n d v
  | [], vs, f, h => by cases (show vs = [] from h); exact .inl ⟨rfl, rfl⟩
  | (g, d) :: ds, vs, f, h => by
    obtain ⟨v, r, rfl, h1, h2⟩ := h
    cases e : (f == g) with
    | true => exact .inr ⟨d, v, by simp only [List.lookup, e], by simp only [List.lookup, e], h1⟩
    | false =>
      have l1 : ((g, d) :: ds).lookup f = ds.lookup f := by simp only [List.lookup, e]
      have l2 : ((g, v) :: r).lookup f = r.lookup f := by simp only [List.lookup, e]
      rw [l1, l2]
      exact RpF.look f h2
theorem RpF.put : ∀ {ds : List (Str × D)} {vs : List (Str × V)} {d : D} {v : V} (f : Str), RpF K L H ρ n ds vs → Rp K L H ρ n d v → RpF K L H ρ n (putD f d ds) (putF f v vs)
  | [], vs, d, v, f, h, r => by cases (show vs = [] from h); exact ⟨v, [], rfl, r, rfl⟩
  | (g, x) :: ds, vs, d, v, f, h, r => by
    obtain ⟨w, t, rfl, h1, h2⟩ := h
    show RpF K L H ρ n (if g = f then (g, d) :: ds else (g, x) :: putD f d ds) (if g = f then (g, v) :: t else (g, w) :: putF f v t)
    by_cases e : g = f
    · rw [if_pos e, if_pos e]
      exact ⟨v, t, rfl, r, h2⟩
    · rw [if_neg e, if_neg e]
      exact ⟨w, _, rfl, h1, RpF.put f h2 r⟩
end

/-- a list that nothing writes -/
def RO (K : PySem.W.Frag) (H : Hp) (a : Addr) (vs : List V) : Prop := (∃ o, H a = some (.frz o (.lst vs))) ∨
  ∃ (o : Obj) (its : Array Value) (n : Nat), K.lookup a = some o ∧ o.cls = .type "list" ∧ o.dict = none ∧ o.data = .seq its n ∧ its.size ≤ sizeLine ∧ Vals vs its.toList
theorem RO.sq {K : PySem.W.Frag} {H : Hp} {a : Addr} {vs : List V} (h : RO K H a vs) : SqL K H a vs := by
  rcases h with ⟨o, h⟩ | h
  · exact .inl (.inr ⟨o, h⟩)
  · exact .inr h
theorem RO.mono {K : PySem.W.Frag} {H H' : Hp} {a : Addr} {vs : List V} (m : TM H H') (h : RO K H a vs) : RO K H' a vs := by
  rcases h with ⟨o, h⟩ | h
  · exact .inl ⟨o, m _ _ h True.intro⟩
  · exact .inr h
/-- the cell at an address -/
def CellOk (K : PySem.W.Frag) (L : Pl) (H : Hp) (ρ : Nat → Addr) (n : Nat) (a : Addr) : Cell → Prop
  | .lst true l => ∃ vs, H a = some (.lst vs) ∧ RpL K L H ρ n l vs
  | .lst false l => ∃ vs, RO K H a vs ∧ RpL K L H ρ n l vs
  | .ins c fs => ∃ dx vs, H a = some (.ins (L.cla c) dx vs) ∧ RpF K L H ρ n fs vs
  | .bld m l => ∃ vs, H a = some (.lst vs) ∧ RpL K L H ρ n l.reverse vs ∧ m = l.length
def Cell.mut : Cell → Prop
  | .lst false _ => False
  | _ => True
structure Rel (K : PySem.W.Frag) (L : Pl) (H : Hp) (ρ : Nat → Addr) (S : Store) : Prop where
  cell : ∀ i c, S.get i = some c → CellOk K L H ρ S.n (ρ i) c
  inj : ∀ i j c d, S.get i = some c → S.get j = some d → c.mut → d.mut → ρ i = ρ j → i = j
/-- slots -/
def RS (K : PySem.W.Frag) (L : Pl) (H : Hp) (ρ : Nat → Addr) (n : Nat) : Sl → List (Option V) → Prop
  | [], vs => vs = []
  | o :: ds, vs => ∃ u r, vs = u :: r ∧ (∀ d, o = some d → ∃ v, u = some v ∧ Rp K L H ρ n d v) ∧ RS K L H ρ n ds r
section
variable {K : PySem.W.Frag} {L : Pl} {H H' : Hp} {ρ ρ' : Nat → Addr} {n n' : Nat}
theorem RS.mono (m : TM H H') (a : Agree ρ ρ' n) (hn : n ≤ n') : ∀ {ds : Sl} {vs : List (Option V)}, RS K L H ρ n ds vs → RS K L H' ρ' n' ds vs
  | [], _, h => h
  | o :: ds, vs, h => by
    obtain ⟨u, r, e, h1, h2⟩ := h
    refine ⟨u, r, e, fun d hd => ?_, RS.mono m a hn h2⟩
    obtain ⟨v, e1, e2⟩ := h1 d hd
    exact ⟨v, e1, e2.mono m a hn⟩
theorem RS.length : ∀ {ds : Sl} {vs : List (Option V)}, RS K L H ρ n ds vs → ds.length = vs.length
  | [], vs, h => by cases (show vs = [] from h); rfl
  | d :: ds, vs, h => by
    obtain ⟨v, r, rfl, _, h2⟩ := h
    rw [List.length_cons, List.length_cons, RS.length h2]
theorem RS.get : ∀ {ds : Sl} {vs : List (Option V)} {i : Nat} {d : D}, RS K L H ρ n ds vs → ds[i]? = some (some d) → ∃ v, vs[i]? = some (some v) ∧ Rp K L H ρ n d v
  | [], _, _, _, _, e => by simp at e
  | o :: ds, vs, i, d, h, e => by
    obtain ⟨u, r, rfl, h1, h2⟩ := h
    cases i with
    | zero =>
      simp at e
      obtain ⟨v, e1, e2⟩ := h1 d e
      exact ⟨v, by simp [e1], e2⟩
    | succ i =>
      obtain ⟨v, e1, e2⟩ := RS.get (i := i) (d := d) h2 (by simpa using e)
      exact ⟨v, by simpa using e1, e2⟩
theorem RS.set : ∀ {ds : Sl} {vs : List (Option V)} {d : D} {v : V} (i : Nat), RS K L H ρ n ds vs → Rp K L H ρ n d v → RS K L H ρ n (ds.set i (some d)) (vs.set i (some v))
  | [], vs, _, _, _, h, _ => by cases (show vs = [] from h); exact rfl
  | o :: ds, vs, d, v, i, h, r => by
    obtain ⟨u, t, rfl, h1, h2⟩ := h
    cases i with
    | zero => exact ⟨some v, t, rfl, fun d' hd => by cases hd; exact ⟨v, rfl, r⟩, h2⟩
    | succ i => exact ⟨u, _, rfl, h1, RS.set i h2 r⟩
theorem RS.setN : ∀ {ds : Sl} {vs : List (Option V)} {u : Option V} (i : Nat), RS K L H ρ n ds vs → RS K L H ρ n (ds.set i none) (vs.set i u)
  | [], vs, _, _, h => by cases (show vs = [] from h); exact rfl
  | o :: ds, vs, w, i, h => by
    obtain ⟨u, t, rfl, h1, h2⟩ := h
    cases i with
    | zero => exact ⟨w, t, rfl, fun d hd => (by cases hd), h2⟩
    | succ i => exact ⟨u, _, rfl, h1, RS.setN i h2⟩
theorem RS.wipe {ds : Sl} {vs : List (Option V)} (h : RS K L H ρ n ds vs) : ∀ is : List Nat, RS K L H ρ n (wipeD ds is) (L2.wipe vs is)
  | [] => h
  | i :: is => RS.setN i (RS.wipe h is)
theorem RS.start {as : List D} {vs : List V} (h : RpL K L H ρ n as vs) (k : Nat) : RS K L H ρ n (as.map some ++ List.replicate k none) (vs.map some ++ List.replicate k none) := by
  induction as generalizing vs with
  | nil =>
    cases (show vs = [] from h)
    induction k with
    | zero => exact rfl
    | succ k ih => exact ⟨none, _, rfl, fun d hd => (by cases hd), ih⟩
  | cons a as ih =>
    obtain ⟨v, r, rfl, h1, h2⟩ := (show ∃ v r, vs = v :: r ∧ Rp K L H ρ n a v ∧ RpL K L H ρ n as r from h)
    exact ⟨some v, _, rfl, fun d hd => by cases hd; exact ⟨v, rfl, h1⟩, ih h2⟩
end

/-- the state behind: more cells, tuples kept -/
structure Nx (K : PySem.W.Frag) (L : Pl) (S : Store) (H : Hp) (ρ : Nat → Addr) (S' : Store) (H' : Hp) (ρ' : Nat → Addr) : Prop where
  n : S.n ≤ S'.n
  a : Agree ρ ρ' S.n
  t : TM H H'
  r : Rel K L H' ρ' S'
  w : S'.w ≤ S.w
  k : ∀ i, i < S'.w → i < S.n → S'.get i = S.get i
section
variable {K : PySem.W.Frag} {L : Pl} {S S1 S2 : Store} {H H1 H2 : Hp} {ρ ρ1 ρ2 : Nat → Addr}
theorem Nx.refl (r : Rel K L H ρ S) : Nx K L S H ρ S H ρ := ⟨Nat.le_refl _, Agree.refl _ _, TM.refl _, r, Nat.le_refl _, fun _ _ _ => rfl⟩
theorem Nx.trans (a : Nx K L S H ρ S1 H1 ρ1) (b : Nx K L S1 H1 ρ1 S2 H2 ρ2) : Nx K L S H ρ S2 H2 ρ2 := ⟨Nat.le_trans a.n b.n, a.a.trans a.n b.a, a.t.trans b.t, b.r, Nat.le_trans b.w a.w, fun i h hi => (b.k i h (Nat.lt_of_lt_of_le hi a.n)).trans (a.k i (Nat.lt_of_lt_of_le h b.w) hi)⟩
theorem Nx.rp {d : D} {v : V} (a : Nx K L S H ρ S1 H1 ρ1) (h : Rp K L H ρ S.n d v) : Rp K L H1 ρ1 S1.n d v := h.mono a.t a.a a.n
theorem Nx.rpl {d : List D} {v : List V} (a : Nx K L S H ρ S1 H1 ρ1) (h : RpL K L H ρ S.n d v) : RpL K L H1 ρ1 S1.n d v := h.mono a.t a.a a.n
theorem Nx.rs {d : Sl} {v : List (Option V)} (a : Nx K L S H ρ S1 H1 ρ1) (h : RS K L H ρ S.n d v) : RS K L H1 ρ1 S1.n d v := h.mono a.t a.a a.n
theorem CellOk.mono {n n' : Nat} {a : Addr} {c : Cell} (m : TM H H1) (g : Agree ρ ρ1 n) (hn : n ≤ n') (e : c.mut → H1 a = H a) (h : CellOk K L H ρ n a c) : CellOk K L H1 ρ1 n' a c := by
  cases c with
  | lst w l =>
    cases w with
    | true =>
      obtain ⟨vs, h1, h2⟩ := h
      exact ⟨vs, by rw [e True.intro]; exact h1, h2.mono m g hn⟩
    | false =>
      obtain ⟨vs, h1, h2⟩ := h
      exact ⟨vs, h1.mono m, h2.mono m g hn⟩
  | ins c fs =>
    obtain ⟨dx, vs, h1, h2⟩ := h
    exact ⟨dx, vs, by rw [e True.intro]; exact h1, h2.mono m g hn⟩
  | bld k l =>
    obtain ⟨vs, h1, h2, h3⟩ := h
    exact ⟨vs, by rw [e True.intro]; exact h1, h2.mono m g hn, h3⟩
theorem Rel.mut_at {i : Nat} {c : Cell} (r : Rel K L H ρ S) (h : S.get i = some c) (m : c.mut) : ∃ o, H (ρ i) = some o ∧ ¬ Fixed o := by
  have x := r.cell i c h
  cases c with
  | lst w l =>
    cases w with
    | true => obtain ⟨vs, h1, _⟩ := x; exact ⟨_, h1, fun z => z⟩
    | false => exact m.elim
  | ins c fs => obtain ⟨dx, vs, h1, _⟩ := x; exact ⟨_, h1, fun z => z⟩
  | bld k l => obtain ⟨vs, h1, _⟩ := x; exact ⟨_, h1, fun z => z⟩
/-- an object more that is no cell -/
theorem Rel.new {p : Addr} {o : HO} (r : Rel K L H ρ S) (hp : H p = none) : Nx K L S H ρ S (upd H p o) ρ := by
  refine ⟨Nat.le_refl _, Agree.refl _ _, TM.new hp, ⟨fun i c h => ?_, r.inj⟩, Nat.le_refl _, fun _ _ _ => rfl⟩
  refine (r.cell i c h).mono (TM.new hp) (Agree.refl _ _) (Nat.le_refl _) fun m => ?_
  obtain ⟨u, hu, _⟩ := r.mut_at h m
  exact upd_ne (ne_of_none hu hp)
/-- the map with one more -/
def more (ρ : Nat → Addr) (n : Nat) (p : Addr) : Nat → Addr := fun i => if i = n then p else ρ i
theorem more_new {n : Nat} {p : Addr} : more ρ n p n = p := if_pos rfl
theorem more_old {n i : Nat} {p : Addr} (h : i < n) : more ρ n p i = ρ i := if_neg (by omega)
theorem more_agree {n : Nat} {p : Addr} : Agree ρ (more ρ n p) n := fun _ h => more_old h
/-- a new cell -/
theorem Rel.push {p : Addr} {o : HO} {c : Cell} (r : Rel K L H ρ S) (hp : H p = none) (hc : CellOk K L (upd H p o) (more ρ S.n p) (S.n + 1) p c) : Nx K L S H ρ (S.push c) (upd H p o) (more ρ S.n p) := by
  have old : ∀ i d, S.get i = some d → d.mut → ρ i ≠ p := fun i d h m z => by
    obtain ⟨u, hu, _⟩ := r.mut_at h m
    exact ne_of_none hu hp z
  refine ⟨Nat.le_succ _, more_agree, TM.new hp, ⟨fun i d h => ?_, fun i j d e hi hj mi mj q => ?_⟩, Nat.le_refl _, fun i _ hi => Store.get_old hi⟩
  · rcases Store.get_push_cases h with ⟨rfl, rfl⟩ | h
    · rw [more_new]; exact hc
    · rw [more_old (Store.lt h)]
      exact (r.cell i d h).mono (TM.new hp) more_agree (Nat.le_succ _) fun m => upd_ne (old i d h m)
  · rcases Store.get_push_cases hi with ⟨ei, _⟩ | hi1
    · rcases Store.get_push_cases hj with ⟨ej, _⟩ | hj1
      · rw [ei, ej]
      · rw [ei, more_new, more_old (Store.lt hj1)] at q
        exact (old j e hj1 mj q.symm).elim
    · rcases Store.get_push_cases hj with ⟨ej, _⟩ | hj1
      · rw [ej, more_new, more_old (Store.lt hi1)] at q
        exact (old i d hi1 mi q).elim
      · rw [more_old (Store.lt hi1), more_old (Store.lt hj1)] at q
        exact r.inj i j d e hi1 hj1 mi mj q
/-- a cell written -/
theorem Rel.write {i : Nat} {o : HO} {c d : Cell} (r : Rel K L H ρ S) (h : S.get i = some d) (md : d.mut) (mc : c.mut) (hc : CellOk K L (upd H (ρ i) o) ρ S.n (ρ i) c) : Nx K L S H ρ (S.set i c) (upd H (ρ i) o) ρ := by
  obtain ⟨u, hu, hf⟩ := r.mut_at h md
  have t : TM H (upd H (ρ i) o) := TM.wr hu hf
  have back : ∀ {j : Nat} {e : Cell}, (S.set i c).get j = some e → (j = i ∧ e = c) ∨ (j ≠ i ∧ S.get j = some e) := fun {j e} hj => by
    by_cases z : j = i
    · subst z
      rw [Store.get_set h] at hj
      exact .inl ⟨rfl, (Option.some.inj hj).symm⟩
    · rw [Store.get_set_ne (Ne.symm z)] at hj
      exact .inr ⟨z, hj⟩
  refine ⟨Nat.le_of_eq Store.set_n.symm, Agree.refl _ _, t, ⟨fun j e hj => ?_, fun j k e f hj hk mj mk q => ?_⟩, Store.set_w, fun j hj _ => Store.set_low hj⟩
  · rw [Store.set_n]
    rcases back hj with ⟨rfl, rfl⟩ | ⟨z, hj⟩
    · exact hc
    · exact (r.cell j e hj).mono t (Agree.refl _ _) (Nat.le_refl _) fun m => upd_ne fun q => z (r.inj j i e d hj h m md q)
  · rcases back hj with ⟨ej, _⟩ | ⟨_, hj1⟩
    · rcases back hk with ⟨ek, _⟩ | ⟨_, hk1⟩
      · rw [ej, ek]
      · rw [ej] at q ⊢
        exact r.inj _ _ _ _ h hk1 md mk q
    · rcases back hk with ⟨ek, _⟩ | ⟨_, hk1⟩
      · rw [ek] at q ⊢
        exact r.inj _ _ _ _ hj1 h mj md q
      · exact r.inj _ _ _ _ hj1 hk1 mj mk q
end
end PD

/-! PD2: what it means that a code simulates an expression, a statement; the rules. -/
namespace PD
open PySem PySem.Spec PyProof.Rows L2

/-! ### the weakest readings -/
section
variable (X : Cx)
def wE (e : Expr) : TE := fun σ H Q => ∀ (pins : List (Addr × Obj)) (s : Shared), Inv X pins σ H s → wpAny (model X.prog X.w) X.A (eval e X.env) (EP X pins σ Q) X.xe s
def wT (e : Expr) : TT := fun σ H Q => ∀ (pins : List (Addr × Obj)) (s : Shared), Inv X pins σ H s → wpAny (model X.prog X.w) X.A (isTrue e X.env (eval e X.env)) (TP X pins σ Q) X.xe s
def wW (e : Expr) : TT := fun σ H Q => ∀ (whole : Sem Value) (pins : List (Addr × Obj)) (s : Shared), Inv X pins σ H s → wpAny (model X.prog X.w) X.A (isTrue e X.env whole) (TP X pins σ Q) X.xe s
def wA (es : List Expr) : TA := fun σ H Q => ∀ (pos : Pos) (pins : List (Addr × Obj)) (s : Shared), Inv X pins σ H s → wpAny (model X.prog X.w) X.A (spliced (backTo pos (starEach es X.env))) (AP X pins σ Q) X.xe s
def wI (tg iter : Expr) : TI := fun σ H R => ∀ (pins : List (Addr × Obj)) (s : Shared), Inv X pins σ H s → wpAny (model X.prog X.w) X.A (eval iter X.env) (fun v s1 => wpAny (model X.prog X.w) X.A (pyIter v) (PIE X pins σ tg R) X.xe s1) X.xe s
def wS (st : Stmt) : TS := fun D σ H => ∀ (pins : List (Addr × Obj)) (s : Shared), Inv X pins σ H s → wpAny (model X.prog X.w) X.A (exec st X.env) (SP X pins D) X.xe s
def wSs (st : List Stmt) : TS := fun D σ H => ∀ (pins : List (Addr × Obj)) (s : Shared), Inv X pins σ H s → wpAny (model X.prog X.w) X.A (execs st X.env) (SP X pins D) X.xe s
def wG (tg : Expr) : TG := fun v σ H Q => ∀ (pins : List (Addr × Obj)) (s : Shared) (u : Value), Inv X pins σ H s → RelV v u → wpAny (model X.prog X.w) X.A (assign tg X.env u) (fun _ s' => ∃ σ' H', Inv X pins σ' H' s' ∧ Q σ' H') X.xe s
variable {X}
theorem pE (e : Expr) : PE X e (wE X e) := ⟨fun pins s σ H Q I h => h pins s I⟩
theorem pT (e : Expr) : PT X e (wT X e) := ⟨fun pins s σ H Q I h => h pins s I⟩
theorem pW (e : Expr) : PW X e (wW X e) := ⟨fun wh pins s σ H Q I h => h wh pins s I⟩
theorem pA (es : List Expr) : PA X es (wA X es) := ⟨fun pos pins s σ H Q I h => h pos pins s I⟩
theorem pI (tg e : Expr) : PI X tg e (wI X tg e) := ⟨fun pins s σ H Q I h => h pins s I⟩
theorem pS (st : Stmt) : PS X st (wS X st) := ⟨fun pins s σ H D I h => h pins s I⟩
theorem pSs (st : List Stmt) : PSs X st (wSs X st) := ⟨fun pins s σ H D I h => h pins s I⟩
theorem pG (tg : Expr) : PG X tg (wG X tg) := ⟨fun pins s σ H v u Q I r h => h pins s u I r⟩
theorem ofE {e : Expr} {t : TE} {σ : L2.St} {H : Hp} {Q : VK} (h : PE X e t) (q : t σ H Q) : wE X e σ H Q := fun pins s I => h.run pins s σ H Q I q
theorem ofT {e : Expr} {t : TT} {σ : L2.St} {H : Hp} {Q : Bool → Hp → Prop} (h : PT X e t) (q : t σ H Q) : wT X e σ H Q := fun pins s I => h.run pins s σ H Q I q
theorem ofW {e : Expr} {t : TT} {σ : L2.St} {H : Hp} {Q : Bool → Hp → Prop} (h : PW X e t) (q : t σ H Q) : wW X e σ H Q := fun wh pins s I => h.run wh pins s σ H Q I q
theorem ofA {es : List Expr} {t : TA} {σ : L2.St} {H : Hp} {Q : List V → Hp → Prop} (h : PA X es t) (q : t σ H Q) : wA X es σ H Q := fun pos pins s I => h.run pos pins s σ H Q I q
theorem ofI {tg e : Expr} {t : TI} {σ : L2.St} {H : Hp} {R : It → Hp → Prop} (h : PI X tg e t) (q : t σ H R) : wI X tg e σ H R := fun pins s I => h.run pins s σ H R I q
theorem ofS {st : Stmt} {t : TS} {σ : L2.St} {H : Hp} {D : Ends} (h : PS X st t) (q : t D σ H) : wS X st D σ H := fun pins s I => h.run pins s σ H D I q
theorem ofSs {st : List Stmt} {t : TS} {σ : L2.St} {H : Hp} {D : Ends} (h : PSs X st t) (q : t D σ H) : wSs X st D σ H := fun pins s I => h.run pins s σ H D I q
end

/-! ### simulation -/
section
variable (X : Cx) (L : Pl) (G : Gd) (cf : Nat → List D → Store → Res D)
structure Sim (e : Expr) (c : C) : Prop where
  run : ∀ (ρ : Nat → Addr) (σd : Sl) (σ : L2.St) (S : Store) (H : Hp) (d : D) (S' : Store) (Q : VK), Rel X.K L H ρ S → RS X.K L H ρ S.n σd σ → evC G cf c σd S = .ok d S' →
    (∀ ρ' H' v, Nx X.K L S H ρ S' H' ρ' → Rp X.K L H' ρ' S'.n d v → Q v H') → wE X e σ H Q
structure SimT (e : Expr) (c : C) : Prop where
  run : ∀ (ρ : Nat → Addr) (σd : Sl) (σ : L2.St) (S : Store) (H : Hp) (d : D) (b : Bool) (S' : Store) (Q : Bool → Hp → Prop), Rel X.K L H ρ S → RS X.K L H ρ S.n σd σ → evC G cf c σd S = .ok d S' → truth S' d = some b →
    (∀ ρ' H', Nx X.K L S H ρ S' H' ρ' → Q b H') → wT X e σ H Q
structure SimA (es : List Expr) (cs : Cs) : Prop where
  run : ∀ (ρ : Nat → Addr) (σd : Sl) (σ : L2.St) (S : Store) (H : Hp) (ds : List D) (S' : Store) (Q : List V → Hp → Prop), Rel X.K L H ρ S → RS X.K L H ρ S.n σd σ → evCs G cf cs σd S = .ok ds S' →
    (∀ ρ' H' vs, Nx X.K L S H ρ S' H' ρ' → RpL X.K L H' ρ' S'.n ds vs → Q vs H') → wA X es σ H Q
end
section
variable {X : Cx} {L : Pl} {G : Gd} {cf : Nat → List D → Store → Res D}

theorem si_var {i : Nat} {x : Str} {pos : Pos} (hN : X.N[i]? = some x) (hv : Vis X.env.scope x) (hd : (x == ("__debug__" : Str)) = false := by decide) (hcd : (x == ("__classdict__" : Str)) = false := by decide) : Sim X L G cf (.Name x pos) (.var i) := by
  refine ⟨fun ρ σd σ S H d S' Q r rs h k => ?_⟩
  have h1 : (match σd[i]? with | some (some d) => Res.ok d S | _ => .stuck) = Res.ok d S' := h
  split at h1
  · rename_i d' e
    cases h1
    obtain ⟨v, e1, e2⟩ := rs.get e
    exact ofE (pe_var hN hv hd hcd) ⟨v, e1, k ρ H v (Nx.refl r) e2⟩
  · cases h1
theorem si_int {i : Int} {j pos} : Sim X L G cf (.Constant (.int i) j pos) (.lit (.int i)) := ⟨fun ρ σd σ S H d S' Q r rs h k => by cases h; exact ofE pe_int (k ρ H _ (Nx.refl r) rfl)⟩
theorem si_bl {b : Bool} {j pos} : Sim X L G cf (.Constant (.bool b) j pos) (.lit (.bl b)) := ⟨fun ρ σd σ S H d S' Q r rs h k => by cases h; exact ofE pe_bl (k ρ H _ (Nx.refl r) rfl)⟩
theorem si_non {j pos} : Sim X L G cf (.Constant .none j pos) (.lit .non) := ⟨fun ρ σd σ S H d S' Q r rs h k => by cases h; exact ofE pe_non (k ρ H _ (Nx.refl r) rfl)⟩
theorem si_str {x : Str} {j pos} : Sim X L G cf (.Constant (.str x) j pos) (.lit (.str x)) := ⟨fun ρ σd σ S H d S' Q r rs h k => by cases h; exact ofE pe_str (k ρ H _ (Nx.refl r) rfl)⟩
/-- a module's constant -/
def GvOk (X : Cx) (L : Pl) (x : Str) (d : D) : Prop := ∃ u v, X.mg x = some u ∧ RelV v u ∧ ∀ H ρ n, Rp X.K L H ρ n d v
theorem si_glb {i : Nat} {x : Str} {d0 : D} {pos : Pos} (hg : Gl X x) (he : G.gv i = some d0) (ho : GvOk X L x d0) (hd : (x == ("__debug__" : Str)) = false := by decide) : Sim X L G cf (.Name x pos) (.glb i) := by
  refine ⟨fun ρ σd σ S H d S' Q r rs h k => ?_⟩
  obtain ⟨e1, rfl⟩ := Res.of_ok (show Res.of (G.gv i) S = .ok d S' from h)
  rw [he] at e1
  cases e1
  obtain ⟨u, v, hm, hr, hp⟩ := ho
  exact ofE (pe_glob hg hm hr hd) (k ρ H v (Nx.refl r) (hp _ _ _))

/-! ### two operands -/
/-- what an operator does by values -/
def OpD (X : Cx) (L : Pl) (f : Value → Value → Sem Value) (g : Store → D → D → Res D) : Prop := ∀ (ρ : Nat → Addr) (S : Store) (H : Hp) (x y d : D) (S' : Store) (vx vy : V), Rel X.K L H ρ S → Rp X.K L H ρ S.n x vx → Rp X.K L H ρ S.n y vy → g S x y = .ok d S' →
  ∃ r : R2, OpR X f r ∧ ∀ Q : VK, (∀ ρ' H' v, Nx X.K L S H ρ S' H' ρ' → Rp X.K L H' ρ' S'.n d v → Q v H') → r vx vy H Q
theorem si_bin {a b : Expr} {ca cb : C} {pos : Pos} {op : Operator} {o : Op} (ho : OpD X L (binaryOp op) (fun S x y => evOp S o x y)) (ha : Sim X L G cf a ca) (hb : Sim X L G cf b cb) : Sim X L G cf (.BinOp a op b pos) (.op o ca cb) := by
  refine ⟨fun ρ σd σ S H d S' Q r rs h k => fun pins s I => ?_⟩
  obtain ⟨x, S1, e1, h⟩ := Res.bind_ok (show (evC G cf ca σd S).bind (fun x S1 => (evC G cf cb σd S1).bind fun y S2 => evOp S2 o x y) = .ok d S' from h)
  obtain ⟨y, S2, e2, h⟩ := Res.bind_ok h
  refine wpAny_BinOp ?_
  refine thn (ha.run ρ σd σ S H x S1 (fun v H1 => ∃ ρ1, Nx X.K L S H ρ S1 H1 ρ1 ∧ Rp X.K L H1 ρ1 S1.n x v) r rs e1 (fun ρ' H' v n p => ⟨ρ', n, p⟩) pins s I) fun u s1 ⟨v, H1, I1, rv, ρ1, n1, p1⟩ => ?_
  refine thn (hb.run ρ1 σd σ S1 H1 y S2 (fun w H2 => ∃ ρ2, Nx X.K L S1 H1 ρ1 S2 H2 ρ2 ∧ Rp X.K L H2 ρ2 S2.n y w) n1.r (n1.rs rs) e2 (fun ρ' H' v n p => ⟨ρ', n, p⟩) pins s1 I1) fun u2 s2 ⟨w, H2, I2, rw', ρ2, n2, p2⟩ => ?_
  obtain ⟨r2, ho2, hq⟩ := ho ρ2 S2 H2 x y d S' v w n2.r (n2.rp p1) p2 h
  exact ho2 pins s2 σ H2 v w u u2 Q I2 rv rw' (hq Q fun ρ' H' v' n p => k ρ' H' v' ((n1.trans n2).trans n) p)
/-- comparisons by values -/
def CmD (X : Cx) (L : Pl) (f : Value → Value → Sem Value) (g : Store → D → D → Option Bool) : Prop := ∀ (ρ : Nat → Addr) (S : Store) (H : Hp) (x y : D) (b : Bool) (vx vy : V), Rel X.K L H ρ S → Rp X.K L H ρ S.n x vx → Rp X.K L H ρ S.n y vy → g S x y = some b →
  ∃ r : R2, OpR X f r ∧ ∀ Q : VK, Q (.bl b) H → r vx vy H Q
theorem cmp_run {a b : Expr} {ca cb : C} {op : CmpOp} {o : Cm} (ho : CmD X L (compareOp op) (fun S x y => evCm G S o x y)) (ha : Sim X L G cf a ca) (hb : Sim X L G cf b cb)
    {ρ : Nat → Addr} {σd : Sl} {σ : L2.St} {S : Store} {H : Hp} {x y : D} {S1 S2 : Store} {k : Bool} (r : Rel X.K L H ρ S) (rs : RS X.K L H ρ S.n σd σ) (e1 : evC G cf ca σd S = .ok x S1) (e2 : evC G cf cb σd S1 = .ok y S2) (e3 : evCm G S2 o x y = some k)
    {pins : List (Addr × Obj)} {s : Shared} (I : Inv X pins σ H s) {Q : Value → Shared → Prop} (hq : ∀ s' H' ρ', Inv X pins σ H' s' → Nx X.K L S H ρ S2 H' ρ' → Q (.bool k) s') :
    wpAny (model X.prog X.w) X.A (eval a X.env) (fun v s₁ => wpAny (model X.prog X.w) X.A (eval b X.env) (fun u s₂ => wpAny (model X.prog X.w) X.A (compareOp op v u) Q X.xe s₂) X.xe s₁) X.xe s := by
  refine thn (ha.run ρ σd σ S H x S1 (fun v H1 => ∃ ρ1, Nx X.K L S H ρ S1 H1 ρ1 ∧ Rp X.K L H1 ρ1 S1.n x v) r rs e1 (fun ρ' H' v n p => ⟨ρ', n, p⟩) pins s I) fun u s1 ⟨v, H1, I1, rv, ρ1, n1, p1⟩ => ?_
  refine thn (hb.run ρ1 σd σ S1 H1 y S2 (fun w H2 => ∃ ρ2, Nx X.K L S1 H1 ρ1 S2 H2 ρ2 ∧ Rp X.K L H2 ρ2 S2.n y w) n1.r (n1.rs rs) e2 (fun ρ' H' v n p => ⟨ρ', n, p⟩) pins s1 I1) fun u2 s2 ⟨w, H2, I2, rw', ρ2, n2, p2⟩ => ?_
  obtain ⟨r2, ho2, hq2⟩ := ho ρ2 S2 H2 x y k v w n2.r (n2.rp p1) p2 e3
  refine thn (ho2 pins s2 σ H2 v w u u2 (fun z H3 => z = .bl k ∧ H3 = H2) I2 rv rw' (hq2 _ ⟨rfl, rfl⟩)) fun c s3 ⟨z, H3, I3, rz, ez, eh⟩ => ?_
  subst ez
  subst eh
  obtain rfl : c = Value.bool k := rz
  exact hq s3 _ ρ2 I3 (n1.trans n2)
theorem map_bl {o : Option Bool} {S S' : Store} {d : D} (h : Res.of (o.map D.bl) S = .ok d S') : ∃ k, o = some k ∧ d = .bl k ∧ S' = S := by
  obtain ⟨h1, h2⟩ := Res.of_ok h
  cases o with
  | none => cases h1
  | some k => exact ⟨k, rfl, (Option.some.inj h1).symm, h2⟩
theorem si_cmp {a b : Expr} {ca cb : C} {pos : Pos} {op : CmpOp} {o : Cm} (ho : CmD X L (compareOp op) (fun S x y => evCm G S o x y)) (ha : Sim X L G cf a ca) (hb : Sim X L G cf b cb) (hm : behindInMarks op b = false) : Sim X L G cf (.Compare a [op] [b] pos) (.cmp o ca cb) := by
  refine ⟨fun ρ σd σ S H d S' Q r rs h k => fun pins s I => ?_⟩
  obtain ⟨x, S1, e1, h⟩ := Res.bind_ok (show (evC G cf ca σd S).bind (fun x S1 => (evC G cf cb σd S1).bind fun y S2 => Res.of ((evCm G S2 o x y).map .bl) S2) = .ok d S' from h)
  obtain ⟨y, S2, e2, h⟩ := Res.bind_ok h
  obtain ⟨kb, e3, rfl, rfl⟩ := map_bl h
  exact wpAny_Compare1 (cmp_run ho ha hb r rs e1 e2 e3 I fun s' H' ρ' I' n => ⟨.bl kb, H', I', rfl, k ρ' H' _ n rfl⟩) hm
theorem st_cmp {a b : Expr} {ca cb : C} {pos : Pos} {op : CmpOp} {o : Cm} (ho : CmD X L (compareOp op) (fun S x y => evCm G S o x y)) (ha : Sim X L G cf a ca) (hb : Sim X L G cf b cb) (hm : behindInMarks op b = false) : SimT X L G cf (.Compare a [op] [b] pos) (.cmp o ca cb) := by
  refine ⟨fun ρ σd σ S H d kk S' Q r rs h ht k => fun pins s I => ?_⟩
  obtain ⟨x, S1, e1, h⟩ := Res.bind_ok (show (evC G cf ca σd S).bind (fun x S1 => (evC G cf cb σd S1).bind fun y S2 => Res.of ((evCm G S2 o x y).map .bl) S2) = .ok d S' from h)
  obtain ⟨y, S2, e2, h⟩ := Res.bind_ok h
  obtain ⟨kb, e3, rfl, rfl⟩ := map_bl h
  cases ht
  exact wpAny_isTrue_Compare1 (cmp_run ho ha hb r rs e1 e2 e3 I fun s' H' ρ' I' n => wpAny_truthy_bool ⟨H', I', k ρ' H' n⟩) hm

/-! ### one operand -/
theorem si_un {a : Expr} {ca : C} {pos : Pos} {op : UnaryOp} {o : Un} {g : Int → Int} (ho : UnR X (unaryOp op) (rU fun i => .int (g i))) (hd : ∀ S x d S', evUn S o x = .ok d S' → ∃ i, x = .int i ∧ d = .int (g i) ∧ S' = S) (ha : Sim X L G cf a ca) : Sim X L G cf (.UnaryOp op a pos) (.un o ca) := by
  refine ⟨fun ρ σd σ S H d S' Q r rs h k => ?_⟩
  obtain ⟨x, S1, e1, h⟩ := Res.bind_ok (show (evC G cf ca σd S).bind (fun x S1 => evUn S1 o x) = .ok d S' from h)
  obtain ⟨i, rfl, rfl, rfl⟩ := hd _ _ _ _ h
  refine ofE (pe_un ho (pE a)) (ha.run ρ σd σ S H _ _ _ r rs e1 fun ρ' H' v n p => ?_)
  exact ⟨i, p, k ρ' H' _ n rfl⟩
theorem un_neg_d : ∀ S x d S', evUn S .neg x = .ok d S' → ∃ i, x = .int i ∧ d = .int (-i) ∧ S' = S := fun S x d S' h => by
  cases x <;> first | (cases h; exact ⟨_, rfl, rfl, rfl⟩) | cases h
theorem un_inv_d : ∀ S x d S', evUn S .inv x = .ok d S' → ∃ i, x = .int i ∧ d = .int (Builtin.bitNot i) ∧ S' = S := fun S x d S' h => by
  cases x <;> first | (cases h; exact ⟨_, rfl, rfl, rfl⟩) | cases h
theorem tru_of {ρ : Nat → Addr} {S : Store} {H : Hp} {d : D} {v : V} {b : Bool} (r : Rel X.K L H ρ S) (p : Rp X.K L H ρ S.n d v) (h : truth S d = some b) : TruV X.K v H b := by
  cases d with
  | non => cases (show v = .non from p); cases h; rfl
  | bl c => cases (show v = .bl c from p); cases h; rfl
  | int i => cases (show v = .int i from p); cases h; rfl
  | str x =>
    cases (show v = .str x from p)
    have h1 : (if x.length ≤ sizeLine then some ((x.length : Int) != 0) else none) = some b := h
    split at h1
    · cases h1; exact ⟨by assumption, rfl⟩
    · cases h1
  | tup l =>
    obtain ⟨a, vs, rfl, hs, hl⟩ := (show ∃ a vs, v = .ref a ∧ SqT X.K H a vs ∧ RpL X.K L H ρ S.n l vs from p)
    cases h
    refine .inr (.inl ⟨vs, hs, ?_⟩)
    have e := hl.length
    cases l <;> cases vs <;> first | rfl | cases e
  | ref i =>
    obtain ⟨_, rfl⟩ := (show i < S.n ∧ v = .ref (ρ i) from p)
    have h1 : (match S.get i with | some (.lst _ l) => some (!l.isEmpty) | _ => none) = some b := h
    split at h1
    · rename_i w l e
      cases h1
      have x := r.cell i _ e
      cases w with
      | true =>
        obtain ⟨vs, hs, hl⟩ := x
        refine .inl ⟨vs, SqL.of hs, ?_⟩
        have e := hl.length
        cases l <;> cases vs <;> first | rfl | cases e
      | false =>
        obtain ⟨vs, hs, hl⟩ := x
        refine .inl ⟨vs, hs.sq, ?_⟩
        have e := hl.length
        cases l <;> cases vs <;> first | rfl | cases e
    · cases h1
  | kd i => cases h
theorem si_not {a : Expr} {ca : C} {pos : Pos} (ha : Sim X L G cf a ca) : Sim X L G cf (.UnaryOp .Not a pos) (.not ca) := by
  refine ⟨fun ρ σd σ S H d S' Q r rs h k => fun pins s I => ?_⟩
  obtain ⟨x, S1, e1, h⟩ := Res.bind_ok (show (evC G cf ca σd S).bind (fun x S1 => Res.of ((truth S1 x).map fun b => .bl (!b)) S1) = .ok d S' from h)
  obtain ⟨h1, rfl⟩ := Res.of_ok h
  cases e2 : truth S' x with
  | none => rw [e2] at h1; cases h1
  | some b =>
    rw [e2] at h1
    cases h1
    refine UnaryOp_ (thn (ha.run ρ σd σ S H x S' (fun v H1 => ∃ ρ1, Nx X.K L S H ρ S' H1 ρ1 ∧ Rp X.K L H1 ρ1 S'.n x v) r rs e1 (fun ρ' H' v n p => ⟨ρ', n, p⟩) pins s I) fun u s1 ⟨v, H1, I1, rv, ρ1, n1, p1⟩ => ?_)
    refine not_of (thn (tru_ok pins s1 σ H1 v u (fun c H2 => c = b ∧ H2 = H1) I1 rv ⟨b, tru_of n1.r p1 e2, rfl, rfl⟩) fun c s2 ⟨H2, I2, ec, eh⟩ => ?_)
    subst ec
    subst eh
    exact ⟨.bl (!c), H2, I2, rfl, k ρ1 H2 _ n1 rfl⟩
/-- an expression whose test is its value's truth -/
theorem st_val {a : Expr} {ca : C} (ha : Sim X L G cf a ca) (he : ∀ whole, isTrue a X.env whole = (do let v ← whole; standAt a.pos; holding [v] (truthy v)) := by intro _; rfl) : SimT X L G cf a ca := by
  refine ⟨fun ρ σd σ S H d b S' Q r rs h ht k => ?_⟩
  exact ofT (pt_truth (pE a) he) (ha.run ρ σd σ S H d S' _ r rs h fun ρ' H' v n p => ⟨b, tru_of n.r p ht, k ρ' H' n⟩)
theorem st_not {a : Expr} {ca : C} {pos : Pos} (ha : SimT X L G cf a ca) : SimT X L G cf (.UnaryOp .Not a pos) (.not ca) := by
  refine ⟨fun ρ σd σ S H d b S' Q r rs h ht k => ?_⟩
  obtain ⟨x, S1, e1, h⟩ := Res.bind_ok (show (evC G cf ca σd S).bind (fun x S1 => Res.of ((truth S1 x).map fun b => .bl (!b)) S1) = .ok d S' from h)
  obtain ⟨h1, rfl⟩ := Res.of_ok h
  cases e2 : truth S' x with
  | none => rw [e2] at h1; cases h1
  | some c =>
    rw [e2] at h1
    cases h1
    cases ht
    exact ofT (pt_not (pT a)) (ha.run ρ σd σ S H x c S' _ r rs e1 e2 fun ρ' H' n => k ρ' H' n)

/-! ### and, or, if else -/
theorem si_one {a : Expr} {ca : C} {op : BoolOp} {pos : Pos} (ha : Sim X L G cf a ca) : Sim X L G cf (.BoolOp op [a] pos) ca :=
  ⟨fun ρ σd σ S H d S' Q r rs h k => ofE (pe_one (pE a)) (ha.run ρ σd σ S H d S' Q r rs h k)⟩
theorem si_and {a b : Expr} {rest : List Expr} {ca cb : C} {pos : Pos} (ha : Sim X L G cf a ca) (hb : Sim X L G cf (.BoolOp .And (b :: rest) pos) cb) : Sim X L G cf (.BoolOp .And (a :: b :: rest) pos) (.and ca cb) := by
  refine ⟨fun ρ σd σ S H d S' Q r rs h k => ?_⟩
  obtain ⟨x, S1, e1, h⟩ := Res.bind_ok (show (evC G cf ca σd S).bind (fun x S1 => match x with | .bl true => evC G cf cb σd S1 | .bl false => .ok (.bl false) S1 | _ => .stuck) = .ok d S' from h)
  refine ofE (pe_and (pE a) (pE _)) (ha.run ρ σd σ S H x S1 _ r rs e1 fun ρ' H' v n p => ?_)
  split at h
  · cases (show v = .bl true from p)
    refine ⟨true, rfl, ?_⟩
    rw [if_pos rfl]
    exact hb.run ρ' σd σ S1 H' d S' Q n.r (n.rs rs) h fun ρ2 H2 v2 n2 p2 => k ρ2 H2 v2 (n.trans n2) p2
  · cases (show v = .bl false from p)
    cases h
    refine ⟨false, rfl, ?_⟩
    rw [if_neg Bool.false_ne_true]
    exact k ρ' H' _ n rfl
  · cases h
theorem si_or {a b : Expr} {rest : List Expr} {ca cb : C} {pos : Pos} (ha : Sim X L G cf a ca) (hb : Sim X L G cf (.BoolOp .Or (b :: rest) pos) cb) : Sim X L G cf (.BoolOp .Or (a :: b :: rest) pos) (.or ca cb) := by
  refine ⟨fun ρ σd σ S H d S' Q r rs h k => ?_⟩
  obtain ⟨x, S1, e1, h⟩ := Res.bind_ok (show (evC G cf ca σd S).bind (fun x S1 => match x with | .bl true => .ok (.bl true) S1 | .bl false => evC G cf cb σd S1 | _ => .stuck) = .ok d S' from h)
  refine ofE (pe_or (pE a) (pE _)) (ha.run ρ σd σ S H x S1 _ r rs e1 fun ρ' H' v n p => ?_)
  split at h
  · cases (show v = .bl true from p)
    cases h
    refine ⟨true, rfl, ?_⟩
    rw [if_pos rfl]
    exact k ρ' H' _ n rfl
  · cases (show v = .bl false from p)
    refine ⟨false, rfl, ?_⟩
    rw [if_neg Bool.false_ne_true]
    exact hb.run ρ' σd σ S1 H' d S' Q n.r (n.rs rs) h fun ρ2 H2 v2 n2 p2 => k ρ2 H2 v2 (n.trans n2) p2
  · cases h
/-- a test made of tests, whatever its whole -/
structure SimW' (X : Cx) (L : Pl) (G : Gd) (cf : Nat → List D → Store → Res D) (e : Expr) (c : C) : Prop where
  run : ∀ (ρ : Nat → Addr) (σd : Sl) (σ : L2.St) (S : Store) (H : Hp) (d : D) (b : Bool) (S' : Store) (Q : Bool → Hp → Prop), Rel X.K L H ρ S → RS X.K L H ρ S.n σd σ → evC G cf c σd S = .ok d S' → truth S' d = some b →
    (∀ ρ' H', Nx X.K L S H ρ S' H' ρ' → Q b H') → wW X e σ H Q
theorem sw_and1 {a : Expr} {ca : C} {pos : Pos} (ha : SimT X L G cf a ca) : SimW' X L G cf (.BoolOp .And [a] pos) ca :=
  ⟨fun ρ σd σ S H d b S' Q r rs h ht k => ofW (pw_and1 (pT a)) (ha.run ρ σd σ S H d b S' Q r rs h ht k)⟩
theorem sw_or1 {a : Expr} {ca : C} {pos : Pos} (ha : SimT X L G cf a ca) : SimW' X L G cf (.BoolOp .Or [a] pos) ca :=
  ⟨fun ρ σd σ S H d b S' Q r rs h ht k => ofW (pw_or1 (pT a)) (ha.run ρ σd σ S H d b S' Q r rs h ht k)⟩
theorem sw_and {a b : Expr} {rest : List Expr} {ca cb : C} {pos : Pos} (ha : SimT X L G cf a ca) (hb : SimW' X L G cf (.BoolOp .And (b :: rest) pos) cb) : SimW' X L G cf (.BoolOp .And (a :: b :: rest) pos) (.and ca cb) := by
  refine ⟨fun ρ σd σ S H d bb S' Q r rs h ht k => ?_⟩
  obtain ⟨x, S1, e1, h⟩ := Res.bind_ok (show (evC G cf ca σd S).bind (fun x S1 => match x with | .bl true => evC G cf cb σd S1 | .bl false => .ok (.bl false) S1 | _ => .stuck) = .ok d S' from h)
  split at h
  · refine ofW (pw_and (pT a) (pW _)) (ha.run ρ σd σ S H _ true S1 _ r rs e1 rfl fun ρ' H' n => ?_)
    rw [if_pos rfl]
    exact hb.run ρ' σd σ S1 H' d bb S' Q n.r (n.rs rs) h ht fun ρ2 H2 n2 => k ρ2 H2 (n.trans n2)
  · cases h
    cases ht
    refine ofW (pw_and (pT a) (pW _)) (ha.run ρ σd σ S H _ false _ _ r rs e1 rfl fun ρ' H' n => ?_)
    rw [if_neg Bool.false_ne_true]
    exact k ρ' H' n
  · cases h
theorem sw_or {a b : Expr} {rest : List Expr} {ca cb : C} {pos : Pos} (ha : SimT X L G cf a ca) (hb : SimW' X L G cf (.BoolOp .Or (b :: rest) pos) cb) : SimW' X L G cf (.BoolOp .Or (a :: b :: rest) pos) (.or ca cb) := by
  refine ⟨fun ρ σd σ S H d bb S' Q r rs h ht k => ?_⟩
  obtain ⟨x, S1, e1, h⟩ := Res.bind_ok (show (evC G cf ca σd S).bind (fun x S1 => match x with | .bl true => .ok (.bl true) S1 | .bl false => evC G cf cb σd S1 | _ => .stuck) = .ok d S' from h)
  split at h
  · cases h
    cases ht
    refine ofW (pw_or (pT a) (pW _)) (ha.run ρ σd σ S H _ true _ _ r rs e1 rfl fun ρ' H' n => ?_)
    rw [if_pos rfl]
    exact k ρ' H' n
  · refine ofW (pw_or (pT a) (pW _)) (ha.run ρ σd σ S H _ false S1 _ r rs e1 rfl fun ρ' H' n => ?_)
    rw [if_neg Bool.false_ne_true]
    exact hb.run ρ' σd σ S1 H' d bb S' Q n.r (n.rs rs) h ht fun ρ2 H2 n2 => k ρ2 H2 (n.trans n2)
  · cases h
theorem st_w {e : Expr} {c : C} (h : SimW' X L G cf e c) : SimT X L G cf e c := ⟨fun ρ σd σ S H d b S' Q r rs he ht k => ofT (pW e).pt (h.run ρ σd σ S H d b S' Q r rs he ht k)⟩
theorem si_ite {t a b : Expr} {ct ca cb : C} {pos : Pos} (hc : SimT X L G cf t ct) (ha : Sim X L G cf a ca) (hb : Sim X L G cf b cb) : Sim X L G cf (.IfExp t a b pos) (.ite ct ca cb) := by
  refine ⟨fun ρ σd σ S H d S' Q r rs h k => ?_⟩
  obtain ⟨x, S1, e1, h⟩ := Res.bind_ok (show (evC G cf ct σd S).bind (fun x S1 => (Res.of (truth S1 x) S1).bind fun k S2 => if k then evC G cf ca σd S2 else evC G cf cb σd S2) = .ok d S' from h)
  obtain ⟨kb, S2, e2, h⟩ := Res.bind_ok h
  obtain ⟨e3, rfl⟩ := Res.of_ok e2
  refine ofE (pe_ifExp (pT t) (pE a) (pE b)) (hc.run ρ σd σ S H x kb S2 _ r rs e1 e3 fun ρ' H' n => ?_)
  cases kb with
  | true =>
    rw [if_pos rfl]
    rw [if_pos rfl] at h
    exact ha.run ρ' σd σ S2 H' d S' Q n.r (n.rs rs) h fun ρ2 H2 v2 n2 p2 => k ρ2 H2 v2 (n.trans n2) p2
  | false =>
    rw [if_neg Bool.false_ne_true]
    rw [if_neg Bool.false_ne_true] at h
    exact hb.run ρ' σd σ S2 H' d S' Q n.r (n.rs rs) h fun ρ2 H2 v2 n2 p2 => k ρ2 H2 v2 (n.trans n2) p2

/-! ### lists of arguments, displays -/
theorem sa_nil : SimA X L G cf [] .nil := ⟨fun ρ σd σ S H ds S' Q r rs h k => by cases h; exact ofA pa_nil (k ρ H _ (Nx.refl r) RpL.nil)⟩
theorem sa_cons {e : Expr} {es : List Expr} {c : C} {cs : Cs} (ha : Sim X L G cf e c) (hr : SimA X L G cf es cs) (hs : starEach (e :: es) X.env = (false, eval e X.env) :: starEach es X.env := by rfl) : SimA X L G cf (e :: es) (.cons c cs) := by
  refine ⟨fun ρ σd σ S H ds S' Q r rs h k => ?_⟩
  obtain ⟨x, S1, e1, h⟩ := Res.bind_ok (show (evC G cf c σd S).bind (fun d S1 => (evCs G cf cs σd S1).bind fun ds S2 => .ok (d :: ds) S2) = .ok ds S' from h)
  obtain ⟨xs, S2, e2, h⟩ := Res.bind_ok h
  cases h
  refine ofA (pa_cons (pE e) (pA es) hs) (ha.run ρ σd σ S H x S1 _ r rs e1 fun ρ' H' v n p => ?_)
  refine hr.run ρ' σd σ S1 H' xs S' _ n.r (n.rs rs) e2 fun ρ2 H2 vs n2 p2 => ?_
  exact k ρ2 H2 _ (n.trans n2) (RpL.cons (n2.rp p) p2)
theorem si_tup {es : List Expr} {cs : Cs} {x1 : Nat} {pos : Pos} (ha : SimA X L G cf es cs) : Sim X L G cf (.Tuple es x1 pos) (.tup cs) := by
  refine ⟨fun ρ σd σ S H d S' Q r rs h k => ?_⟩
  obtain ⟨ds, S1, e1, h⟩ := Res.bind_ok (show (evCs G cf cs σd S).bind (fun ds S1 => if ds.length ≤ sizeLine then .ok (.tup ds) S1 else .stuck) = .ok d S' from h)
  split at h
  · rename_i hl
    cases h
    refine ofE (pe_tup (pA es)) (ha.run ρ σd σ S H ds S' _ r rs e1 fun ρ' H' vs n p => ?_)
    refine ⟨by rw [← p.length]; exact hl, fun q hq => ?_⟩
    have n2 := n.r.new (o := .tup vs) hq
    exact k ρ' _ _ (n.trans n2) ⟨q, vs, rfl, SqT.of upd_same, n2.rpl p⟩
  · cases h
theorem si_lst {es : List Expr} {cs : Cs} {pos : Pos} (ha : SimA X L G cf es cs) : Sim X L G cf (.List es pos) (.lst cs) := by
  refine ⟨fun ρ σd σ S H d S' Q r rs h k => ?_⟩
  obtain ⟨ds, S1, e1, h⟩ := Res.bind_ok (show (evCs G cf cs σd S).bind (fun ds S1 => if ds.length ≤ sizeLine then .ok (.ref S1.n) (S1.push (.lst true ds)) else .stuck) = .ok d S' from h)
  split at h
  · rename_i hl
    cases h
    refine ofE (pe_lst (pA es)) (ha.run ρ σd σ S H ds S1 _ r rs e1 fun ρ' H' vs n p => ?_)
    refine ⟨by rw [← p.length]; exact hl, fun q hq => ?_⟩
    have n2 := n.r.push (o := .lst vs) (c := .lst true ds) hq ⟨vs, upd_same, p.mono (TM.new hq) more_agree (Nat.le_succ _)⟩
    exact k _ _ _ (n.trans n2) ⟨Nat.lt_succ_self _, by rw [more_new]⟩
  · cases h
end
end PD

/-! PD3: operators and comparisons by values. -/
namespace PD
open PySem PySem.Spec PyProof.Rows L2
section
variable {X : Cx} {L : Pl} {G : Gd}
theorem od_int {f : Value → Value → Sem Value} {o : Op} {g : Int → Int → Int} (P : Int → Int → Prop) (rule : OpR X f (rI P fun i j => .int (g i j)))
    (he : ∀ S x y d S', evOp S o x y = .ok d S' → ∃ i j, x = .int i ∧ y = .int j ∧ P i j ∧ d = .int (g i j) ∧ S' = S) : OpD X L f (fun S x y => evOp S o x y) := by
  intro ρ S H x y d S' vx vy r px py h
  obtain ⟨i, j, rfl, rfl, hp, rfl, rfl⟩ := he S x y d S' h
  cases (show vx = .int i from px)
  cases (show vy = .int j from py)
  exact ⟨_, rule, fun Q k => ⟨i, j, rfl, rfl, hp, k ρ H _ (Nx.refl r) rfl⟩⟩
theorem OpR.of0 {f : Value → Value → Sem Value} {g : Int → Int → V} (h : OpR X f (rI0 g)) : OpR X f (rI (fun _ _ => True) g) := fun pins s σ H x y v u Q I rx ry ⟨i, j, e1, e2, _, q⟩ => h pins s σ H x y v u Q I rx ry ⟨i, j, e1, e2, q⟩
local macro_rules | `(tactic| walk_at "pd_int") => `(tactic| (intro S x y d S' h; cases x <;> cases y <;> first | cases h; done | exact ⟨_, _, rfl, rfl, trivial, by cases h; rfl, by cases h; rfl⟩ | (simp only [evOp] at h; split at h; (rename_i hc; cases h; exact ⟨_, _, rfl, rfl, hc, rfl, rfl⟩); cases h)))
theorem od_sub : OpD X L (binaryOp .Sub) (fun S x y => evOp S .sub x y) := od_int _ (OpR.of0 op_sub) (by walk_at "pd_int")
theorem od_fdiv : OpD X L (binaryOp .FloorDiv) (fun S x y => evOp S .fdiv x y) := od_int _ op_fdiv (by walk_at "pd_int")
theorem od_mod : OpD X L (binaryOp .Mod) (fun S x y => evOp S .mod x y) := od_int _ op_mod (by walk_at "pd_int")
theorem od_pow : OpD X L (binaryOp .Pow) (fun S x y => evOp S .pow x y) := od_int _ op_pow (by walk_at "pd_int")
theorem od_shl : OpD X L (binaryOp .LShift) (fun S x y => evOp S .shl x y) := od_int _ op_shl (by walk_at "pd_int")
theorem od_shr : OpD X L (binaryOp .RShift) (fun S x y => evOp S .shr x y) := od_int _ op_shr (by walk_at "pd_int")
theorem od_band : OpD X L (binaryOp .BitAnd) (fun S x y => evOp S .band x y) := od_int _ (OpR.of0 op_and) (by walk_at "pd_int")
theorem od_bor : OpD X L (binaryOp .BitOr) (fun S x y => evOp S .bor x y) := od_int _ (OpR.of0 op_or) (by walk_at "pd_int")
theorem od_bxor : OpD X L (binaryOp .BitXor) (fun S x y => evOp S .bxor x y) := od_int _ (OpR.of0 op_xor) (by walk_at "pd_int")
/-! () + t is t itself -/
theorem tuple_addW0 (t b : Addr) (items items2 : Array Value) (n n2 : Nat) (dd dd2 : Option Addr) (sl sl2 : Array (Option Value)) (h1 : items.isEmpty = true) :
    PySem.Meets (Builtin.«tuple.__add__» ⟨[.ref t, .ref b], []⟩) (fun _ R s => s.heap.get? t = some { cls := .type "tuple", dict := dd, data := .seq items n, slots := sl } ∧ s.heap.get? b = some { cls := .type "tuple", dict := dd2, data := .seq items2 n2, slots := sl2 } ∧
      R (.ok (.ret (Value.ref b))) { s with heap := s.heap, toks := s.toks }) :=
  .of_wp fun prog w A R s h => by
    obtain ⟨hp, g, d, tk, os⟩ := s
    obtain ⟨hl, hb, h⟩ := h
    have f1 := PySem.AutoSeq1.idx_int
    have f2 := PySem.AutoSeq1.sub_tuple_tuple
    have f3 := PySem.AutoSeq1.sub_list_list
    have f4 := PySem.AutoSeq1.sub_tuple_list
    have f5 := PySem.AutoSeq1.sub_list_tuple
    wp_walk using wpAny_loadPart' hl, wpAny_loadPart' hb
    exact ⟨_, rfl, h⟩
theorem cat_tup0 {prog : Program} {w : World} {A : Around} {E : Value → Shared → Prop} {s : Shared} {t b : Addr} {ws : List Value} {Q : Value → Shared → Prop} (ht : IsTup s.heap t ([] : List Value).toArray) (hb : IsTup s.heap b ws.toArray) (h1 : Q (.ref b) s) : wpAny (model prog w) A (binaryOp .Add (.ref t) (.ref b)) Q E s := by
  obtain ⟨⟨cls, dd, data, sl⟩, ho, hc, n, hd⟩ := id ht
  obtain ⟨⟨cls2, dd2, data2, sl2⟩, ho2, hc2, n2, hd2⟩ := id hb
  simp only at hc hd hc2 hd2
  subst hc hd hc2 hd2
  exact concat_meets ⟨_, ho, rfl⟩ ⟨_, ho2, rfl⟩ noFill_tuple_add seq_tuple_add PySem.F.slot_tuple_add PySem.F.entry_tuple_add (PySem.F.args_tuple_add_2 _ _) (tuple_addW0 t b _ ws.toArray n n2 dd dd2 sl sl2 rfl) ⟨ho, ho2, h1⟩
def rCat0 (K : PySem.W.Frag) : R2 := fun x y H Q => ∃ a b ys, x = .ref a ∧ y = .ref b ∧ SqT K H a [] ∧ SqT K H b ys ∧ Q (.ref b) H
theorem op_cat0 : OpR X (binaryOp .Add) (rCat0 X.K) := by
  intro pins s σ H x y v u Q I rx ry h
  obtain ⟨a, b, ys, rfl, rfl, ha, hb, q⟩ := h
  cases rx
  cases ry
  obtain ⟨its, r1, p1, _⟩ := I.tuple ha
  obtain ⟨its2, r2, p2, _⟩ := I.tuple hb
  cases r1
  exact cat_tup0 p1 p2 ⟨.ref b, H, I, rfl, q⟩
theorem RpL.nil_iff {K : PySem.W.Frag} {H : Hp} {ρ : Nat → Addr} {n : Nat} {ds : List D} {vs : List V} (h : RpL K L H ρ n ds vs) : ds = [] ↔ vs = [] := by
  have e := h.length
  cases ds <;> cases vs <;> simp at e ⊢
theorem od_add : OpD X L (binaryOp .Add) (fun S x y => evOp S .add x y) := by
  intro ρ S H x y d S' vx vy r px py h
  cases x with
  | int i =>
    cases y <;> first | (cases h; done) | skip
    rename_i j
    cases h
    cases (show vx = .int i from px)
    cases (show vy = .int j from py)
    exact ⟨_, op_add, fun Q k => ⟨i, j, rfl, rfl, k ρ H _ (Nx.refl r) rfl⟩⟩
  | str i =>
    cases y <;> first | (cases h; done) | skip
    rename_i j
    have h1 : (if i.length + j.length ≤ sizeLine then Res.ok (D.str (i ++ j)) S else .stuck) = .ok d S' := h
    split at h1
    · rename_i hc
      cases h1
      cases (show vx = .str i from px)
      cases (show vy = .str j from py)
      exact ⟨_, op_add_str, fun Q k => ⟨i, j, rfl, rfl, hc, k ρ H _ (Nx.refl r) rfl⟩⟩
    · cases h1
  | tup i =>
    cases y <;> first | (cases h; done) | skip
    rename_i j
    have h1 : (if i.length + j.length ≤ sizeLine then Res.ok (D.tup (i ++ j)) S else .stuck) = .ok d S' := h
    split at h1
    · rename_i hc
      cases h1
      obtain ⟨a, xs, rfl, sa, la⟩ := (show ∃ a vs, vx = .ref a ∧ SqT X.K H a vs ∧ RpL X.K L H ρ S.n i vs from px)
      obtain ⟨b, ys, rfl, sb, lb⟩ := (show ∃ a vs, vy = .ref a ∧ SqT X.K H a vs ∧ RpL X.K L H ρ S.n j vs from py)
      by_cases hx : xs = []
      · subst hx
        have e := la.nil_iff.mpr rfl
        subst e
        exact ⟨_, op_cat0, fun Q k => ⟨a, b, ys, rfl, rfl, sa, sb, k ρ H _ (Nx.refl r) ⟨b, ys, rfl, sb, lb⟩⟩⟩
      · refine ⟨_, op_catT, fun Q k => ⟨a, b, xs, ys, rfl, rfl, sa, sb, hx, by rw [← la.length, ← lb.length]; exact hc, fun hy => ?_, fun hy q hq => ?_⟩⟩
        · have e := lb.nil_iff.mpr hy
          subst e
          refine k ρ H _ (Nx.refl r) ⟨a, xs, rfl, sa, ?_⟩
          rw [List.append_nil]
          exact la
        · have n2 := r.new (o := .tup (xs ++ ys)) hq
          exact k ρ _ _ n2 ⟨q, xs ++ ys, rfl, SqT.of upd_same, n2.rpl (la.append lb)⟩
    · cases h1
  | ref i =>
    cases y <;> first | (cases h; done) | skip
    rename_i j
    have h1 : (match S.get i, S.get j with
      | some (.lst true x), some (.lst true y) => if x.length + y.length ≤ sizeLine then Res.ok (D.ref S.n) (S.push (.lst true (x ++ y))) else .stuck
      | _, _ => .stuck) = .ok d S' := h
    split at h1
    · rename_i x y ei ej
      split at h1
      · rename_i hc
        cases h1
        obtain ⟨_, rfl⟩ := (show i < S.n ∧ vx = .ref (ρ i) from px)
        obtain ⟨_, rfl⟩ := (show j < S.n ∧ vy = .ref (ρ j) from py)
        obtain ⟨xs, ha, la⟩ := r.cell i _ ei
        obtain ⟨ys, hb, lb⟩ := r.cell j _ ej
        refine ⟨_, op_cat, fun Q k => ⟨_, _, xs, ys, rfl, rfl, ha, hb, by rw [← la.length, ← lb.length]; exact hc, fun q hq => ?_⟩⟩
        have n2 := r.push (o := .lst (xs ++ ys)) (c := .lst true (x ++ y)) hq ⟨_, upd_same, (la.append lb).mono (TM.new hq) more_agree (Nat.le_succ _)⟩
        exact k _ _ _ n2 ⟨Nat.lt_succ_self _, by rw [more_new]⟩
      · cases h1
    · cases h1
  | non => cases y <;> cases h
  | bl _ => cases y <;> cases h
  | kd _ => cases y <;> cases h
theorem od_mul : OpD X L (binaryOp .Mult) (fun S x y => evOp S .mul x y) := by
  intro ρ S H x y d S' vx vy r px py h
  cases x with
  | int i =>
    cases y <;> first | (cases h; done) | skip
    rename_i j
    have h1 : (if (-(2 ^ 64) < i ∧ i < 2 ^ 64) ∨ (-(2 ^ 64) < j ∧ j < 2 ^ 64) then Res.ok (D.int (i * j)) S else .stuck) = .ok d S' := h
    split at h1
    · rename_i hc
      cases h1
      cases (show vx = .int i from px)
      cases (show vy = .int j from py)
      exact ⟨_, op_mul, fun Q k => ⟨i, j, rfl, rfl, hc, k ρ H _ (Nx.refl r) rfl⟩⟩
    · cases h1
  | tup i =>
    cases y <;> first | (cases h; done) | skip
    rename_i j
    have h1 : (if (i.isEmpty = false) ∧ 2 ≤ j ∧ j ≤ 1000 ∧ i.length ≤ 1000 then Res.ok (D.tup (List.replicate j.toNat i).flatten) S else .stuck) = .ok d S' := h
    split at h1
    · rename_i hc
      obtain ⟨h0, h2, h3, h4⟩ := hc
      cases h1
      cases (show vy = .int j from py)
      obtain ⟨a, xs, rfl, sa, la⟩ := (show ∃ a vs, vx = .ref a ∧ SqT X.K H a vs ∧ RpL X.K L H ρ S.n i vs from px)
      refine ⟨_, op_repT, fun Q k => ⟨a, j, xs, rfl, rfl, sa, fun z => (by have e := la.nil_iff.mpr z; subst e; cases h0), h2, h3, by rw [← la.length]; exact h4, fun q hq => ?_⟩⟩
      have n2 := r.new (o := .tup (List.replicate j.toNat xs).flatten) hq
      exact k ρ _ _ n2 ⟨q, _, rfl, SqT.of upd_same, n2.rpl (la.replicate _)⟩
    · cases h1
  | non => cases y <;> cases h
  | bl _ => cases y <;> cases h
  | str _ => cases y <;> cases h
  | ref _ => cases y <;> cases h
  | kd _ => cases y <;> cases h

/-! ### comparisons -/
theorem cd_int {f : Value → Value → Sem Value} {o : Cm} {g : Int → Int → Bool} (rule : OpR X f (rI0 fun i j => .bl (g i j))) (he : ∀ S x y b, evCm G S o x y = some b → ∃ i j, x = .int i ∧ y = .int j ∧ b = g i j) : CmD X L f (fun S x y => evCm G S o x y) := by
  intro ρ S H x y b vx vy r px py h
  obtain ⟨i, j, rfl, rfl, rfl⟩ := he S x y b h
  cases (show vx = .int i from px)
  cases (show vy = .int j from py)
  exact ⟨_, rule, fun Q k => ⟨i, j, rfl, rfl, k⟩⟩
local macro_rules | `(tactic| walk_at "pd_cmi") => `(tactic| (intro S x y b h; cases x <;> cases y <;> first | (cases h; done) | (cases h; exact ⟨_, _, rfl, rfl, rfl⟩)))
theorem cd_lt : CmD X L (compareOp .Lt) (fun S x y => evCm G S .lt x y) := cd_int op_lt (by walk_at "pd_cmi")
theorem cd_le : CmD X L (compareOp .LtE) (fun S x y => evCm G S .le x y) := cd_int op_le (by walk_at "pd_cmi")
theorem cd_gt : CmD X L (compareOp .Gt) (fun S x y => evCm G S .gt x y) := cd_int op_gt (by walk_at "pd_cmi")
theorem cd_ge : CmD X L (compareOp .GtE) (fun S x y => evCm G S .ge x y) := cd_int op_ge (by walk_at "pd_cmi")
def toV : D → V
  | .non => .non | .bl b => .bl b | .int i => .int i | .str x => .str x | _ => .non
theorem flat_v {K : PySem.W.Frag} {H : Hp} {ρ : Nat → Addr} {n : Nat} {d : D} {v : V} (hf : flat d = true) (p : Rp K L H ρ n d v) : v = toV d ∧ flatV v = true := by
  cases d <;> first | (cases hf; done) | skip
  · cases (show v = .non from p); exact ⟨rfl, rfl⟩
  · rename_i b; cases (show v = .bl b from p); exact ⟨rfl, rfl⟩
  · rename_i b; cases (show v = .int b from p); exact ⟨rfl, rfl⟩
  · rename_i b; cases (show v = .str b from p); exact ⟨rfl, rfl⟩
theorem eqF_V {a b : D} (ha : flat a = true) (hb : flat b = true) : eqV (toV a) (toV b) = eqF a b := by
  cases a <;> cases b <;> first | rfl | (cases ha; done) | (cases hb; done)
/-- two flat values as data of the library -/
def pyF : D → PyData
  | .bl b => .bool b | .int i => .int i | .str x => .str x | _ => .none
theorem dp_flat {K : PySem.W.Frag} {H : Hp} {d : D} (hf : flat d = true) : Dp K H (toV d) (pyF d) := by
  cases d <;> first | (cases hf; done) | exact .non | exact .bl _ | exact .int _ | exact .str _
theorem eq_flat {f : Value → Value → Sem Value} {neg : Bool} {a b : D} (h1 : OpR X f (fun x y H Q => scal x y = true ∧ Q (.bl (if neg then !decide (x = y) else decide (x = y))) H))
    (h2 : OpR X f (fun x y H Q => ∃ d e, Dp X.K H x d ∧ Dp X.K H y e ∧ SeqAt.shaped d = true ∧ SeqAt.shaped e = true ∧ Q (.bl (if neg then !PyData.eqv d e else PyData.eqv d e)) H)) (ha : flat a = true) (hb : flat b = true) :
    ∃ r : R2, OpR X f r ∧ ∀ (H : Hp) (Q : VK), Q (.bl (if neg then !eqF a b else eqF a b)) H → r (toV a) (toV b) H Q := by
  have go : scal (toV a) (toV b) = true → decide (toV a = toV b) = eqF a b → ∃ r : R2, OpR X f r ∧ ∀ (H : Hp) (Q : VK), Q (.bl (if neg then !eqF a b else eqF a b)) H → r (toV a) (toV b) H Q := fun s e => ⟨_, h1, fun H Q q => ⟨s, by rw [e]; exact q⟩⟩
  cases a with
  | non => cases b <;> first | (cases hb; done) | exact go rfl (by simp [toV, eqF])
  | bl i =>
    cases b <;> first | (cases hb; done) | skip
    · exact go rfl (by simp [toV, eqF])
    · exact go rfl dec_bl
    · rename_i j
      exact ⟨_, h2, fun H Q q => ⟨_, _, .bl i, .int j, rfl, rfl, q⟩⟩
    · exact go rfl (by simp [toV, eqF])
  | int i =>
    cases b <;> first | (cases hb; done) | skip
    · exact go rfl (by simp [toV, eqF])
    · rename_i j
      exact ⟨_, h2, fun H Q q => ⟨_, _, .int i, .bl j, rfl, rfl, q⟩⟩
    · exact go rfl dec_int
    · exact go rfl (by simp [toV, eqF])
  | str i =>
    cases b <;> first | (cases hb; done) | skip
    · exact go rfl (by simp [toV, eqF])
    · exact go rfl (by simp [toV, eqF])
    · exact go rfl (by simp [toV, eqF])
    · exact go rfl dec_str
  | _ => cases ha
mutual
theorem py_dp {ρ : Nat → Addr} {S : Store} {H : Hp} (r : Rel X.K L H ρ S) : ∀ (n : Nat) {d : D} {v : V} {e : PyData}, Rp X.K L H ρ S.n d v → py S n d = some e → Dp X.K H v e
  | n, .non, v, e, p, h => by cases (show v = .non from p); cases n <;> (cases h; exact .non)
  | n, .bl b, v, e, p, h => by cases (show v = .bl b from p); cases n <;> (cases h; exact .bl b)
  | n, .int b, v, e, p, h => by cases (show v = .int b from p); cases n <;> (cases h; exact .int b)
  | n, .str b, v, e, p, h => by cases (show v = .str b from p); cases n <;> (cases h; exact .str b)
  | 0, .tup l, v, e, p, h => by cases h
  | n + 1, .tup l, v, e, p, h => by
    obtain ⟨a, xs, rfl, sa, la⟩ := (show ∃ a vs, v = .ref a ∧ SqT X.K H a vs ∧ RpL X.K L H ρ S.n l vs from p)
    obtain ⟨es, e1, rfl⟩ := Option.map_eq_some_iff.mp (show (pyL S n l).map .tuple = some e from h)
    exact .tup sa (pyL_dp r n la e1)
  | 0, .ref i, v, e, p, h => by cases h
  | n + 1, .ref i, v, e, p, h => by
    obtain ⟨_, rfl⟩ := (show i < S.n ∧ v = .ref (ρ i) from p)
    have h1 : (match S.get i with | some (.lst _ l) => (pyL S n l).map .list | _ => none) = some e := h
    split at h1
    · rename_i w l ei
      obtain ⟨es, e1, rfl⟩ := Option.map_eq_some_iff.mp h1
      have x := r.cell i _ ei
      cases w with
      | true =>
        obtain ⟨vs, hs, hl⟩ := x
        exact .lst (SqL.of hs) (pyL_dp r n hl e1)
      | false =>
        obtain ⟨vs, hs, hl⟩ := x
        exact .lst hs.sq (pyL_dp r n hl e1)
    · cases h1
  | n, .kd i, v, e, p, h => by cases n <;> cases h
theorem pyL_dp {ρ : Nat → Addr} {S : Store} {H : Hp} (r : Rel X.K L H ρ S) : ∀ (n : Nat) {ds : List D} {vs : List V} {es : List PyData}, RpL X.K L H ρ S.n ds vs → pyL S n ds = some es → DpAll X.K H vs es
  | n, [], vs, es, p, h => by
    cases (show vs = [] from p)
    cases n <;> (cases h; exact .nil)
  | 0, d :: ds, vs, es, p, h => by cases h
  | n + 1, d :: ds, vs, es, p, h => by
    obtain ⟨v, t, rfl, h1, h2⟩ := (show ∃ v r, vs = v :: r ∧ Rp X.K L H ρ S.n d v ∧ RpL X.K L H ρ S.n ds r from p)
    have h3 : (match py S n d, pyL S n ds with | some a, some b => some (a :: b) | _, _ => none) = some es := h
    split at h3
    · rename_i a b ea eb
      cases h3
      exact .cons (py_dp r n h1 ea) (pyL_dp r n h2 eb)
    · cases h3
end
theorem cd_eq (hu : X.A.units + 64 < cLine) : CmD X L (compareOp .Eq) (fun S x y => evCm G S .eq x y) := by
  intro ρ S H x y b vx vy r px py h
  have h1 : (if (flat x && flat y) = true then some (eqF x y) else (match PD.py S 64 x, PD.py S 64 y with
    | some d, some e => if (SeqAt.shaped d && SeqAt.shaped e) = true then some (PyData.eqv d e) else none
    | _, _ => none)) = some b := h
  split at h1
  · rename_i hf
    obtain ⟨hx, hy⟩ := Bool.and_eq_true_iff.mp hf
    obtain ⟨rfl, _⟩ := flat_v hx px
    obtain ⟨rfl, _⟩ := flat_v hy py
    cases h1
    obtain ⟨r2, ho, q⟩ := eq_flat (X := X) (f := compareOp .Eq) (neg := false) op_eq (op_eqD hu) hx hy
    exact ⟨r2, ho, fun Q k => q H Q k⟩
  · split at h1
    · rename_i d e ed ee
      split at h1
      · rename_i hs
        obtain ⟨s1, s2⟩ := Bool.and_eq_true_iff.mp hs
        cases h1
        exact ⟨_, op_eqD hu, fun Q k => ⟨d, e, py_dp r 64 px ed, py_dp r 64 py ee, s1, s2, k⟩⟩
      · cases h1
    · cases h1
theorem cd_ne (hu : X.A.units + 64 < cLine) : CmD X L (compareOp .NotEq) (fun S x y => evCm G S .ne x y) := by
  intro ρ S H x y b vx vy r px py h
  obtain ⟨b0, h1, rfl⟩ := Option.map_eq_some_iff.mp (show (eqD S x y).map (!·) = some b from h)
  have h1 : (if (flat x && flat y) = true then some (eqF x y) else (match PD.py S 64 x, PD.py S 64 y with
    | some d, some e => if (SeqAt.shaped d && SeqAt.shaped e) = true then some (PyData.eqv d e) else none
    | _, _ => none)) = some b0 := h1
  split at h1
  · rename_i hf
    obtain ⟨hx, hy⟩ := Bool.and_eq_true_iff.mp hf
    obtain ⟨rfl, _⟩ := flat_v hx px
    obtain ⟨rfl, _⟩ := flat_v hy py
    cases h1
    obtain ⟨r2, ho, q⟩ := eq_flat (X := X) (f := compareOp .NotEq) (neg := true) op_ne (op_neD hu) hx hy
    exact ⟨r2, ho, fun Q k => q H Q k⟩
  · split at h1
    · rename_i d e ed ee
      split at h1
      · rename_i hs
        obtain ⟨s1, s2⟩ := Bool.and_eq_true_iff.mp hs
        cases h1
        exact ⟨_, op_neD hu, fun Q k => ⟨d, e, py_dp r 64 px ed, py_dp r 64 py ee, s1, s2, k⟩⟩
      · cases h1
    · cases h1
theorem isNon_V {K : PySem.W.Frag} {H : Hp} {ρ : Nat → Addr} {n : Nat} {d : D} {v : V} (p : Rp K L H ρ n d v) : decide (v = .non) = isNon d := by
  cases d with
  | non => cases (show v = .non from p); rfl
  | bl b => cases (show v = .bl b from p); rfl
  | int b => cases (show v = .int b from p); rfl
  | str b => cases (show v = .str b from p); rfl
  | tup l =>
    obtain ⟨a, xs, rfl, sa, la⟩ := (show ∃ a vs, v = .ref a ∧ SqT K H a vs ∧ RpL K L H ρ n l vs from p)
    rfl
  | ref i => obtain ⟨_, rfl⟩ := (show i < n ∧ v = .ref (ρ i) from p); rfl
  | kd i => cases (show v = .ref (L.kda i) from p); rfl
theorem isNon_eq {d : D} (h : isNon d = true) : d = .non := by cases d <;> first | rfl | cases h
theorem cd_isN : CmD X L (compareOp .Is) (fun S x y => evCm G S .isN x y) := by
  intro ρ S H x y b vx vy r px py h
  have h1 : (if isNon y = true then some (isNon x) else none) = some b := h
  split at h1
  · rename_i hn
    cases isNon_eq hn
    cases h1
    cases (show vy = .non from py)
    exact ⟨_, op_isN, fun Q k => ⟨rfl, by rw [isNon_V px]; exact k⟩⟩
  · cases h1
theorem cd_notN : CmD X L (compareOp .IsNot) (fun S x y => evCm G S .notN x y) := by
  intro ρ S H x y b vx vy r px py h
  have h1 : (if isNon y = true then some (!isNon x) else none) = some b := h
  split at h1
  · rename_i hn
    cases isNon_eq hn
    cases h1
    cases (show vy = .non from py)
    exact ⟨_, op_notN, fun Q k => ⟨rfl, by rw [isNon_V px]; exact k⟩⟩
  · cases h1
theorem flatL_v {K : PySem.W.Frag} {H : Hp} {ρ : Nat → Addr} {n : Nat} {x : D} (hx : flat x = true) : ∀ {l : List D} {vs : List V}, RpL K L H ρ n l vs → l.all flat = true → vs.all flatV = true ∧ inV (toV x) vs = l.any fun y => eqF y x
  | [], vs, p, _ => by cases (show vs = [] from p); exact ⟨rfl, rfl⟩
  | d :: ds, vs, p, h => by
    obtain ⟨v, t, rfl, h1, h2⟩ := (show ∃ v r, vs = v :: r ∧ Rp K L H ρ n d v ∧ RpL K L H ρ n ds r from p)
    rw [List.all_cons, Bool.and_eq_true] at h
    obtain ⟨e1, e2⟩ := flat_v h.1 h1
    obtain ⟨f1, f2⟩ := flatL_v hx h2 h.2
    refine ⟨by rw [List.all_cons, e2, f1]; rfl, ?_⟩
    show (v :: t).any (fun y => eqV y (toV x)) = _
    rw [List.any_cons, List.any_cons, e1, eqF_V h.1 hx]
    exact congrArg _ f2
/-- a dict of the top with text keys, as told -/
structure KdOk (X : Cx) (L : Pl) (i : Nat) (t : List (Str × D)) : Prop where
  d : ∃ es n, KDict X.K X.w (L.kda i) es n
  at_ : ∀ z : Str, (t.lookup z = none ∧ PySem.W.nsIn X.K (L.kda i) z = some none) ∨ ∃ x u v, t.lookup z = some x ∧ PySem.W.nsIn X.K (L.kda i) z = some (some u) ∧ RelV v u ∧ ∀ H ρ n, Rp X.K L H ρ n x v
theorem inD_run {f : Value → Value → Sem Value} {neg : Bool} (hk : ∀ i t, G.kdt i = some t → KdOk X L i t)
    (h1 : OpR X f (fun x y H Q => ∃ p xs, y = .ref p ∧ (SqL X.K H p xs ∨ SqT X.K H p xs) ∧ flatV x = true ∧ xs.all flatV = true ∧ Q (.bl (if neg then !inV x xs else inV x xs)) H))
    (h2 : OpR X f (fun x y H Q => ∃ i j, x = .str i ∧ y = .str j ∧ Q (.bl (if neg then !(!(Builtin.Str.occurrences j i 0 j.length 1).isEmpty) else !(Builtin.Str.occurrences j i 0 j.length 1).isEmpty)) H))
    (h3 : OpR X f (fun x y H Q => ∃ (c : Nat) (z : Str), x = .str ⟨#[c]⟩ ∧ y = .str z ∧ Q (.bl (if neg then !decide (c ∈ z.cps.toList) else decide (c ∈ z.cps.toList))) H))
    (h4 : ∀ d es n, KDict X.K X.w d es n → OpR X f (fun x y H Q => ∃ (z : Str) (r : Option Value), x = .str z ∧ y = .ref d ∧ PySem.W.nsIn X.K d z = some r ∧ Q (.bl (if neg then !r.isSome else r.isSome)) H)) :
    CmD X L f (fun S x y => (inD S G x y).map fun b => if neg then !b else b) := by
  intro ρ S H x y b vx vy r px py h
  obtain ⟨b0, h0, rfl⟩ := Option.map_eq_some_iff.mp h
  have lst : ∀ (l : List D) (p : Addr) (vs : List V), (SqL X.K H p vs ∨ SqT X.K H p vs) → RpL X.K L H ρ S.n l vs → vy = .ref p → (if (flat x && l.all flat) = true then some (l.any fun y => eqF y x) else none) = some b0 → ∃ r2 : R2, OpR X f r2 ∧ ∀ Q : VK, Q (.bl (if neg then !b0 else b0)) H → r2 vx vy H Q := by
    intro l p vs hs hl ey hq
    split at hq
    · rename_i hf
      obtain ⟨hx, hy⟩ := Bool.and_eq_true_iff.mp hf
      obtain ⟨rfl, fx⟩ := flat_v hx px
      obtain ⟨f1, f2⟩ := flatL_v hx hl hy
      cases hq
      exact ⟨_, h1, fun Q k => ⟨p, vs, ey, hs, fx, f1, by rw [f2]; exact k⟩⟩
    · cases hq
  cases y with
  | str z =>
    cases x with
    | str w =>
      cases h0
      cases (show vx = .str w from px)
      cases (show vy = .str z from py)
      by_cases hc : ∃ c, w.cps.toList = [c]
      · obtain ⟨c, hc⟩ := hc
        have ew : w = ⟨#[c]⟩ := by
          cases w with
          | mk a => cases a with
            | mk l => simp at hc; rw [hc]
        refine ⟨_, h3, fun Q k => ⟨c, z, by rw [ew], rfl, ?_⟩⟩
        have e : inS w z = decide (c ∈ z.cps.toList) := by unfold inS; rw [hc]
        rw [e] at k
        exact k
      · refine ⟨_, h2, fun Q k => ⟨w, z, rfl, rfl, ?_⟩⟩
        have e : inS w z = !(Builtin.Str.occurrences z w 0 z.length 1).isEmpty := by
          unfold inS
          split
          · rename_i c e; exact (hc ⟨c, e⟩).elim
          · rfl
        rw [e] at k
        exact k
    | _ => cases h0
  | tup l =>
    obtain ⟨a, xs, ev, sa, la⟩ := (show ∃ a vs, vy = .ref a ∧ SqT X.K H a vs ∧ RpL X.K L H ρ S.n l vs from py)
    exact lst l a xs (.inr sa) la ev (by cases x <;> exact h0)
  | ref i =>
    obtain ⟨_, ev⟩ := (show i < S.n ∧ vy = .ref (ρ i) from py)
    have h5 : (match S.get i with | some (.lst _ l) => if (flat x && l.all flat) = true then some (l.any fun y => eqF y x) else none | _ => none) = some b0 := by cases x <;> exact h0
    split at h5
    · rename_i w l ei
      have c := r.cell i _ ei
      cases w with
      | true =>
        obtain ⟨vs, hs, hl⟩ := c
        exact lst l _ vs (.inl (SqL.of hs)) hl ev h5
      | false =>
        obtain ⟨vs, hs, hl⟩ := c
        exact lst l _ vs (.inl hs.sq) hl ev h5
    · cases h5
  | kd i =>
    cases (show vy = .ref (L.kda i) from py)
    cases x with
    | str z =>
      obtain ⟨t, ht, rfl⟩ := Option.map_eq_some_iff.mp (show ((G.kdt i).map fun t => (t.lookup z).isSome) = some b0 from h0)
      cases (show vx = .str z from px)
      obtain ⟨⟨es, n, D⟩, at_⟩ := hk i t ht
      refine ⟨_, h4 _ _ _ D, fun Q k => ?_⟩
      rcases at_ z with ⟨e1, e2⟩ | ⟨x, u, v, e1, e2, _⟩
      · refine ⟨z, none, rfl, rfl, e2, ?_⟩
        rw [e1] at k
        exact k
      · refine ⟨z, some u, rfl, rfl, e2, ?_⟩
        rw [e1] at k
        exact k
    | _ => cases h0
  | non => cases x <;> cases h0
  | bl _ => cases x <;> cases h0
  | int _ => cases x <;> cases h0
theorem cd_in (hk : ∀ i t, G.kdt i = some t → KdOk X L i t) : CmD X L (compareOp .In) (fun S x y => evCm G S .in_ x y) := by
  have h := inD_run (X := X) (L := L) (G := G) (f := compareOp .In) (neg := false) hk op_in_seq op_in_str op_in_sign (fun d es n D => op_in_kd D)
  intro ρ S H x y b vx vy r px py hb
  refine h ρ S H x y b vx vy r px py ?_
  show (inD S G x y).map (fun b => b) = some b
  rw [show (inD S G x y) = some b from hb]
  rfl
theorem cd_nin (hk : ∀ i t, G.kdt i = some t → KdOk X L i t) : CmD X L (compareOp .NotIn) (fun S x y => evCm G S .nin x y) := by
  have h := inD_run (X := X) (L := L) (G := G) (f := compareOp .NotIn) (neg := true) hk op_notIn_seq op_notin_str op_notIn_sign (fun d es n D => op_notIn_kd D)
  intro ρ S H x y b vx vy r px py hb
  exact h ρ S H x y b vx vy r px py hb
end
end PD

/-! PD4: calls, attributes, subscripts, built-ins. -/
namespace PD
open PySem PySem.Spec PyProof.Rows L2
/-- a def's promise: what the evaluator tells -/
def spD (K : PySem.W.Frag) (L : Pl) (cf : Nat → List D → Store → Res D) (f k : Nat) : Sp := fun vs H Q E => ∃ ρ S as d S', vs.length = k ∧ Rel K L H ρ S ∧ RpL K L H ρ S.n as vs ∧ cf f as S = .ok d S' ∧ ∀ ρ' H' v, Nx K L S H ρ S' H' ρ' → Rp K L H' ρ' S'.n d v → Q v H'
def tkV (L : Pl) : Tk → Value
  | .int => .type "int" | .bool => .type "bool" | .str => .type "str" | .list => .type "list" | .tuple => .type "tuple" | .dict => .type "dict" | .cls c => .ref (L.cla c)
def tkT (L : Pl) : Tk → V
  | .int => .ty "int" | .bool => .ty "bool" | .str => .ty "str" | .list => .ty "list" | .tuple => .ty "tuple" | .dict => .ty "dict" | .cls c => .ref (L.cla c)
def btN : Bt → String
  | .non => "NoneType" | .bool => "bool" | .int => "int" | .str => "str" | .list => "list" | .tuple => "tuple" | .dict => "dict"
def btV (b : Bt) : Value := .type (btN b)
def tks : List String := ["int", "bool", "str", "list", "tuple", "dict"]
section
variable (X : Cx) (L : Pl) (G : Gd) (cf : Nat → List D → Store → Res D)
/-- a def called by its contract at the level that X gives -/
structure FnAt (f k : Nat) (fa : Addr) (fd : FuncData) (ps : List Str) (j : Nat) : Prop where
  ok : FnOk X.prog X.w X.K X.mg X.base CX0 j fa fd ps (spD X.K L cf f k)
  room : Room j X.A
  ar : ∀ as S d S', cf f as S = .ok d S' → as.length = k
structure CallOk (x : Str) (f n : Nat) (sh : List Src) : Prop where
  ex : ∃ (k : Nat) (fa : Addr) (fd : FuncData) (ps : List Str) (j : Nat) (ds : List Value) (dvs : List V) (dl : List D), FnAt X L cf f k fa fd ps j ∧ X.mg x = some (.ref fa) ∧ PySem.W.keepIn X.K (.ref fa) = true ∧ Binds X.K fd ps ds ∧ Vals dvs ds ∧ n + dvs.length = k ∧
    (∀ as : List D, as.length = n → srcs as sh = some (as ++ dl)) ∧ ∀ H ρ m, RpL X.K L H ρ m dl dvs
structure CallK (x : Str) (f n : Nat) (ks : List Str) (sh : List Src) : Prop where
  ex : ∃ (k : Nat) (fa : Addr) (fd : FuncData) (ps : List Str) (j : Nat) (g : List Value → List Value → List Value) (gV : List V → List V → List V), FnAt X L cf f k fa fd ps j ∧ X.mg x = some (.ref fa) ∧ PySem.W.keepIn X.K (.ref fa) = true ∧ KBn X.K fd ps n ks g gV ∧
    ∀ as es vs zs H ρ m, RpL X.K L H ρ m as vs → RpL X.K L H ρ m es zs → as.length = n → es.length = ks.length → (gV vs zs).length = k ∧ ∃ bs, srcs (as ++ es) sh = some bs ∧ RpL X.K L H ρ m bs (gV vs zs)
structure MkOk (x : Str) (c f n : Nat) (sh : List Src) : Prop where
  ex : ∃ (k : Nat) (fa : Addr) (fd : FuncData) (ps : List Str) (j : Nat) (ds : List Value) (dvs : List V) (dl : List D), FnOk X.prog X.w X.K X.mg X.base CX0 j fa fd ps (spD X.K L cf f k) ∧ Room (j + 1) X.A ∧ Mk X.K (L.cla c) fa ∧ X.mg x = some (.ref (L.cla c)) ∧ Binds X.K fd ps ds ∧ Vals dvs ds ∧ n + 1 + dvs.length = k ∧
    (∀ as : List D, as.length = n + 1 → srcs as sh = some (as ++ dl)) ∧ ∀ H ρ m, RpL X.K L H ρ m dl dvs
structure MkK (x : Str) (c f n : Nat) (ks : List Str) (sh : List Src) : Prop where
  ex : ∃ (k : Nat) (fa : Addr) (fd : FuncData) (ps : List Str) (j : Nat) (g : List Value → List Value → List Value) (gV : List V → List V → List V), FnOk X.prog X.w X.K X.mg X.base CX0 j fa fd ps (spD X.K L cf f k) ∧ Room (j + 1) X.A ∧ Mk X.K (L.cla c) fa ∧ X.mg x = some (.ref (L.cla c)) ∧ KBn X.K fd ps (n + 1) ks g gV ∧
    ∀ as es vs zs H ρ m, RpL X.K L H ρ m as vs → RpL X.K L H ρ m es zs → as.length = n + 1 → es.length = ks.length → (gV vs zs).length = k ∧ ∃ bs, srcs (as ++ es) sh = some bs ∧ RpL X.K L H ρ m bs (gV vs zs)
/-- a class of the text -/
structure ClsOk (c : Nat) : Prop where
  prop : ∀ f g, (G.props c).lookup f = some g → Cls X.K (L.cla c) ∧ ∃ p fa fd ps j, PropOf X.K (L.cla c) f p fa ∧ FnOk X.prog X.w X.K X.mg X.base CX0 j fa fd ps (spD X.K L cf g 1) ∧ Room (j + 1) X.A ∧ Binds X.K fd ps []
  meth : ∀ m g, (G.meths c).lookup m = some g → Cls X.K (L.cla c) ∧ ∃ fa fd ps j k, Meth X.K (L.cla c) m fa ∧ FnAt X L cf g k fa fd ps j ∧ Binds X.K fd ps [] ∧ ps.length = k
  fld : ∀ f, (G.flds c).contains f = true → Cls X.K (L.cla c) ∧ NoAttr X.K (L.cla c) f
/-- isinstance of an instance of this class -/
structure IsiOk (c : Nat) : Prop where
  cls : Cls X.K (L.cla c)
  ha : PySem.W.findIn X.K (.ref (L.cla c)) "__class__" = some (some (.builtin "object.__class__"))
  hn : PySem.W.specialIn X.K (.builtin "object.__class__") "__get__" = some (some (.builtin "getset_descriptor.__get__"))
  htk : PySem.W.takesIn X.K (.builtin "object.__class__") = some true
  hm : PySem.W.mroIn X.K (L.cla c) (.type "object") = some true
structure EnvOk : Prop where
  calm : X.calm = true
  nd : X.N.Nodup
  hu : X.A.units + 64 < cLine
  cls : ∀ c, ClsOk X L G cf c
  kd : ∀ i t, G.kdt i = some t → KdOk X L i t
  isi : ∀ c, G.isc c = true → IsiOk X L c
  kbo : ∀ c b, G.isc c = true → PySem.W.kitOne X.K (btV b) (.ref (L.cla c)) = some false
  kob : ∀ c t, G.isc c = true → (∀ c', t ≠ .cls c') → PySem.W.kitOne X.K (.ref (L.cla c)) (tkV L t) = some false
  koo : ∀ c c', G.isc c = true → G.isc c' = true → PySem.W.kitOne X.K (.ref (L.cla c')) (.ref (L.cla c)) = some (c == c')
end
section
variable {X : Cx} {L : Pl} {G : Gd} {cf : Nat → List D → Store → Res D}
theorem evCs_len : ∀ (cs : Cs) {σ : Sl} {S : Store} {ds : List D} {S' : Store}, evCs G cf cs σ S = .ok ds S' → ds.length = cs.len
  | .nil, σ, S, ds, S', h => by cases h; rfl
  | .cons c r, σ, S, ds, S', h => by
    obtain ⟨x, T1, e1, h⟩ := Res.bind_ok (show (evC G cf c σ S).bind (fun d S1 => (evCs G cf r σ S1).bind fun ds S2 => .ok (d :: ds) S2) = .ok ds S' from h)
    obtain ⟨xs, T2, e2, h⟩ := Res.bind_ok h
    cases h
    show xs.length + 1 = r.len + 1
    rw [evCs_len r e2]
theorem evCs_app : ∀ (a b : Cs) {σ : Sl} {S : Store} {ds : List D} {S' : Store}, evCs G cf (a.app b) σ S = .ok ds S' → ∃ xs S1 ys, evCs G cf a σ S = .ok xs S1 ∧ evCs G cf b σ S1 = .ok ys S' ∧ ds = xs ++ ys
  | .nil, b, σ, S, ds, S', h => ⟨[], S, ds, rfl, h, rfl⟩
  | .cons c r, b, σ, S, ds, S', h => by
    obtain ⟨x, T1, e1, h⟩ := Res.bind_ok (show (evC G cf c σ S).bind (fun d S1 => (evCs G cf (r.app b) σ S1).bind fun ds S2 => .ok (d :: ds) S2) = .ok ds S' from h)
    obtain ⟨xs, T2, e2, h⟩ := Res.bind_ok h
    cases h
    obtain ⟨us, T3, ys, e3, e4, rfl⟩ := evCs_app r b e2
    refine ⟨x :: us, T3, ys, ?_, e4, rfl⟩
    show (evC G cf c σ S).bind (fun d S1 => (evCs G cf r σ S1).bind fun ds S2 => .ok (d :: ds) S2) = _
    rw [e1]
    show (evCs G cf r σ T1).bind (fun ds S2 => .ok (x :: ds) S2) = _
    rw [e3]
    rfl
/-- the keywords' values -/
structure SimK (X : Cx) (L : Pl) (G : Gd) (cf : Nat → List D → Store → Res D) (kws : List Keyword) (cs : Cs) : Prop where
  run : ∃ tk : TA, PK X kws tk ∧ ∀ (ρ : Nat → Addr) (σd : Sl) (σ : L2.St) (S : Store) (H : Hp) (ds : List D) (S' : Store) (Q : List V → Hp → Prop), Rel X.K L H ρ S → RS X.K L H ρ S.n σd σ → evCs G cf cs σd S = .ok ds S' →
    (∀ ρ' H' vs, Nx X.K L S H ρ S' H' ρ' → RpL X.K L H' ρ' S'.n ds vs → Q vs H') → tk σ H Q
theorem sk_nil : SimK X L G cf [] .nil := ⟨⟨tNil, pk_nil, fun ρ σd σ S H ds S' Q r rs h k => by cases h; exact k ρ H _ (Nx.refl r) RpL.nil⟩⟩
theorem sk_cons {nm : Option Str} {e : Expr} {kpos : Pos} {kws : List Keyword} {c : C} {cs : Cs} (ha : Sim X L G cf e c) (hr : SimK X L G cf kws cs) : SimK X L G cf (⟨nm, e, kpos⟩ :: kws) (.cons c cs) := by
  obtain ⟨tk, pk, run⟩ := hr.run
  refine ⟨⟨_, pk_cons (pE e) pk, fun ρ σd σ S H ds S' Q r rs h k => ?_⟩⟩
  obtain ⟨x, T1, e1, h⟩ := Res.bind_ok (show (evC G cf c σd S).bind (fun d S1 => (evCs G cf cs σd S1).bind fun ds S2 => .ok (d :: ds) S2) = .ok ds S' from h)
  obtain ⟨xs, T2, e2, h⟩ := Res.bind_ok h
  cases h
  refine ha.run ρ σd σ S H x T1 _ r rs e1 fun ρ' H' v n p => ?_
  refine run ρ' σd σ T1 H' xs S' _ n.r (n.rs rs) e2 fun ρ2 H2 vs n2 p2 => ?_
  exact k ρ2 H2 _ (n.trans n2) (RpL.cons (n2.rp p) p2)

/-! ### calls -/
theorem call_end {f : Nat} {sh : List Src} {σ : L2.St} {ds as : List D} {S1 : Store} {d : D} {S' : Store} {k : Nat} {H1 : Hp} {ρ1 : Nat → Addr} {vs : List V} {Q : VK} (n : Rel X.K L H1 ρ1 S1) (e : cf f as S1 = .ok d S') (hl : vs.length = k) (p : RpL X.K L H1 ρ1 S1.n as vs)
    (q : ∀ ρ' H' v, Nx X.K L S1 H1 ρ1 S' H' ρ' → Rp X.K L H' ρ' S'.n d v → Q v H') : spD X.K L cf f k vs H1 Q E0 := ⟨ρ1, S1, as, d, S', hl, n, p, e, q⟩
theorem si_call {x : Str} {f : Nat} {sh : List Src} {e : Expr} {es : List Expr} {p pos : Pos} {cs : Cs} (hc : CallOk X L cf x f cs.len sh) (hg : Gl X x) (ha : SimA X L G cf (e :: es) cs) (hdb : (x == ("__debug__" : Str)) = false := by decide)
    (he : starEach (e :: es) X.env = (false, eval e X.env) :: starEach es X.env := by rfl) (hpl : (backTo pos (starEach es X.env)).any (·.1) = false := by rfl) : Sim X L G cf (.Call (.Name x p) (e :: es) [] pos) (.call f sh cs) := by
  refine ⟨fun ρ σd σ S H d S' Q r rs h k => ?_⟩
  obtain ⟨ds, T1, e1, h⟩ := Res.bind_ok (show (evCs G cf cs σd S).bind (fun ds S1 => (Res.of (srcs ds sh) S1).bind fun as S2 => cf f as S2) = .ok d S' from h)
  obtain ⟨as, T2, e2, h⟩ := Res.bind_ok h
  obtain ⟨e3, rfl⟩ := Res.of_ok e2
  obtain ⟨kk, fa, fd, ps, j, dsv, dvs, dl, F, hm, hk, hb, hd, hl, hs, hdl⟩ := hc.ex
  refine ofE (pe_call F.ok F.room hg hm hk hb hd pass0 (pA (e :: es)) hdb he hpl) (ha.run ρ σd σ S H ds T2 _ r rs e1 fun ρ' H' vs n q => ?_)
  have e4 := hs ds (evCs_len cs e1)
  rw [e3] at e4
  cases e4
  refine call_end (sh := sh) (σ := σ) (ds := ds) n.r h ?_ (q.append (hdl _ _ _)) fun ρ2 H2 v n2 p2 => k ρ2 H2 v (n.trans n2) p2
  rw [List.length_append, ← q.length, evCs_len cs e1]
  exact hl
theorem si_call0 {x : Str} {f : Nat} {sh : List Src} {p pos : Pos} (hc : CallOk X L cf x f 0 sh) (hg : Gl X x) (hdb : (x == ("__debug__" : Str)) = false := by decide) : Sim X L G cf (.Call (.Name x p) [] [] pos) (.call f sh .nil) := by
  refine ⟨fun ρ σd σ S H d S' Q r rs h k => ?_⟩
  obtain ⟨ds, T1, e1, h⟩ := Res.bind_ok (show (evCs G cf .nil σd S).bind (fun ds S1 => (Res.of (srcs ds sh) S1).bind fun as S2 => cf f as S2) = .ok d S' from h)
  obtain ⟨as, T2, e2, h⟩ := Res.bind_ok h
  obtain ⟨e3, rfl⟩ := Res.of_ok e2
  obtain ⟨kk, fa, fd, ps, j, dsv, dvs, dl, F, hm, hk, hb, hd, hl, hs, hdl⟩ := hc.ex
  cases e1
  have e4 := hs [] rfl
  rw [e3] at e4
  cases e4
  refine ofE (pe_call0 F.ok F.room hg hm hk hb hd pass0 hdb) ?_
  refine call_end (sh := sh) (σ := σ) (ds := []) r h ?_ (hdl _ _ _) fun ρ2 H2 v n2 p2 => k ρ2 H2 v n2 p2
  show dvs.length = kk
  omega
theorem si_callK {x : Str} {f : Nat} {sh : List Src} {ks : List Str} {e : Expr} {es : List Expr} {kws : List Keyword} {p pos : Pos} {cs ck : Cs} (hc : CallK X L cf x f cs.len ks sh) (hg : Gl X x) (ha : SimA X L G cf (e :: es) cs) (hk : SimK X L G cf kws ck) (hck : ck.len = ks.length)
    (hall : (backToKw pos (keywordEach kws X.env)).all (·.1.isSome) = true := by rfl) (hks : (backToKw pos (keywordEach kws X.env)).filterMap (·.1) = ks := by rfl)
    (hdb : (x == ("__debug__" : Str)) = false := by decide) (he : starEach (e :: es) X.env = (false, eval e X.env) :: starEach es X.env := by rfl)
    (hpl : ((backTo pos (starEach (e :: es) X.env)).any (·.1) || (backToKw pos (keywordEach kws X.env)).any (·.1.isNone)) = false := by rfl) :
    Sim X L G cf (.Call (.Name x p) (e :: es) kws pos) (.call f sh (cs.app ck)) := by
  refine ⟨fun ρ σd σ S H d S' Q r rs h k => ?_⟩
  obtain ⟨ds, T1, e1, h⟩ := Res.bind_ok (show (evCs G cf (cs.app ck) σd S).bind (fun ds S1 => (Res.of (srcs ds sh) S1).bind fun as S2 => cf f as S2) = .ok d S' from h)
  obtain ⟨as, T2, e2, h2⟩ := Res.bind_ok h
  obtain ⟨e3, rfl⟩ := Res.of_ok e2
  obtain ⟨us, T3, ws, e4, e5, rfl⟩ := evCs_app cs ck e1
  obtain ⟨kk, fa, fd, ps, j, g, gV, F, hm, hkp, hb, hs⟩ := hc.ex
  obtain ⟨tk, pk, run⟩ := hk.run
  refine ofE (pe_callN F.ok F.room hg hm hkp hb pass0 (pA (e :: es)) pk hall hks hdb he hpl) (ha.run ρ σd σ S H us T3 _ r rs e4 fun ρ' H' vs n q => ?_)
  refine run ρ' σd σ T3 H' ws T2 _ n.r (n.rs rs) e5 fun ρ2 H2 zs n2 q2 => ?_
  have l1 := evCs_len cs e4
  have l2 := evCs_len ck e5
  refine ⟨by rw [← q.length]; exact l1, by rw [← q2.length, l2]; exact hck, ?_⟩
  obtain ⟨hl, bs, e6, q3⟩ := hs us ws vs zs H2 ρ2 T2.n (n2.rpl q) q2 l1 (l2.trans hck)
  rw [e3] at e6
  cases e6
  exact call_end (sh := sh) (σ := σ) (ds := []) n2.r h2 hl q3 fun ρ3 H3 v n3 p3 => k ρ3 H3 v ((n.trans n2).trans n3) p3

/-! ### instances made -/
theorem mk_end {c f : Nat} {as : List D} {S1 : Store} {v0 : D} {S' : Store} {k : Nat} {H1 : Hp} {ρ1 : Nat → Addr} {vs : List V} {x dx : Addr} {Q : VK} (r : Rel X.K L H1 ρ1 S1) (hx : H1 x = none) (hdx : H1 dx = none) (hne : dx ≠ x)
    (e : cf f as (S1.push (.ins c [])) = .ok v0 S') (hn : isNon v0 = true) (hl : vs.length = k)
    (p : RpL X.K L (upd (upd H1 dx (.own x)) x (.ins (L.cla c) dx [])) (more ρ1 S1.n x) (S1.push (.ins c [])).n as vs)
    (q : ∀ ρ' H', Nx X.K L S1 H1 ρ1 S' H' ρ' → Rp X.K L H' ρ' S'.n (.ref S1.n) (.ref x) → Q (.ref x) H') :
    spD X.K L cf f k vs (upd (upd H1 dx (.own x)) x (.ins (L.cla c) dx [])) (fun v H2 => v = .non ∧ Q (.ref x) H2) E0 := by
  have n1 := r.new (o := .own x) hdx
  have hx2 : upd H1 dx (.own x) x = none := by rw [upd_ne (Ne.symm hne)]; exact hx
  have n2 := n1.r.push (o := .ins (L.cla c) dx []) (c := .ins c []) hx2 ⟨dx, [], upd_same, rfl⟩
  refine ⟨_, _, as, v0, S', hl, n2.r, p, e, fun ρ' H' v n3 p3 => ?_⟩
  cases isNon_eq hn
  refine ⟨p3, q ρ' H' ((n1.trans n2).trans n3) ?_⟩
  have n4 := n1.trans n2
  refine n3.rp (d := .ref S1.n) (v := .ref x) ⟨Nat.lt_succ_self _, ?_⟩
  rw [more_new]
theorem mk_self {c : Nat} {S1 : Store} {H1 : Hp} {ρ1 : Nat → Addr} {x dx : Addr} (r : Rel X.K L H1 ρ1 S1) (hx : H1 x = none) (hdx : H1 dx = none) (hne : dx ≠ x) :
    Nx X.K L S1 H1 ρ1 (S1.push (.ins c [])) (upd (upd H1 dx (.own x)) x (.ins (L.cla c) dx [])) (more ρ1 S1.n x) ∧ Rp X.K L (upd (upd H1 dx (.own x)) x (.ins (L.cla c) dx [])) (more ρ1 S1.n x) (S1.push (.ins c [])).n (.ref S1.n) (.ref x) := by
  have n1 := r.new (o := .own x) hdx
  have hx2 : upd H1 dx (.own x) x = none := by rw [upd_ne (Ne.symm hne)]; exact hx
  have n2 := n1.r.push (o := .ins (L.cla c) dx []) (c := .ins c []) hx2 ⟨dx, [], upd_same, rfl⟩
  exact ⟨n1.trans n2, Nat.lt_succ_self _, by rw [more_new]⟩
theorem si_mk {x : Str} {c f : Nat} {sh : List Src} {e : Expr} {es : List Expr} {p pos : Pos} {cs : Cs} (hc : MkOk X L cf x c f cs.len sh) (hg : Gl X x) (ha : SimA X L G cf (e :: es) cs) (hdb : (x == ("__debug__" : Str)) = false := by decide)
    (he : starEach (e :: es) X.env = (false, eval e X.env) :: starEach es X.env := by rfl) (hpl : (backTo pos (starEach es X.env)).any (·.1) = false := by rfl) : Sim X L G cf (.Call (.Name x p) (e :: es) [] pos) (.mk c f sh cs) := by
  refine ⟨fun ρ σd σ S H d S' Q r rs h k => ?_⟩
  obtain ⟨ds, T1, e1, h⟩ := Res.bind_ok (show (evCs G cf cs σd S).bind (fun ds S1 => (Res.of (srcs (.ref S1.n :: ds) sh) S1).bind fun as S2 => (cf f as (S2.push (.ins c []))).bind fun v S3 => if isNon v then .ok (.ref S1.n) S3 else .stuck) = .ok d S' from h)
  obtain ⟨as, T2, e2, h⟩ := Res.bind_ok h
  obtain ⟨e3, rfl⟩ := Res.of_ok e2
  obtain ⟨v0, T3, e4, h⟩ := Res.bind_ok h
  split at h
  · rename_i hn
    cases h
    obtain ⟨kk, fa, fd, ps, j, dsv, dvs, dl, F, hr, M, hm, hb, hd, hl, hs, hdl⟩ := hc.ex
    refine ofE (pe_make M F hr hg hm hb hd pass0 (pA (e :: es)) hdb he hpl) (ha.run ρ σd σ S H ds T2 _ r rs e1 fun ρ' H' vs n q => fun xa dx hx hdx hne => ?_)
    have e5 := hs (.ref T2.n :: ds) (by rw [List.length_cons, evCs_len cs e1])
    rw [e3] at e5
    cases e5
    obtain ⟨n2, p2⟩ := mk_self (c := c) n.r hx hdx hne
    refine mk_end n.r hx hdx hne e4 hn ?_ (RpL.cons p2 ((n2.rpl q).append (hdl _ _ _))) fun ρ2 H2 n3 p3 => k ρ2 H2 _ (n.trans n3) p3
    rw [List.length_cons, List.length_append, ← q.length, evCs_len cs e1]
    omega
  · cases h
theorem si_mkK {x : Str} {c f : Nat} {sh : List Src} {ks : List Str} {e : Expr} {es : List Expr} {kws : List Keyword} {p pos : Pos} {cs ck : Cs} (hc : MkK X L cf x c f cs.len ks sh) (hg : Gl X x) (ha : SimA X L G cf (e :: es) cs) (hk : SimK X L G cf kws ck) (hck : ck.len = ks.length)
    (hall : (backToKw pos (keywordEach kws X.env)).all (·.1.isSome) = true := by rfl) (hks : (backToKw pos (keywordEach kws X.env)).filterMap (·.1) = ks := by rfl)
    (hdb : (x == ("__debug__" : Str)) = false := by decide) (he : starEach (e :: es) X.env = (false, eval e X.env) :: starEach es X.env := by rfl)
    (hpl : ((backTo pos (starEach (e :: es) X.env)).any (·.1) || (backToKw pos (keywordEach kws X.env)).any (·.1.isNone)) = false := by rfl) :
    Sim X L G cf (.Call (.Name x p) (e :: es) kws pos) (.mk c f sh (cs.app ck)) := by
  refine ⟨fun ρ σd σ S H d S' Q r rs h k => ?_⟩
  obtain ⟨ds, T1, e1, h⟩ := Res.bind_ok (show (evCs G cf (cs.app ck) σd S).bind (fun ds S1 => (Res.of (srcs (.ref S1.n :: ds) sh) S1).bind fun as S2 => (cf f as (S2.push (.ins c []))).bind fun v S3 => if isNon v then .ok (.ref S1.n) S3 else .stuck) = .ok d S' from h)
  obtain ⟨as, T2, e2, h⟩ := Res.bind_ok h
  obtain ⟨e3, rfl⟩ := Res.of_ok e2
  obtain ⟨v0, T4, e6, h⟩ := Res.bind_ok h
  split at h
  · rename_i hn
    cases h
    obtain ⟨us, T3, ws, e4, e5, rfl⟩ := evCs_app cs ck e1
    obtain ⟨kk, fa, fd, ps, j, g, gV, F, hr, M, hm, hb, hs⟩ := hc.ex
    obtain ⟨tk, pk, run⟩ := hk.run
    refine ofE (pe_makeK M F hr hg hm hb pass0 (pA (e :: es)) pk hall hks hdb he hpl) (ha.run ρ σd σ S H us T3 _ r rs e4 fun ρ' H' vs n q => ?_)
    refine run ρ' σd σ T3 H' ws T2 _ n.r (n.rs rs) e5 fun ρ2 H2 zs n2 q2 => ?_
    have l1 := evCs_len cs e4
    have l2 := evCs_len ck e5
    refine ⟨by rw [← q.length]; exact l1, by rw [← q2.length, l2]; exact hck, fun xa dx hx hdx hne => ?_⟩
    obtain ⟨n3, p3⟩ := mk_self (c := c) n2.r hx hdx hne
    obtain ⟨hl, bs, e7, q3⟩ := hs (.ref T2.n :: us) ws (.ref xa :: vs) zs _ _ _ (RpL.cons p3 (n3.rpl (n2.rpl q))) (n3.rpl q2) (by rw [List.length_cons, l1]) (l2.trans hck)
    rw [List.cons_append, e3] at e7
    cases e7
    exact mk_end n2.r hx hdx hne e6 hn hl q3 fun ρ4 H4 n4 p4 => k ρ4 H4 _ ((n.trans n2).trans n4) p4
  · cases h

/-! ### attributes, methods -/
theorem si_attr {o : Expr} {f : Str} {c : C} {pos : Pos} (E : EnvOk X L G cf) (ha : Sim X L G cf o c) (hb : attributeBase o f X.env (eval o X.env) = eval o X.env := by rfl) : Sim X L G cf (.Attribute o f pos) (.attr c f) := by
  refine ⟨fun ρ σd σ S H d S' Q r rs h k => fun pins s I => ?_⟩
  obtain ⟨x, T1, e1, h⟩ := Res.bind_ok (show (evC G cf c σd S).bind (fun x S1 => match x with
    | .ref i => (match S1.get i with
      | some (.ins c fs) => (match (G.props c).lookup f with
        | some g => cf g [.ref i] S1
        | none => if (G.flds c).contains f then Res.of (fs.lookup f) S1 else .stuck)
      | _ => .stuck)
    | _ => .stuck) = .ok d S' from h)
  split at h
  · rename_i i
    split at h
    · rename_i cc fs ei
      refine attr_of hb (thn (ha.run ρ σd σ S H _ T1 (fun v H1 => ∃ ρ1, Nx X.K L S H ρ T1 H1 ρ1 ∧ Rp X.K L H1 ρ1 T1.n (.ref i) v) r rs e1 (fun ρ' H' v n p => ⟨ρ', n, p⟩) pins s I) fun u s1 ⟨v, H1, I1, rv, ρ1, n1, p1⟩ => ?_)
      obtain ⟨hi, rfl⟩ := (show i < T1.n ∧ v = .ref (ρ1 i) from p1)
      obtain rfl : u = Value.ref (ρ1 i) := rv
      obtain ⟨dx, vs, hH, hf⟩ := n1.r.cell i _ ei
      split at h
      · rename_i g eg
        obtain ⟨cl, p, fa, fd, ps, j, hp, F, hr, hbn⟩ := (E.cls cc).prop f g eg
        refine getprop_ok I1 hH cl hp F hr hbn .nil pass0 ?_
        exact ⟨ρ1, T1, [.ref i], d, S', rfl, n1.r, RpL.cons p1 RpL.nil, h, fun ρ' H' v n2 p2 => k ρ' H' v (n1.trans n2) p2⟩
      · split at h
        · rename_i eg hc
          obtain ⟨e2, rfl⟩ := Res.of_ok h
          obtain ⟨cl, na⟩ := (E.cls cc).fld f hc
          rcases hf.look f with ⟨e3, _⟩ | ⟨d', v', e3, e4, p3⟩
          · rw [e2] at e3; cases e3
          · rw [e2] at e3; cases e3
            exact getattr_ok I1 hH cl na e4 fun u' s2 I2 ru => ⟨v', H1, I2, ru, k ρ1 H1 v' n1 p3⟩
        · cases h
    · cases h
  · cases h
theorem lookup_none_of {K : PySem.W.Frag} {H : Hp} {ρ : Nat → Addr} {n : Nat} {ds : List (Str × D)} {vs : List (Str × V)} {m : Str} (hf : RpF K L H ρ n ds vs) (h : (ds.lookup m).isNone = true) : vs.lookup m = none := by
  rcases hf.look m with ⟨_, e⟩ | ⟨d, v, e, _⟩
  · exact e
  · rw [e] at h; cases h
theorem si_meth {o e : Expr} {es : List Expr} {m : Str} {c : C} {cs : Cs} {apos pos : Pos} {pl : Sem Bool} (E : EnvOk X L G cf) (ho : Sim X L G cf o c) (ha : SimA X L G cf (e :: es) cs)
    (hst : starEach (e :: es) X.env = (false, eval e X.env) :: starEach es X.env := by rfl) (hpl : (backTo pos (starEach es X.env)).any (·.1) = false := by rfl)
    (ht : eval (.Call (.Attribute o m apos) (e :: es) [] pos) X.env = (do
      let ov ← eval o X.env
      standAt apos.atName
      let (f, first) ← holding [ov] (getMethod ov m pl)
      callWith pos f first (backTo pos (starEach (e :: es) X.env)) (backToKw pos (keywordEach [] X.env))) := by rfl) :
    Sim X L G cf (.Call (.Attribute o m apos) (e :: es) [] pos) (.meth c m cs) := by
  refine ⟨fun ρ σd σ S H d S' Q r rs h k => fun pins s I => ?_⟩
  obtain ⟨x, T1, e1, h⟩ := Res.bind_ok (show (evC G cf c σd S).bind (fun x S1 => match x with
    | .ref i => (match S1.get i with
      | some (.ins c fs) => if (fs.lookup m).isNone then (Res.of ((G.meths c).lookup m) S1).bind fun f S2 => (evCs G cf cs σd S2).bind fun ds S3 => cf f (.ref i :: ds) S3 else .stuck
      | _ => .stuck)
    | _ => .stuck) = .ok d S' from h)
  split at h
  · rename_i i
    split at h
    · rename_i cc fs ei
      split at h
      · rename_i hno
        obtain ⟨g, T2, e2, h2⟩ := Res.bind_ok h
        obtain ⟨eg, e4⟩ := Res.of_ok e2
        obtain ⟨ds, T3, e3, h3⟩ := Res.bind_ok h2
        subst e4
        obtain ⟨cl, fa, fd, ps, j, kk, hm, F, hbn, hlen⟩ := (E.cls cc).meth m g eg
        refine PySem.W.methodCall_KW (pl := pl) (thn (ho.run ρ σd σ S H _ T2 (fun v H1 => ∃ ρ1, Nx X.K L S H ρ T2 H1 ρ1 ∧ Rp X.K L H1 ρ1 T2.n (.ref i) v) r rs e1 (fun ρ' H' v n p => ⟨ρ', n, p⟩) pins s I) fun u s1 ⟨v, H1, I1, rv, ρ1, n1, p1⟩ => ?_) ht
        obtain ⟨hi, rfl⟩ := (show i < T2.n ∧ v = .ref (ρ1 i) from p1)
        obtain rfl : u = Value.ref (ρ1 i) := rv
        obtain ⟨dx, vs, hH, hf⟩ := n1.r.cell i _ ei
        refine getmeth_ok I1 hH cl hm (lookup_none_of hf hno) ?_
        refine PySem.W.callWith_K (first := [.ref (ρ1 i)]) (h₀ := X.base) I.ok.mod.kin hm.kp (thn (ha.run ρ1 σd σ T2 H1 ds T3 (fun vs H2 => ∃ ρ2, Nx X.K L T2 H1 ρ1 T3 H2 ρ2 ∧ RpL X.K L H2 ρ2 T3.n ds vs) n1.r (n1.rs rs) e3 (fun ρ' H' v n p => ⟨ρ', n, p⟩) pos pins s1 I1) fun us s2 ⟨vs2, H2, I2, r2, ρ2, n2, p2⟩ => ⟨I2.kIn, ?_⟩) hst hpl
        have hall := RpL.cons (n2.rp p1) p2
        have hk : (V.ref (ρ1 i) :: vs2).length = kk := by
          rw [← hall.length]
          exact F.ar _ _ _ _ h3
        refine run_fn (us := .ref (ρ1 i) :: us) (vs := .ref (ρ1 i) :: vs2) F.ok F.room hbn .nil pass0 I2 (.cons rfl r2) ?_
        rw [List.append_nil]
        exact ⟨ρ2, T3, .ref i :: ds, d, S', hk, n2.r, hall, h3, fun ρ' H' v n3 p3 => k ρ' H' v ((n1.trans n2).trans n3) p3⟩
      · cases h
    · cases h
  · cases h

/-! ### subscripts -/
theorem si_sub {a b : Expr} {ca cb : C} {pos : Pos} (E : EnvOk X L G cf) (ha : Sim X L G cf a ca) (hb : Sim X L G cf b cb) (hs : PlainIx b := by exact fun _ _ => rfl) : Sim X L G cf (.Subscript a b pos) (.sub ca cb) := by
  refine ⟨fun ρ σd σ S H d S' Q r rs h k => fun pins s I => ?_⟩
  obtain ⟨x, T1, e1, h1⟩ := Res.bind_ok (show (evC G cf ca σd S).bind (fun x S1 => (evC G cf cb σd S1).bind fun y S2 => Res.of (evSub S2 G x y) S2) = .ok d S' from h)
  obtain ⟨y, T2, e2, h2⟩ := Res.bind_ok h1
  obtain ⟨e3, rfl⟩ := Res.of_ok h2
  refine Subscript_ ?_
  refine thn (ha.run ρ σd σ S H x T1 (fun v H1 => ∃ ρ1, Nx X.K L S H ρ T1 H1 ρ1 ∧ Rp X.K L H1 ρ1 T1.n x v) r rs e1 (fun ρ' H' v n p => ⟨ρ', n, p⟩) pins s I) fun u s1 ⟨v, H1, I1, rv, ρ1, n1, p1⟩ => ?_
  refine thn (hb.run ρ1 σd σ T1 H1 y S' (fun w H2 => ∃ ρ2, Nx X.K L T1 H1 ρ1 S' H2 ρ2 ∧ Rp X.K L H2 ρ2 S'.n y w) n1.r (n1.rs rs) e2 (fun ρ' H' v n p => ⟨ρ', n, p⟩) pins s1 I1) fun u2 s2 ⟨w, H2, I2, rw', ρ2, n2, p2⟩ => ?_
  have p3 := n2.rp p1
  have fin : ∀ {v' : V}, Rp X.K L H2 ρ2 S'.n d v' → Q v' H2 := fun p => k ρ2 H2 _ (n1.trans n2) p
  have at_ : ∀ {l : List D} {vs : List V} {i : Int}, RpL X.K L H2 ρ2 S'.n l vs → atI l i = some d → ∃ v', atI vs i = some v' ∧ Rp X.K L H2 ρ2 S'.n d v' := fun {l vs i} hl he => by
    unfold atI at he ⊢
    rw [← hl.length]
    cases q : ixN l.length i with
    | none => rw [q] at he; cases he
    | some j =>
      rw [q] at he
      obtain ⟨v', e4, e5⟩ := hl.get (show l[j]? = some d from he)
      exact ⟨v', e4, e5⟩
  cases x with
  | tup l =>
    obtain ⟨q, vs, rfl, sa, la⟩ := (show ∃ a vs, v = .ref a ∧ SqT X.K H2 a vs ∧ RpL X.K L H2 ρ2 S'.n l vs from p3)
    cases y with
    | int i =>
      cases (show w = .int i from p2)
      obtain ⟨v', e4, e5⟩ := at_ la (show atI l i = some d from e3)
      exact ix_tup a b pins s2 σ H2 _ _ u u2 Q I2 rv rw' ⟨q, vs, i, v', rfl, rfl, sa, e4, fin e5⟩ (hs _ _)
    | _ => cases e3
  | ref j =>
    obtain ⟨_, rfl⟩ := (show j < S'.n ∧ v = .ref (ρ2 j) from p3)
    cases y with
    | int i =>
      cases (show w = .int i from p2)
      have h4 : (match S'.get j with | some (.lst _ l) => atI l i | _ => none) = some d := e3
      split at h4
      · rename_i wr l ei
        have c := n2.r.cell j _ ei
        cases wr with
        | true =>
          obtain ⟨vs, hv, la⟩ := c
          obtain ⟨v', e4, e5⟩ := at_ la h4
          exact ix_list a b pins s2 σ H2 _ _ u u2 Q I2 rv rw' ⟨_, vs, i, v', rfl, rfl, SqL.of hv, e4, fin e5⟩ (hs _ _)
        | false =>
          obtain ⟨vs, hv, la⟩ := c
          obtain ⟨v', e4, e5⟩ := at_ la h4
          exact ix_list a b pins s2 σ H2 _ _ u u2 Q I2 rv rw' ⟨_, vs, i, v', rfl, rfl, hv.sq, e4, fin e5⟩ (hs _ _)
      · cases h4
    | _ => cases e3
  | str z =>
    cases (show v = .str z from p3)
    cases y with
    | int i =>
      cases (show w = .int i from p2)
      have h4 : (if z.length ≤ sizeLine then (atI z.cps.toList i).map fun c => D.str ⟨#[c]⟩ else none) = some d := e3
      split at h4
      · rename_i hz
        obtain ⟨c, e4, rfl⟩ := Option.map_eq_some_iff.mp h4
        exact ix_str a b pins s2 σ H2 _ _ u u2 Q I2 rv rw' ⟨z, i, c, rfl, rfl, hz, e4, fin rfl⟩ (hs _ _)
      · cases h4
    | _ => cases e3
  | kd j =>
    cases (show v = .ref (L.kda j) from p3)
    cases y with
    | str z =>
      cases (show w = .str z from p2)
      obtain ⟨t, ht, e4⟩ := Option.bind_eq_some_iff.mp (show (G.kdt j).bind (fun t => t.lookup z) = some d from e3)
      obtain ⟨⟨es, n, D⟩, hat⟩ := E.kd j t ht
      rcases hat z with ⟨e5, _⟩ | ⟨x, uu, vv, e5, e6, e7, e8⟩
      · rw [e4] at e5; cases e5
      · rw [e4] at e5; cases e5
        obtain rfl : u = Value.ref (L.kda j) := rv
        have hget := op_item_kd D pins s2 σ H2 (.ref (L.kda j)) (.str z) (.ref (L.kda j)) u2 Q I2 rfl rw' ⟨z, uu, vv, rfl, rfl, e6, e7, fin (e8 _ _ _)⟩
        exact tail_any (kd_type D I2) slot_dict_getitem.lookup hget (hs _ _)
    | _ => cases e3
  | non => cases y <;> cases e3
  | bl _ => cases y <;> cases e3
  | int _ => cases y <;> cases e3
end
end PD

/-! PD5: built-ins. -/
namespace PD
open PySem PySem.Spec PyProof.Rows L2
section
variable {X : Cx} {L : Pl} {G : Gd} {cf : Nat → List D → Store → Res D}
/-- by contract over the arguments' values -/
theorem si_blt_of {x : Str} {id : String} {r : List V → Hp → VK → Prop} {e : Expr} {es : List Expr} {p pos : Pos} {cs : Cs} {b : Bl} (hc : CallR X (.builtin id) r ∨ CallR X (.type id) r) (hv : (bootBuiltins x = some (.builtin id) ∧ CallR X (.builtin id) r) ∨ (bootBuiltins x = some (.type id) ∧ CallR X (.type id) r))
    (hr : ∀ (ρ : Nat → Addr) (S : Store) (H : Hp) (ds : List D) (vs : List V) (d : D) (S' : Store) (Q : VK), Rel X.K L H ρ S → RpL X.K L H ρ S.n ds vs → evBl G S b ds = .ok d S' → (∀ ρ' H' v, Nx X.K L S H ρ S' H' ρ' → Rp X.K L H' ρ' S'.n d v → Q v H') → r vs H Q)
    (hg : Gl X x) (hm : X.mg x = none) (ha : SimA X L G cf (e :: es) cs) (hn : x ≠ "__name__" := by decide) (hdb : (x == ("__debug__" : Str)) = false := by decide)
    (he : starEach (e :: es) X.env = (false, eval e X.env) :: starEach es X.env := by rfl) (hpl : (backTo pos (starEach es X.env)).any (·.1) = false := by rfl) : Sim X L G cf (.Call (.Name x p) (e :: es) [] pos) (.blt b cs) := by
  refine ⟨fun ρ σd σ S H d S' Q r0 rs h k => ?_⟩
  obtain ⟨ds, T1, e1, h2⟩ := Res.bind_ok (show (evCs G cf cs σd S).bind (fun ds S1 => evBl G S1 b ds) = .ok d S' from h)
  have go : wA X (e :: es) σ H fun vs H1 => r vs H1 Q := ha.run ρ σd σ S H ds T1 _ r0 rs e1 fun ρ' H' vs n p => hr ρ' T1 H' ds vs d S' Q n.r p h2 fun ρ2 H2 v n2 p2 => k ρ2 H2 v (n.trans n2) p2
  rcases hv with ⟨hv, hc⟩ | ⟨hv, hc⟩
  · exact ofE (pe_callB hc hg hm hv (pA (e :: es)) hn hdb he hpl) go
  · exact ofE (pe_callTy hc hg hm hv (pA (e :: es)) hn hdb he hpl) go
theorem rp1 {K : PySem.W.Frag} {H : Hp} {ρ : Nat → Addr} {n : Nat} {d : D} {vs : List V} (h : RpL K L H ρ n [d] vs) : ∃ v, vs = [v] ∧ Rp K L H ρ n d v := by
  obtain ⟨v, r, rfl, h1, h2⟩ := h
  cases (show r = [] from h2)
  exact ⟨v, rfl, h1⟩
/-- the cell of a list -/
theorem cell_lst {K : PySem.W.Frag} {H : Hp} {ρ : Nat → Addr} {S : Store} {i : Nat} {w : Bool} {l : List D} (r : Rel K L H ρ S) (e : S.get i = some (.lst w l)) : ∃ vs, SqL K H (ρ i) vs ∧ RpL K L H ρ S.n l vs := by
  have x := r.cell i _ e
  cases w with
  | true => obtain ⟨vs, h1, h2⟩ := x; exact ⟨vs, SqL.of h1, h2⟩
  | false => obtain ⟨vs, h1, h2⟩ := x; exact ⟨vs, h1.sq, h2⟩
theorem bl_len : ∀ (ρ : Nat → Addr) (S : Store) (H : Hp) (ds : List D) (vs : List V) (d : D) (S' : Store) (Q : VK), Rel X.K L H ρ S → RpL X.K L H ρ S.n ds vs → evBl G S .len ds = .ok d S' → (∀ ρ' H' v, Nx X.K L S H ρ S' H' ρ' → Rp X.K L H' ρ' S'.n d v → Q v H') →
    ∃ x n, vs = [x] ∧ LenV X.K x H n ∧ Q (.int n) H := by
  intro ρ S H ds vs d S' Q r p h k
  cases ds with
  | nil => cases h
  | cons x t =>
    cases t with
    | cons _ _ => cases x <;> cases h
    | nil =>
      obtain ⟨v, rfl, px⟩ := rp1 p
      cases x with
      | str z =>
        cases (show v = .str z from px)
        have h1 : (if z.length ≤ sizeLine then Res.ok (.int z.length) S else .stuck) = Res.ok d S' := h
        split at h1
        · cases h1
          exact ⟨_, z.length, rfl, ⟨by assumption, rfl⟩, k ρ H _ (Nx.refl r) rfl⟩
        · cases h1
      | tup l =>
        obtain ⟨a, us, rfl, s, q⟩ := (show ∃ a vs, v = .ref a ∧ SqT X.K H a vs ∧ RpL X.K L H ρ S.n l vs from px)
        cases h
        refine ⟨_, us.length, rfl, .inr ⟨us, s, rfl⟩, ?_⟩
        rw [← q.length]
        exact k ρ H _ (Nx.refl r) rfl
      | ref i =>
        obtain ⟨_, rfl⟩ := (show i < S.n ∧ v = .ref (ρ i) from px)
        have h1 : (match S.get i with | some (.lst _ l) => Res.ok (.int l.length) S | _ => .stuck) = Res.ok d S' := h
        split at h1
        · rename_i w l e
          cases h1
          obtain ⟨us, s, q⟩ := cell_lst r e
          refine ⟨_, us.length, rfl, .inl ⟨us, s, rfl⟩, ?_⟩
          rw [← q.length]
          exact k ρ H _ (Nx.refl r) rfl
        · cases h1
      | _ => cases h
theorem si_len {e : Expr} {p pos : Pos} {cs : Cs} (hg : Gl X "len") (hm : X.mg "len" = none) (ha : SimA X L G cf [e] cs) (he : starEach [e] X.env = (false, eval e X.env) :: starEach [] X.env := by rfl) (hpl : (backTo pos (starEach [] X.env)).any (·.1) = false := by rfl) : Sim X L G cf (.Call (.Name "len" p) [e] [] pos) (.blt .len cs) :=
  si_blt_of (.inl call_len) (.inl ⟨by rfl, call_len⟩) bl_len hg hm ha (by decide) (by decide) he hpl
theorem bl_int1 : ∀ (ρ : Nat → Addr) (S : Store) (H : Hp) (ds : List D) (vs : List V) (d : D) (S' : Store) (Q : VK), Rel X.K L H ρ S → RpL X.K L H ρ S.n ds vs → evBl G S .int1 ds = .ok d S' → (∀ ρ' H' v, Nx X.K L S H ρ S' H' ρ' → Rp X.K L H' ρ' S'.n d v → Q v H') →
    (∃ i, vs = [.int i] ∧ Q (.int i) H) ∨ ∃ k, vs = [.bl k] ∧ Q (.int (if k then 1 else 0)) H := by
  intro ρ S H ds vs d S' Q r p h k
  cases ds with
  | nil => cases h
  | cons x t =>
    cases t with
    | cons _ _ => cases x <;> cases h
    | nil =>
      obtain ⟨v, rfl, px⟩ := rp1 p
      cases x with
      | int i =>
        cases (show v = .int i from px)
        cases h
        exact .inl ⟨i, rfl, k ρ H _ (Nx.refl r) rfl⟩
      | bl b =>
        cases (show v = .bl b from px)
        cases h
        exact .inr ⟨b, rfl, k ρ H _ (Nx.refl r) rfl⟩
      | _ => cases h
theorem si_int1 {e : Expr} {p pos : Pos} {cs : Cs} (hg : Gl X "int") (hm : X.mg "int" = none) (ha : SimA X L G cf [e] cs) (he : starEach [e] X.env = (false, eval e X.env) :: starEach [] X.env := by rfl) (hpl : (backTo pos (starEach [] X.env)).any (·.1) = false := by rfl) : Sim X L G cf (.Call (.Name "int" p) [e] [] pos) (.blt .int1 cs) :=
  si_blt_of (.inr call_int1) (.inr ⟨by rfl, call_int1⟩) bl_int1 hg hm ha (by decide) (by decide) he hpl
theorem bl_abs : ∀ (ρ : Nat → Addr) (S : Store) (H : Hp) (ds : List D) (vs : List V) (d : D) (S' : Store) (Q : VK), Rel X.K L H ρ S → RpL X.K L H ρ S.n ds vs → evBl G S .abs ds = .ok d S' → (∀ ρ' H' v, Nx X.K L S H ρ S' H' ρ' → Rp X.K L H' ρ' S'.n d v → Q v H') →
    ∃ i, vs = [.int i] ∧ Q (.int (if i < 0 then -i else i)) H := by
  intro ρ S H ds vs d S' Q r p h k
  cases ds with
  | nil => cases h
  | cons x t =>
    cases t with
    | cons _ _ => cases x <;> cases h
    | nil =>
      obtain ⟨v, rfl, px⟩ := rp1 p
      cases x with
      | int i =>
        cases (show v = .int i from px)
        cases h
        exact ⟨i, rfl, k ρ H _ (Nx.refl r) rfl⟩
      | _ => cases h
theorem si_abs {e : Expr} {p pos : Pos} {cs : Cs} (hg : Gl X "abs") (hm : X.mg "abs" = none) (ha : SimA X L G cf [e] cs) (he : starEach [e] X.env = (false, eval e X.env) :: starEach [] X.env := by rfl) (hpl : (backTo pos (starEach [] X.env)).any (·.1) = false := by rfl) : Sim X L G cf (.Call (.Name "abs" p) [e] [] pos) (.blt .abs cs) :=
  si_blt_of (.inl call_abs) (.inl ⟨by rfl, call_abs⟩) bl_abs hg hm ha (by decide) (by decide) he hpl
theorem bls_v {K : PySem.W.Frag} {H : Hp} {ρ : Nat → Addr} {n : Nat} : ∀ {l : List D} {bs : List Bool} {vs : List V}, bls l = some bs → RpL K L H ρ n l vs → vs = bs.map V.bl
  | [], bs, vs, h, r => by cases h; exact r
  | x :: t, bs, vs, h, r => by
    obtain ⟨v, u, rfl, h1, h2⟩ := r
    cases x with
    | bl b =>
      obtain ⟨cs, h3, rfl⟩ := Option.map_eq_some_iff.mp (show (bls t).map (b :: ·) = some bs from h)
      cases (show v = .bl b from h1)
      rw [bls_v h3 h2]
      rfl
    | _ => cases h
theorem bl_all : ∀ (ρ : Nat → Addr) (S : Store) (H : Hp) (ds : List D) (vs : List V) (d : D) (S' : Store) (Q : VK), Rel X.K L H ρ S → RpL X.K L H ρ S.n ds vs → evBl G S .all ds = .ok d S' → (∀ ρ' H' v, Nx X.K L S H ρ S' H' ρ' → Rp X.K L H' ρ' S'.n d v → Q v H') →
    rAll X.K vs H Q := by
  intro ρ S H ds vs d S' Q r p h k
  cases ds with
  | nil => cases h
  | cons x t =>
    cases t with
    | cons _ _ => cases x <;> cases h
    | nil =>
      obtain ⟨v, rfl, px⟩ := rp1 p
      cases x with
      | ref i =>
        obtain ⟨_, rfl⟩ := (show i < S.n ∧ v = .ref (ρ i) from px)
        have h1 : (match S.get i with | some (.lst _ l) => Res.of ((bls l).map fun bs => .bl (bs.all id)) S | _ => .stuck) = Res.ok d S' := h
        split at h1
        · rename_i w l e
          obtain ⟨h2, rfl⟩ := Res.of_ok h1
          obtain ⟨bs, h3, rfl⟩ := Option.map_eq_some_iff.mp h2
          obtain ⟨us, s, q⟩ := cell_lst r e
          cases bls_v h3 q
          exact ⟨_, bs, rfl, s, k ρ H _ (Nx.refl r) rfl⟩
        · cases h1
      | _ => cases h
theorem bl_any : ∀ (ρ : Nat → Addr) (S : Store) (H : Hp) (ds : List D) (vs : List V) (d : D) (S' : Store) (Q : VK), Rel X.K L H ρ S → RpL X.K L H ρ S.n ds vs → evBl G S .any ds = .ok d S' → (∀ ρ' H' v, Nx X.K L S H ρ S' H' ρ' → Rp X.K L H' ρ' S'.n d v → Q v H') →
    rAny X.K vs H Q := by
  intro ρ S H ds vs d S' Q r p h k
  cases ds with
  | nil => cases h
  | cons x t =>
    cases t with
    | cons _ _ => cases x <;> cases h
    | nil =>
      obtain ⟨v, rfl, px⟩ := rp1 p
      cases x with
      | ref i =>
        obtain ⟨_, rfl⟩ := (show i < S.n ∧ v = .ref (ρ i) from px)
        have h1 : (match S.get i with | some (.lst _ l) => Res.of ((bls l).map fun bs => .bl (bs.any id)) S | _ => .stuck) = Res.ok d S' := h
        split at h1
        · rename_i w l e
          obtain ⟨h2, rfl⟩ := Res.of_ok h1
          obtain ⟨bs, h3, rfl⟩ := Option.map_eq_some_iff.mp h2
          obtain ⟨us, s, q⟩ := cell_lst r e
          cases bls_v h3 q
          exact ⟨_, bs, rfl, s, k ρ H _ (Nx.refl r) rfl⟩
        · cases h1
      | _ => cases h
theorem si_all {e : Expr} {p pos : Pos} {cs : Cs} (E : EnvOk X L G cf) (hg : Gl X "all") (hm : X.mg "all" = none) (ha : SimA X L G cf [e] cs) (he : starEach [e] X.env = (false, eval e X.env) :: starEach [] X.env := by rfl) (hpl : (backTo pos (starEach [] X.env)).any (·.1) = false := by rfl) : Sim X L G cf (.Call (.Name "all" p) [e] [] pos) (.blt .all cs) :=
  si_blt_of (.inl (cr_all E.calm)) (.inl ⟨by rfl, cr_all E.calm⟩) bl_all hg hm ha (by decide) (by decide) he hpl
theorem si_any {e : Expr} {p pos : Pos} {cs : Cs} (E : EnvOk X L G cf) (hg : Gl X "any") (hm : X.mg "any" = none) (ha : SimA X L G cf [e] cs) (he : starEach [e] X.env = (false, eval e X.env) :: starEach [] X.env := by rfl) (hpl : (backTo pos (starEach [] X.env)).any (·.1) = false := by rfl) : Sim X L G cf (.Call (.Name "any" p) [e] [] pos) (.blt .any cs) :=
  si_blt_of (.inl (cr_any E.calm)) (.inl ⟨by rfl, cr_any E.calm⟩) bl_any hg hm ha (by decide) (by decide) he hpl
theorem bl_tup : ∀ (ρ : Nat → Addr) (S : Store) (H : Hp) (ds : List D) (vs : List V) (d : D) (S' : Store) (Q : VK), Rel X.K L H ρ S → RpL X.K L H ρ S.n ds vs → evBl G S .tuple1 ds = .ok d S' → (∀ ρ' H' v, Nx X.K L S H ρ S' H' ρ' → Rp X.K L H' ρ' S'.n d v → Q v H') →
    ∃ p ys, vs = [.ref p] ∧ ((SqL X.K H p ys ∧ ∀ l, H l = none → Q (.ref l) (upd H l (.tup ys))) ∨ (SqT X.K H p ys ∧ Q (.ref p) H)) := by
  intro ρ S H ds vs d S' Q r p h k
  cases ds with
  | nil => cases h
  | cons x t =>
    cases t with
    | cons _ _ => cases x <;> cases h
    | nil =>
      obtain ⟨v, rfl, px⟩ := rp1 p
      cases x with
      | ref i =>
        obtain ⟨_, rfl⟩ := (show i < S.n ∧ v = .ref (ρ i) from px)
        have h1 : (match S.get i with | some (.lst _ l) => Res.ok (.tup l) S | _ => .stuck) = Res.ok d S' := h
        split at h1
        · rename_i w l e
          cases h1
          obtain ⟨us, s, q⟩ := cell_lst r e
          refine ⟨_, us, rfl, .inl ⟨s, fun a ha => ?_⟩⟩
          have n2 := r.new (o := .tup us) ha
          exact k ρ _ _ n2 ⟨a, us, rfl, SqT.of upd_same, n2.rpl q⟩
        · cases h1
      | tup l =>
        obtain ⟨a, us, rfl, s, q⟩ := (show ∃ a vs, v = .ref a ∧ SqT X.K H a vs ∧ RpL X.K L H ρ S.n l vs from px)
        cases h
        exact ⟨a, us, rfl, .inr ⟨s, k ρ H _ (Nx.refl r) ⟨a, us, rfl, s, q⟩⟩⟩
      | _ => cases h
theorem si_tuple1 {e : Expr} {p pos : Pos} {cs : Cs} (hg : Gl X "tuple") (hm : X.mg "tuple" = none) (ha : SimA X L G cf [e] cs) (he : starEach [e] X.env = (false, eval e X.env) :: starEach [] X.env := by rfl) (hpl : (backTo pos (starEach [] X.env)).any (·.1) = false := by rfl) : Sim X L G cf (.Call (.Name "tuple" p) [e] [] pos) (.blt .tuple1 cs) :=
  si_blt_of (.inr call_tuple_of) (.inr ⟨by rfl, call_tuple_of⟩) bl_tup hg hm ha (by decide) (by decide) he hpl
theorem bl_list : ∀ (ρ : Nat → Addr) (S : Store) (H : Hp) (ds : List D) (vs : List V) (d : D) (S' : Store) (Q : VK), Rel X.K L H ρ S → RpL X.K L H ρ S.n ds vs → evBl G S .list1 ds = .ok d S' → (∀ ρ' H' v, Nx X.K L S H ρ S' H' ρ' → Rp X.K L H' ρ' S'.n d v → Q v H') →
    ∃ p ys, vs = [.ref p] ∧ (SqL X.K H p ys ∨ SqT X.K H p ys) ∧ ∀ l, H l = none → Q (.ref l) (upd H l (.lst ys)) := by
  intro ρ S H ds vs d S' Q r p h k
  have fin : ∀ {l : List D} {us : List V}, RpL X.K L H ρ S.n l us → (∀ ρ' H' v, Nx X.K L S H ρ (S.push (.lst true l)) H' ρ' → Rp X.K L H' ρ' (S.push (.lst true l)).n (.ref S.n) v → Q v H') → ∀ a, H a = none → Q (.ref a) (upd H a (.lst us)) := fun {l us} q k a ha => by
    have n2 := r.push (o := .lst us) (c := .lst true l) ha ⟨us, upd_same, q.mono (TM.new ha) more_agree (Nat.le_succ _)⟩
    exact k _ _ _ n2 ⟨Nat.lt_succ_self _, by rw [more_new]⟩
  cases ds with
  | nil => cases h
  | cons x t =>
    cases t with
    | cons _ _ => cases x <;> cases h
    | nil =>
      obtain ⟨v, rfl, px⟩ := rp1 p
      cases x with
      | ref i =>
        obtain ⟨_, rfl⟩ := (show i < S.n ∧ v = .ref (ρ i) from px)
        have h1 : (match S.get i with | some (.lst _ l) => Res.ok (.ref S.n) (S.push (.lst true l)) | _ => .stuck) = Res.ok d S' := h
        split at h1
        · rename_i w l e
          cases h1
          obtain ⟨us, s, q⟩ := cell_lst r e
          exact ⟨_, us, rfl, .inl s, fin q k⟩
        · cases h1
      | tup l =>
        obtain ⟨a, us, rfl, s, q⟩ := (show ∃ a vs, v = .ref a ∧ SqT X.K H a vs ∧ RpL X.K L H ρ S.n l vs from px)
        cases h
        exact ⟨a, us, rfl, .inr s, fin q k⟩
      | _ => cases h
theorem si_list1 {e : Expr} {p pos : Pos} {cs : Cs} (hg : Gl X "list") (hm : X.mg "list" = none) (ha : SimA X L G cf [e] cs) (he : starEach [e] X.env = (false, eval e X.env) :: starEach [] X.env := by rfl) (hpl : (backTo pos (starEach [] X.env)).any (·.1) = false := by rfl) : Sim X L G cf (.Call (.Name "list" p) [e] [] pos) (.blt .list1 cs) :=
  si_blt_of (.inr call_list_of) (.inr ⟨by rfl, call_list_of⟩) bl_list hg hm ha (by decide) (by decide) he hpl

/-! ### isinstance -/
def tyV' (L : Pl) : Ty → Value
  | .bt b => btV b
  | .own c => .ref (L.cla c)
theorem ty_of {ρ : Nat → Addr} {S : Store} {H : Hp} {d : D} {v : V} {t : Ty} (E : EnvOk X L G cf) (r : Rel X.K L H ρ S) (p : Rp X.K L H ρ S.n d v) (h : PD.tyD G S d = some t) : TyX X.K H v (tyV' L t) := by
  cases d with
  | non => cases h; cases (show v = .non from p); exact .base .non
  | bl b => cases h; cases (show v = .bl b from p); exact .base (.bl b)
  | int i => cases h; cases (show v = .int i from p); exact .base (.int i)
  | str z => cases h; cases (show v = .str z from p); exact .base (.str z)
  | tup l =>
    cases h
    obtain ⟨a, us, rfl, s, q⟩ := (show ∃ a vs, v = .ref a ∧ SqT X.K H a vs ∧ RpL X.K L H ρ S.n l vs from p)
    rcases s with (s | ⟨o, s⟩) | ⟨o, its, n, lk, hc, _⟩
    · exact .base (.tup s)
    · exact .fTuple s
    · exact .kTuple lk hc
  | kd i =>
    have h1 : (if (G.kdt i).isSome = true then some (Ty.bt .dict) else none) = some t := h
    split at h1
    · rename_i e
      cases h1
      cases (show v = .ref (L.kda i) from p)
      obtain ⟨tb, ht⟩ := Option.isSome_iff_exists.mp e
      obtain ⟨⟨es, n, kd⟩, _⟩ := E.kd i tb ht
      exact .kDict kd.at_ rfl
    · cases h1
  | ref i =>
    obtain ⟨_, rfl⟩ := (show i < S.n ∧ v = .ref (ρ i) from p)
    have h1 : (match S.get i with
      | some (.lst _ _) => some (Ty.bt .list)
      | some (.ins c _) => if G.isc c then some (.own c) else none
      | _ => none) = some t := h
    split at h1
    · rename_i w l e
      cases h1
      have x := r.cell i _ e
      cases w with
      | true => obtain ⟨us, s, _⟩ := x; exact .base (.lst s)
      | false =>
        obtain ⟨us, s, _⟩ := x
        rcases s with ⟨o, s⟩ | ⟨o, its, n, lk, hc, _⟩
        · exact .base (.frz s)
        · exact .kList lk hc
    · rename_i c fs e
      split at h1
      · rename_i hc
        cases h1
        obtain ⟨dx, us, s, _⟩ := r.cell i _ e
        have q := E.isi c hc
        exact .base (.ins s q.cls q.ha q.hn q.htk q.hm)
      · cases h1
    · cases h1
theorem kit_bt : ∀ (K : PySem.W.Frag) (b : Bt) (t : Tk), (∀ c, t ≠ .cls c) → PySem.W.kitOne K (btV b) (tkV L t) = some (btIs b t) := fun K b t h => by
  cases t with
  | cls c => exact absurd rfl (h c)
  | int => cases b <;> exact kit_ty (by decide +kernel)
  | bool => cases b <;> exact kit_ty (by decide +kernel)
  | str => cases b <;> exact kit_ty (by decide +kernel)
  | list => cases b <;> exact kit_ty (by decide +kernel)
  | tuple => cases b <;> exact kit_ty (by decide +kernel)
  | dict => cases b <;> exact kit_ty (by decide +kernel)
theorem kit_one {S : Store} {d : D} {t : Ty} {k : Tk} {b : Bool} (E : EnvOk X L G cf) (ht : PD.tyD G S d = some t) (h : isTk G S d k = some b) (hown : ∀ c, t = .own c → G.isc c = true) : PySem.W.kitOne X.K (tyV' L t) (tkV L k) = some b := by
  have nc : ∀ {k : Tk}, (∀ c, k ≠ .cls c) → isTk G S d k = some b → PySem.W.kitOne X.K (tyV' L t) (tkV L k) = some b := fun {k} hk h => by
    have h1 : (match PD.tyD G S d with | some (.own _) => some false | some (.bt n) => some (btIs n k) | none => none) = some b := by
      cases k with
      | cls c => exact absurd rfl (hk c)
      | _ => exact h
    rw [ht] at h1
    cases t with
    | bt n => cases h1; exact kit_bt X.K n k hk
    | own c => cases h1; exact E.kob c k (hown c rfl) hk
  cases k with
  | cls c =>
    have h1 : (if G.isc c = true then (match PD.tyD G S d with | some (.own c') => some (c == c') | some (.bt _) => some false | none => none) else none) = some b := h
    split at h1
    · rename_i hc
      rw [ht] at h1
      cases t with
      | bt n => cases h1; exact E.kbo c n hc
      | own c' => cases h1; exact E.koo c c' hc (hown c' rfl)
    · cases h1
  | int => exact nc (fun _ z => by cases z) h
  | bool => exact nc (fun _ z => by cases z) h
  | str => exact nc (fun _ z => by cases z) h
  | list => exact nc (fun _ z => by cases z) h
  | tuple => exact nc (fun _ z => by cases z) h
  | dict => exact nc (fun _ z => by cases z) h
theorem own_isc {S : Store} {d : D} {c : Nat} (h : PD.tyD G S d = some (.own c)) : G.isc c = true := by
  cases d with
  | ref i =>
    have h1 : (match S.get i with
      | some (.lst _ _) => some (Ty.bt .list)
      | some (.ins c _) => if G.isc c then some (.own c) else none
      | _ => none) = some (.own c) := h
    split at h1
    · cases h1
    · split at h1
      · cases h1; assumption
      · cases h1
    · cases h1
  | kd i =>
    have h1 : (if (G.kdt i).isSome = true then some (Ty.bt .dict) else none) = some (.own c) := h
    split at h1 <;> cases h1
  | _ => cases h
theorem isTk_ty {S : Store} {d : D} {k : Tk} {b : Bool} (h : isTk G S d k = some b) : ∃ t, PD.tyD G S d = some t := by
  cases e : PD.tyD G S d with
  | some t => exact ⟨t, rfl⟩
  | none =>
    have nc : ∀ {k : Tk}, (∀ c, k ≠ .cls c) → isTk G S d k = some b → False := fun {k} hk h => by
      have h1 : (match PD.tyD G S d with | some (.own _) => some false | some (.bt n) => some (btIs n k) | none => none) = some b := by
        cases k with
        | cls c => exact absurd rfl (hk c)
        | _ => exact h
      rw [e] at h1
      cases h1
    cases k with
    | cls c =>
      have h1 : (if G.isc c = true then (match PD.tyD G S d with | some (.own c') => some (c == c') | some (.bt _) => some false | none => none) else none) = some b := h
      rw [e] at h1
      split at h1 <;> cases h1
    | int => exact (nc (fun _ z => by cases z) h).elim
    | bool => exact (nc (fun _ z => by cases z) h).elim
    | str => exact (nc (fun _ z => by cases z) h).elim
    | list => exact (nc (fun _ z => by cases z) h).elim
    | tuple => exact (nc (fun _ z => by cases z) h).elim
    | dict => exact (nc (fun _ z => by cases z) h).elim
theorem kit_any {S : Store} {d : D} {t : Ty} (E : EnvOk X L G cf) (ht : PD.tyD G S d = some t) : ∀ {ks : List Tk} {b : Bool}, anyTk G S d ks = some b → PySem.W.kitAny X.K (tyV' L t) (ks.map (tkV L)) = some b
  | [], b, h => by cases h; rfl
  | k :: ks, b, h => by
    have h1 : (match isTk G S d k with | some true => some true | some false => anyTk G S d ks | none => none) = some b := h
    cases e : isTk G S d k with
    | none => rw [e] at h1; cases h1
    | some c =>
      have h2 := kit_one E ht e fun c hc => own_isc (hc ▸ ht)
      cases c with
      | true =>
        rw [e] at h1
        cases h1
        exact kitAny_cons h2 (fun z => nomatch z) fun _ => rfl
      | false =>
        rw [e] at h1
        exact kitAny_cons h2 (fun _ => kit_any E ht h1) fun z => nomatch z
/-- a class as written -/
theorem tk_cls (t : Tk) : ClsV (tkT L t) (tkV L t) := by
  cases t <;> first | exact .ty _ | exact .own _
structure TkName (X : Cx) (L : Pl) (e : Expr) (t : Tk) : Prop where
  pe : PE X e (tC (tkT L t))
theorem tk_name {x : Str} {pos : Pos} {T : String} {t : Tk} (hT : tkT L t = .ty T) (hg : Gl X x) (hm : X.mg x = none) (hv : bootBuiltins x = some (.type T)) (hn : x ≠ "__name__" := by decide) (hd : (x == ("__debug__" : Str)) = false := by decide) : TkName X L (.Name x pos) t :=
  ⟨by rw [hT]; exact pe_bltn hg hm hv (v := .ty T) rfl hn hd⟩
theorem tk_own {x : Str} {pos : Pos} {c : Nat} (hg : Gl X x) (hm : X.mg x = some (.ref (L.cla c))) (hd : (x == ("__debug__" : Str)) = false := by decide) : TkName X L (.Name x pos) (.cls c) :=
  ⟨pe_glob hg hm (v := .ref (L.cla c)) rfl hd⟩
theorem si_isi {e k : Expr} {p pos : Pos} {c : C} {t : Tk} (E : EnvOk X L G cf) (hg : Gl X "isinstance") (hm : X.mg "isinstance" = none) (ha : Sim X L G cf e c) (hk : TkName X L k t)
    (he : starEach [e, k] X.env = (false, eval e X.env) :: starEach [k] X.env := by rfl) (he2 : starEach [k] X.env = (false, eval k X.env) :: starEach [] X.env := by rfl) (hpl : (backTo pos (starEach [k] X.env)).any (·.1) = false := by rfl) :
    Sim X L G cf (.Call (.Name "isinstance" p) [e, k] [] pos) (.blt (.isi [t]) (.cons c .nil)) := by
  refine ⟨fun ρ σd σ S H d S' Q r rs h kk => ?_⟩
  obtain ⟨ds, T1, e1, h2⟩ := Res.bind_ok (show (evCs G cf (.cons c .nil) σd S).bind (fun ds S1 => evBl G S1 (.isi [t]) ds) = .ok d S' from h)
  obtain ⟨x, T2, e2, h3⟩ := Res.bind_ok (show (evC G cf c σd S).bind (fun d S1 => (evCs G cf .nil σd S1).bind fun ds S2 => .ok (d :: ds) S2) = .ok ds T1 from e1)
  cases h3
  obtain ⟨h4, rfl⟩ := Res.of_ok (show Res.of ((anyTk G T1 x [t]).map .bl) T1 = .ok d S' from h2)
  obtain ⟨b, h5, rfl⟩ := Option.map_eq_some_iff.mp h4
  refine ofE (pe_callB call_isi hg hm (by rfl) (pa_cons (pE e) (pa_cons hk.pe pa_nil he2) he) (by decide) (by decide) he hpl) (ha.run ρ σd σ S H x S' _ r rs e2 fun ρ' H' v n q => ?_)
  have h6 : (match isTk G S' x t with | some true => some true | some false => some false | none => none) = some b := h5
  cases e3 : isTk G S' x t with
  | none => rw [e3] at h6; cases h6
  | some b' =>
    obtain ⟨ty, hty⟩ := isTk_ty e3
    have e4 : b' = b := by rw [e3] at h6; cases b' <;> cases h6 <;> rfl
    subst e4
    exact ⟨v, tkT L t, tyV' L ty, tkV L t, b', rfl, tk_cls t, ty_of E n.r q hty, kit_one E hty e3 fun c hc => own_isc (hc ▸ hty), kk ρ' H' _ n rfl⟩
theorem tk_all : ∀ ts : List Tk, Paired ClsV (ts.map (tkT L)) (ts.map (tkV L))
  | [] => .nil
  | t :: ts => .cons (tk_cls t) (tk_all ts)
/-- isinstance(e, (A, B)) -/
theorem si_isi2 {e k1 k2 : Expr} {x1 : Nat} {p pos tpos : Pos} {c : C} {t1 t2 : Tk} (E : EnvOk X L G cf) (hg : Gl X "isinstance") (hm : X.mg "isinstance" = none) (ha : Sim X L G cf e c) (hk1 : TkName X L k1 t1) (hk2 : TkName X L k2 t2)
    (he : starEach [e, .Tuple [k1, k2] x1 tpos] X.env = (false, eval e X.env) :: starEach [.Tuple [k1, k2] x1 tpos] X.env := by rfl) (he2 : starEach [.Tuple [k1, k2] x1 tpos] X.env = (false, eval (.Tuple [k1, k2] x1 tpos) X.env) :: starEach [] X.env := by rfl)
    (he3 : starEach [k1, k2] X.env = (false, eval k1 X.env) :: starEach [k2] X.env := by rfl) (he4 : starEach [k2] X.env = (false, eval k2 X.env) :: starEach [] X.env := by rfl) (hpl : (backTo pos (starEach [.Tuple [k1, k2] x1 tpos] X.env)).any (·.1) = false := by rfl) :
    Sim X L G cf (.Call (.Name "isinstance" p) [e, .Tuple [k1, k2] x1 tpos] [] pos) (.blt (.isi [t1, t2]) (.cons c .nil)) := by
  refine ⟨fun ρ σd σ S H d S' Q r rs h kk => ?_⟩
  obtain ⟨ds, T1, e1, h2⟩ := Res.bind_ok (show (evCs G cf (.cons c .nil) σd S).bind (fun ds S1 => evBl G S1 (.isi [t1, t2]) ds) = .ok d S' from h)
  obtain ⟨x, T2, e2, h3⟩ := Res.bind_ok (show (evC G cf c σd S).bind (fun d S1 => (evCs G cf .nil σd S1).bind fun ds S2 => .ok (d :: ds) S2) = .ok ds T1 from e1)
  cases h3
  obtain ⟨h4, rfl⟩ := Res.of_ok (show Res.of ((anyTk G T1 x [t1, t2]).map .bl) T1 = .ok d S' from h2)
  obtain ⟨b, h5, rfl⟩ := Option.map_eq_some_iff.mp h4
  refine ofE (pe_callB call_isiT hg hm (by rfl) (pa_cons (pE e) (pa_cons (pe_tup (pa_cons hk1.pe (pa_cons hk2.pe pa_nil he4) he3)) pa_nil he2) he) (by decide) (by decide) he hpl) (ha.run ρ σd σ S H x S' _ r rs e2 fun ρ' H' v n q => ?_)
  refine ⟨by show 2 ≤ sizeLine; decide, fun a ha => ?_⟩
  have h6 : (match isTk G S' x t1 with | some true => some true | some false => anyTk G S' x [t2] | none => none) = some b := h5
  have hh : ∃ b', isTk G S' x t1 = some b' := by
    cases e3 : isTk G S' x t1 with
    | none => rw [e3] at h6; cases h6
    | some b' => exact ⟨b', rfl⟩
  obtain ⟨b', e3⟩ := hh
  obtain ⟨ty, hty⟩ := isTk_ty e3
  have n2 := n.r.new (o := .tup [tkT L t1, tkT L t2]) ha
  exact ⟨v, a, [tkT L t1, tkT L t2], tyV' L ty, [tkV L t1, tkV L t2], b, rfl, upd_same, tk_all [t1, t2], ty_of E n2.r (n2.rp q) hty, kit_any E hty h5, kk ρ' _ _ (n.trans n2) rfl⟩

/-! ### xs.append(x), TABLE.get(x) -/
theorem si_app {o e : Expr} {apos cpos : Pos} {co c : C} (ho : Sim X L G cf o co) (ha : Sim X L G cf e c)
    (hbase : attributeBase o "append" X.env (eval o X.env) = eval o X.env := by rfl)
    (hfew : ((backTo cpos (starEach [e] X.env)).all (fun x => !x.1) && (backToKw cpos (keywordEach [] X.env)).all (fun x => x.1.isSome)
      && decide ([e].length + ([] : List Keyword).length + (if ([] : List Keyword).isEmpty then 0 else 1) < 30)) = true := by rfl)
    (hline : (apos.endLine == cpos.line) = true := by rfl) (hs : starEach [e] X.env = (false, eval e X.env) :: starEach [] X.env := by rfl) (hplain : (backTo cpos (starEach [] X.env)).any (·.1) = false := by rfl) :
    Sim X L G cf (.Call (.Attribute o "append" apos) [e] [] cpos) (.app co c) := by
  refine ⟨fun ρ σd σ S H d S' Q r rs h k => ?_⟩
  obtain ⟨x, T1, e1, h2⟩ := Res.bind_ok (show (evC G cf co σd S).bind (fun a S1 => match a with
    | .ref i => (match S1.get i with
      | some (.lst _ _) => (evC G cf c σd S1).bind fun d S2 => match S2.get i with
        | some (.lst true l) => if l.length < sizeLine then .ok .non (S2.set i (.lst true (l ++ [d]))) else .stuck
        | _ => .stuck
      | _ => .stuck)
    | _ => .stuck) = .ok d S' from h)
  split at h2
  · rename_i i
    split at h2
    · rename_i w0 l0 e0
      obtain ⟨y, T2, e2, h3⟩ := Res.bind_ok h2
      split at h3
      · rename_i l e3
        split at h3
        · rename_i hl
          cases h3
          refine ofE (pe_bm PySem.F.plainAttrs_list PySem.F.slot_list_append PySem.F.type_list_append mt_append (pE o) (pa_cons (pE e) pa_nil hs) hbase hfew hline hs hplain) (ho.run ρ σd σ S H _ T1 _ r rs e1 fun ρ' H' v n q => ?_)
          obtain ⟨_, rfl⟩ := (show i < T1.n ∧ v = .ref (ρ' i) from q)
          obtain ⟨us0, s0, _⟩ := cell_lst n.r e0
          refine ⟨.inl ⟨rfl, us0, s0⟩, ?_⟩
          refine ha.run ρ' σd σ T1 H' y T2 _ n.r (n.rs rs) e2 fun ρ2 H2 v2 n2 q2 => ?_
          obtain ⟨us, s, p⟩ := n2.r.cell i _ e3
          have hagree : ρ2 i = ρ' i := n2.a i (by assumption)
          rw [hagree] at s
          refine ⟨ρ' i, us, v2, rfl, rfl, s, by rw [← p.length]; exact hl, ?_⟩
          have n3 := n2.r.write (o := .lst (us ++ [v2])) (c := .lst true (l ++ [y])) e3 True.intro True.intro (by
            rw [hagree]
            refine ⟨us ++ [v2], upd_same, ?_⟩
            have t : TM H2 (upd H2 (ρ' i) (.lst (us ++ [v2]))) := TM.wr s fun z => z
            exact (p.append (RpL.cons q2 RpL.nil)).mono t (Agree.refl _ _) (Nat.le_refl _))
          rw [hagree] at n3
          exact k ρ2 _ _ ((n.trans n2).trans n3) rfl
        · cases h3
      · cases h3
    · cases h2
  · cases h2
end
end PD

/-! PD6: TABLE.get, targets, what a loop walks, comprehensions. -/
namespace PD
open PySem PySem.Spec PyProof.Rows L2
section
variable {X : Cx} {L : Pl} {G : Gd} {cf : Nat → List D → Store → Res D}
theorem get_kd {d : Addr} {es : Array DictEntry} {n : Nat} {z : Str} {t : Tok} {r : Option Value} {pins : List (Addr × Obj)} {σ : L2.St} {H : Hp} {s : Shared} {A : Around} {E : Value → Shared → Prop} {Q : Value → Shared → Prop} (D : KDict X.K X.w d es n) (I : Inv X pins σ H s) (e : PySem.W.nsIn X.K d z = some r)
    (h : Q (r.getD .none) { s with toks := s.toks + 1 }) : wpAny (model X.prog X.w) A (call (.builtin "dict.get") [.ref d, .str z t]) Q E s := by
  have m := PySem.W.mapOf_K (prog := X.prog) (w := X.w) I.kIn D.at_ D.lit
  refine call_meetsIn PySem.F.slot_dict_get m.typeIs PySem.F.entry_dict_get (PySem.F.args_dict_get_2 _ _) (meets_dict_get _ d (PySem.strKind_is X.prog X.w z t) D.low) ⟨_, m, ?_⟩
  rw [PySem.W.find_K D.at_ e]
  exact h
theorem si_dget {o e : Expr} {apos cpos : Pos} {co c : C} (E : EnvOk X L G cf) (ho : Sim X L G cf o co) (ha : Sim X L G cf e c)
    (hbase : attributeBase o "get" X.env (eval o X.env) = eval o X.env := by rfl)
    (hfew : ((backTo cpos (starEach [e] X.env)).all (fun x => !x.1) && (backToKw cpos (keywordEach [] X.env)).all (fun x => x.1.isSome)
      && decide ([e].length + ([] : List Keyword).length + (if ([] : List Keyword).isEmpty then 0 else 1) < 30)) = true := by rfl)
    (hline : (apos.endLine == cpos.line) = true := by rfl) (hs : starEach [e] X.env = (false, eval e X.env) :: starEach [] X.env := by rfl) (hplain : (backTo cpos (starEach [] X.env)).any (·.1) = false := by rfl) :
    Sim X L G cf (.Call (.Attribute o "get" apos) [e] [] cpos) (.dget co c) := by
  refine ⟨fun ρ σd σ S H d S' Q r rs h k => fun pins s I => ?_⟩
  obtain ⟨x, T1, e1, h2⟩ := Res.bind_ok (show (evC G cf co σd S).bind (fun a S1 => match a with
    | .kd i => (evC G cf c σd S1).bind fun d S2 => match d with
      | .str z => Res.of ((G.kdt i).map fun t => (t.lookup z).getD .non) S2
      | _ => .stuck
    | _ => .stuck) = .ok d S' from h)
  split at h2
  · rename_i i
    obtain ⟨y, T2, e2, h3⟩ := Res.bind_ok h2
    split at h3
    · rename_i z
      obtain ⟨h4, rfl⟩ := Res.of_ok h3
      obtain ⟨tb, ht, rfl⟩ := Option.map_eq_some_iff.mp h4
      obtain ⟨⟨es, n, kd⟩, hat⟩ := E.kd i tb ht
      refine wpAny_Call_method_late hbase hfew hline rfl (thn (ho.run ρ σd σ S H _ T1 (fun v H1 => ∃ ρ1, Nx X.K L S H ρ T1 H1 ρ1 ∧ Rp X.K L H1 ρ1 T1.n (.kd i) v) r rs e1 (fun ρ' H' v n p => ⟨ρ', n, p⟩) pins s I) fun u s1 ⟨v, H1, I1, rv, ρ1, n1, p1⟩ => ?_)
      cases (show v = .ref (L.kda i) from p1)
      obtain rfl : u = Value.ref (L.kda i) := rv
      refine ⟨"dict", "dict.get", PySem.F.plainAttrs_dict, PySem.F.slot_dict_get, PySem.F.type_dict_get, kd_type kd I1, fun a ea => ?_, ?_⟩
      · cases ea
        exact ⟨_, I1.kIn _ _ kd.at_, rfl⟩
      · have hA := (pa_cons (pE e) pa_nil hs).run cpos pins s1 σ H1 (fun vs H2 => ∃ ρ2 v2, vs = [v2] ∧ Nx X.K L T1 H1 ρ1 S' H2 ρ2 ∧ Rp X.K L H2 ρ2 S'.n (.str z) v2) I1 (ha.run ρ1 σd σ T1 H1 _ S' _ n1.r (n1.rs rs) e2 fun ρ2 H2 v2 n2 p2 => ⟨ρ2, v2, rfl, n2, p2⟩)
        rw [hs] at hA ⊢
        refine Calls.callWith_builtin (by show (false || (backTo cpos (starEach [] X.env)).any (·.1)) = false; rw [hplain] <;> rfl) (Calls.evalArgs_plain ?_)
        refine thn hA fun us s2 ⟨vs, H2, I2, r2, ρ2, v2, ev, n2, p2⟩ => ?_
        subst ev
        cases (show v2 = .str z from p2)
        obtain ⟨u2, rfl, t, rfl⟩ := vals1 r2
        rcases hat z with ⟨e5, e6⟩ | ⟨x, uu, vv, e5, e6, e7, e8⟩
        · refine get_kd kd I2 e6 ⟨.non, H2, I2.tok _, rfl, k ρ2 H2 _ (n1.trans n2) ?_⟩
          rw [e5]
          rfl
        · refine get_kd kd I2 e6 ⟨vv, H2, I2.tok _, e7, k ρ2 H2 _ (n1.trans n2) ?_⟩
          rw [e5]
          exact e8 _ _ _
    · cases h3
  · cases h2

/-! ### targets -/
structure SimG (X : Cx) (L : Pl) (tg : Expr) (one : Bool) (is : List Nat) : Prop where
  run : ∀ (ρ : Nat → Addr) (σd : Sl) (σ : L2.St) (S : Store) (H : Hp) (d : D) (v : V) (σd' : Sl) (Q : L2.St → Hp → Prop), Rel X.K L H ρ S → RS X.K L H ρ S.n σd σ → Rp X.K L H ρ S.n d v → bindT one is σd d = some σd' →
    (∀ σ', RS X.K L H ρ S.n σd' σ' → (∀ vs : List Nat, (∀ i ∈ is, i ∈ vs) → L2.wipe σ' vs = L2.wipe σ vs) → Q σ' H) → wG X tg v σ H Q
theorem wipe_get : ∀ (vs : List Nat) (σ : L2.St) (j : Nat), (L2.wipe σ vs)[j]? = if j ∈ vs then (σ[j]?).map fun _ => none else σ[j]?
  | [], σ, j => by simp [L2.wipe]
  | v :: vs, σ, j => by
    show ((L2.wipe σ vs).set v none)[j]? = _
    rw [List.getElem?_set, wipe_get vs σ j]
    by_cases e : v = j
    · subst e
      rw [if_pos rfl, if_pos (List.mem_cons_self ..), L2.wipe_length]
      split
      · rename_i hl
        rw [List.getElem?_eq_getElem hl]
        rfl
      · rename_i hl
        rw [List.getElem?_eq_none (by omega)]
        rfl
    · rw [if_neg e]
      have : (j ∈ v :: vs) ↔ j ∈ vs := ⟨fun h => (List.mem_cons.mp h).resolve_left fun z => e z.symm, List.mem_cons_of_mem _⟩
      simp only [this]
theorem wipe_set {σ : L2.St} {vs : List Nat} {i : Nat} {u : Option V} (h : i ∈ vs) : L2.wipe (σ.set i u) vs = L2.wipe σ vs := by
  apply List.ext_getElem?
  intro j
  rw [wipe_get, wipe_get]
  by_cases e : j ∈ vs
  · rw [if_pos e, if_pos e, List.getElem?_set]
    split
    · rename_i z
      subst z
      split
      · rename_i hl
        rw [List.getElem?_eq_getElem hl]
        rfl
      · rename_i hl
        rw [List.getElem?_eq_none (by omega)] <;> rfl
    · rfl
  · rw [if_neg e, if_neg e, List.getElem?_set, if_neg]
    intro z
    exact e (z ▸ h)
theorem wipe_wipe {σ : L2.St} {vs : List Nat} : L2.wipe (L2.wipe σ vs) vs = L2.wipe σ vs := by
  apply List.ext_getElem?
  intro j
  rw [wipe_get, wipe_get]
  by_cases e : j ∈ vs
  · rw [if_pos e, if_pos e]
    cases σ[j]? <;> rfl
  · rw [if_neg e, if_neg e]
theorem sg_name {i : Nat} {x : Str} {pos : Pos} (hN : X.N.Nodup) (hi : X.N[i]? = some x) (hx : Loc X.env.scope x) (hf : X.fn x = true ∨ X.env.scope.names.lookup x = some .local) : SimG X L (.Name x pos) true [i] := by
  refine ⟨fun ρ σd σ S H d v σd' Q r rs p h k => ?_⟩
  cases (show some (σd.set i (some d)) = some σd' from h)
  exact fun pins s u I rv => (pg_name hN hi hx hf).run pins s σ H v u Q I rv (k _ (rs.set i p) fun vs hv => wipe_set (hv i (List.mem_cons_self ..)))
/-- names, one behind another -/
structure SimGs (X : Cx) (L : Pl) (tgs : List Expr) (is : List Nat) : Prop where
  run : ∃ t : TGs, PGs X tgs t ∧ ∀ (ρ : Nat → Addr) (σd : Sl) (σ : L2.St) (n : Nat) (H : Hp) (ds : List D) (vs : List V) (σd' : Sl) (Q : L2.St → Hp → Prop), RS X.K L H ρ n σd σ → RpL X.K L H ρ n ds vs → setAll σd is ds = some σd' →
    (∀ σ', RS X.K L H ρ n σd' σ' → (∀ ws : List Nat, (∀ i ∈ is, i ∈ ws) → L2.wipe σ' ws = L2.wipe σ ws) → Q σ' H) → t vs σ H Q
theorem sgs_nil : SimGs X L [] [] := ⟨⟨gNil, pgs_nil, fun ρ σd σ n H ds vs σd' Q rs p h k => by
  cases ds with
  | nil =>
    cases h
    cases (show vs = [] from p)
    exact ⟨rfl, k σ rs fun _ _ => rfl⟩
  | cons _ _ => cases h⟩⟩
theorem sgs_cons {i : Nat} {x : Str} {pos : Pos} {es : List Expr} {is : List Nat} (hN : X.N.Nodup) (hi : X.N[i]? = some x) (hx : Loc X.env.scope x) (hf : X.fn x = true ∨ X.env.scope.names.lookup x = some .local) (hr : SimGs X L es is)
    (hs : (assignEach (.Name x pos :: es) X.env).map (·.2) = assign (.Name x pos) X.env :: (assignEach es X.env).map (·.2) := by rfl) : SimGs X L (.Name x pos :: es) (i :: is) := by
  obtain ⟨t, pg, run⟩ := hr.run
  refine ⟨⟨_, pgs_cons (pg_name hN hi hx hf) pg hs, fun ρ σd σ n H ds vs σd' Q rs p h k => ?_⟩⟩
  cases ds with
  | nil => cases h
  | cons d ds =>
    obtain ⟨v, us, rfl, h1, h2⟩ := p
    refine ⟨v, us, rfl, run ρ (σd.set i (some d)) _ n H ds us σd' Q (rs.set i h1) h2 h fun σ' rs' hw => k σ' rs' fun ws hws => ?_⟩
    rw [hw ws fun j hj => hws j (List.mem_cons_of_mem _ hj), wipe_set (hws i (List.mem_cons_self ..))]
theorem setAll_len : ∀ {σ σ' : Sl} {is : List Nat} {ds : List D}, setAll σ is ds = some σ' → ds.length = is.length
  | _, _, [], [], _ => rfl
  | _, _, [], _ :: _, h => by cases h
  | _, _, _ :: _, [], h => by cases h
  | σ, σ', i :: is, d :: ds, h => congrArg Nat.succ (setAll_len (σ := σ.set i (some d)) (σ' := σ') (is := is) (ds := ds) h)
theorem sg_tup {es : List Expr} {k : Nat} {pos : Pos} {is : List Nat} (hc : X.calm = true) (hr : SimGs X L es is) (hn : (assignEach es X.env).length = is.length := by rfl) (hst : (assignEach es X.env).findIdx? (·.1) = none := by rfl) : SimG X L (.Tuple es k pos) false is := by
  obtain ⟨t, pg, run⟩ := hr.run
  refine ⟨fun ρ σd σ S H d v σd' Q r rs p h kk => ?_⟩
  cases d with
  | tup l =>
    obtain ⟨a, us, rfl, s, q⟩ := (show ∃ a vs, v = .ref a ∧ SqT X.K H a vs ∧ RpL X.K L H ρ S.n l vs from p)
    have hl := setAll_len (show setAll σd is l = some σd' from h)
    refine fun pins sh u I rv => (pg_tup (n := is.length) hc pg hn hst).run pins sh σ H _ u Q I rv ⟨a, us, rfl, s, by rw [← q.length, hl], ?_⟩
    exact run ρ σd σ S.n H l us σd' Q rs q h kk
  | _ => cases h

/-! ### what a loop walks -/
/-- items that stand -/
def FeedFix (K : PySem.W.Frag) (L : Pl) (l : List D) (J : It) (H : Hp) (ρ : Nat → Addr) (S : Store) : Prop := ∀ ρ' S' H', Nx K L S H ρ S' H' ρ' → ∀ i : Nat,
  (∀ d, l[i]? = some d → J.go i H' ∧ ∀ x H2, J.yld i H' x H2 → Nx K L S' H' ρ' S' H2 ρ' ∧ Rp K L H2 ρ' S'.n d x) ∧ (l.length ≤ i → J.stop i H')
/-- a list read turn by turn -/
def FeedLive (K : PySem.W.Frag) (L : Pl) (i0 : Nat) (J : It) (H : Hp) (ρ : Nat → Addr) (S : Store) : Prop := ∀ ρ' S' H', Nx K L S H ρ S' H' ρ' → ∀ (w : Bool) (l : List D) (i : Nat), S'.get i0 = some (.lst w l) →
  (∀ d, l[i]? = some d → J.go i H' ∧ ∀ x H2, J.yld i H' x H2 → Nx K L S' H' ρ' S' H2 ρ' ∧ Rp K L H2 ρ' S'.n d x) ∧ (l.length ≤ i → J.stop i H')
def Feed (K : PySem.W.Frag) (L : Pl) (q : Sq) (J : It) (H : Hp) (ρ : Nat → Addr) (S : Store) : Prop := match q with
  | .fix l => FeedFix K L l J H ρ S
  | .live i _ => FeedLive K L i J H ρ S
structure SimI (X : Cx) (L : Pl) (G : Gd) (cf : Nat → List D → Store → Res D) (tg iter : Expr) (it : Iter) : Prop where
  run : ∀ (ρ : Nat → Addr) (σd : Sl) (σ : L2.St) (S : Store) (H : Hp) (q : Sq) (S' : Store) (R : It → Hp → Prop), Rel X.K L H ρ S → RS X.K L H ρ S.n σd σ → evIt G cf it σd S = .ok q S' →
    (∀ ρ' H' J, Nx X.K L S H ρ S' H' ρ' → Feed X.K L q J H' ρ' S' → R J H') → wI X tg iter σ H R
theorem feed_tup {K : PySem.W.Frag} {l : List D} {H : Hp} {ρ : Nat → Addr} {S : Store} {a : Addr} {us : List V} (s : SqT K H a us) (q : RpL K L H ρ S.n l us) : FeedFix K L l (Itt K a) H ρ S := fun ρ' S' H' n i => by
  have q' := n.rpl q
  have s' := n.t.sqT s
  refine ⟨fun d hd => ?_, fun hi => ⟨us, s', by rw [← q.length]; exact hi⟩⟩
  obtain ⟨v, e1, e2⟩ := q'.get hd
  refine ⟨⟨us, v, s', e1⟩, fun x H2 y => ?_⟩
  obtain ⟨rfl, y⟩ := y
  have e3 := y us s'
  rw [e1] at e3
  cases e3
  exact ⟨Nx.refl n.r, e2⟩
theorem feed_lst {K : PySem.W.Frag} {H : Hp} {ρ : Nat → Addr} {S : Store} {i0 : Nat} (h0 : i0 < S.n) : FeedLive K L i0 (Itl K (ρ i0)) H ρ S := fun ρ' S' H' n w l i e => by
  obtain ⟨us, s', q'⟩ := cell_lst n.r e
  rw [n.a i0 h0] at s'
  refine ⟨fun d hd => ?_, fun hi => ⟨us, s', by rw [← q'.length]; exact hi⟩⟩
  obtain ⟨v, e1, e2⟩ := q'.get hd
  refine ⟨⟨us, v, s', e1⟩, fun x H2 y => ?_⟩
  obtain ⟨rfl, y⟩ := y
  have e3 := y us s'
  rw [e1] at e3
  cases e3
  exact ⟨Nx.refl n.r, e2⟩
theorem rangeL_get : ∀ (n : Nat) (lo : Int) (i : Nat), (rangeL lo n)[i]? = if i < n then some (.int (lo + i)) else none
  | 0, lo, i => by simp [rangeL]
  | n + 1, lo, 0 => by simp [rangeL]
  | n + 1, lo, i + 1 => by
    show (rangeL (lo + 1) n)[i]? = _
    rw [rangeL_get n (lo + 1) i]
    by_cases h : i < n
    · rw [if_pos h, if_pos (by omega)]
      congr 2
      omega
    · rw [if_neg h, if_neg (by omega)]
theorem rangeL_len : ∀ (n : Nat) (lo : Int), (rangeL lo n).length = n
  | 0, _ => rfl
  | n + 1, lo => congrArg Nat.succ (rangeL_len n (lo + 1))
theorem feed_rng {K : PySem.W.Frag} {H : Hp} {ρ : Nat → Addr} {S : Store} {lo : Int} {k : Nat} : FeedFix K L (rangeL lo k) (Itr lo k) H ρ S := fun ρ' S' H' n i => by
  refine ⟨fun d hd => ?_, fun hi => by rw [rangeL_len] at hi; exact hi⟩
  rw [rangeL_get] at hd
  split at hd
  · rename_i hi
    cases hd
    refine ⟨hi, fun x H2 y => ?_⟩
    obtain ⟨rfl, rfl⟩ := y
    exact ⟨Nx.refl n.r, rfl⟩
  · cases hd
theorem feed_str {K : PySem.W.Frag} {H : Hp} {ρ : Nat → Addr} {S : Store} {x : Str} : FeedFix K L (x.cps.toList.map fun c => .str ⟨#[c]⟩) (Its x) H ρ S := fun ρ' S' H' n i => by
  refine ⟨fun d hd => ?_, fun hi => show x.cps.size ≤ i by simpa using hi⟩
  rw [List.getElem?_map] at hd
  obtain ⟨c, hc, rfl⟩ := Option.map_eq_some_iff.mp hd
  have hc' : x.cps[i]? = some c := by simpa using hc
  refine ⟨(Array.getElem?_eq_some_iff.mp hc').1, fun y H2 z => ?_⟩
  obtain ⟨rfl, c', e1, rfl⟩ := z
  rw [hc'] at e1
  cases e1
  exact ⟨Nx.refl n.r, rfl⟩
theorem ii_seq {tg e : Expr} {c : C} (ha : Sim X L G cf e c) : SimI X L G cf tg e (.seq c) := by
  refine ⟨fun ρ σd σ S H q S' R r rs h k => ?_⟩
  obtain ⟨d, T1, e1, h2⟩ := Res.bind_ok (show (evC G cf c σd S).bind (fun d S1 => Res.of (sqOf S1 d) S1) = .ok q S' from h)
  obtain ⟨h3, rfl⟩ := Res.of_ok h2
  cases d with
  | tup l =>
    cases h3
    refine ofI (pi_tup (pE e)) (ha.run ρ σd σ S H _ S' _ r rs e1 fun ρ' H' v n p => ?_)
    obtain ⟨a, us, rfl, s, qq⟩ := (show ∃ a vs, v = .ref a ∧ SqT X.K H' a vs ∧ RpL X.K L H' ρ' S'.n l vs from p)
    exact ⟨a, rfl, ⟨us, s⟩, k ρ' H' _ n (feed_tup s qq)⟩
  | str x =>
    cases h3
    refine ofI (pi_str (pE e)) (ha.run ρ σd σ S H _ S' _ r rs e1 fun ρ' H' v n p => ?_)
    cases (show v = .str x from p)
    exact ⟨x, rfl, k ρ' H' _ n feed_str⟩
  | ref i =>
    have h4 : (match S'.get i with | some (.lst _ l) => some (Sq.live i l.length) | _ => none) = some q := h3
    split at h4
    · rename_i w l e2
      cases h4
      refine ofI (pi_list (pE e)) (ha.run ρ σd σ S H _ S' _ r rs e1 fun ρ' H' v n p => ?_)
      obtain ⟨hi, rfl⟩ := (show i < S'.n ∧ v = .ref (ρ' i) from p)
      obtain ⟨us, s, _⟩ := cell_lst n.r e2
      exact ⟨_, rfl, ⟨us, s⟩, k ρ' H' _ n (feed_lst hi)⟩
    · cases h4
  | _ => cases h3
theorem ii_range1 {tg a : Expr} {c : C} {p pos : Pos} (hg : Gl X "range") (hm : X.mg "range" = none) (ha : Sim X L G cf a c) (hs : starEach [a] X.env = [(false, eval a X.env)] := by rfl) (hs2 : starEach [a] X.env = (false, eval a X.env) :: starEach [] X.env := by rfl) : SimI X L G cf tg (.Call (.Name "range" p) [a] [] pos) (.range1 c) := by
  refine ⟨fun ρ σd σ S H q S' R r rs h k => ?_⟩
  obtain ⟨d, T1, e1, h2⟩ := Res.bind_ok (show (evC G cf c σd S).bind (fun d S1 => match d with
    | .int j => if -(2 ^ 62) ≤ j ∧ j < 2 ^ 62 then Res.ok (.fix (rangeL 0 j.toNat)) S1 else .stuck
    | _ => .stuck) = .ok q S' from h)
  split at h2
  · rename_i j
    split at h2
    · rename_i hj
      cases h2
      refine ofI (pi_range1 hg hm (pa_cons (pE a) pa_nil hs2) hs) (ha.run ρ σd σ S H _ S' _ r rs e1 fun ρ' H' v n p => ?_)
      cases (show v = .int j from p)
      exact ⟨j, rfl, hj.1, hj.2, k ρ' H' _ n feed_rng⟩
    · cases h2
  · cases h2
theorem ii_range2 {tg a b : Expr} {c c2 : C} {p pos : Pos} (hg : Gl X "range") (hm : X.mg "range" = none) (ha : Sim X L G cf a c) (hb : Sim X L G cf b c2) (hs : starEach [a, b] X.env = [(false, eval a X.env), (false, eval b X.env)] := by rfl) (hs2 : starEach [b] X.env = [(false, eval b X.env)] := by rfl)
    (hs3 : starEach [a, b] X.env = (false, eval a X.env) :: starEach [b] X.env := by rfl) (hs4 : starEach [b] X.env = (false, eval b X.env) :: starEach [] X.env := by rfl) : SimI X L G cf tg (.Call (.Name "range" p) [a, b] [] pos) (.range2 c c2) := by
  refine ⟨fun ρ σd σ S H q S' R r rs h k => ?_⟩
  obtain ⟨d, T1, e1, h2⟩ := Res.bind_ok (show (evC G cf c σd S).bind (fun d S1 => (evC G cf c2 σd S1).bind fun e S2 => match d, e with
    | .int i, .int j => if -(2 ^ 62) ≤ i ∧ i < 2 ^ 62 ∧ -(2 ^ 62) ≤ j ∧ j < 2 ^ 62 then Res.ok (.fix (rangeL i (j - i).toNat)) S2 else .stuck
    | _, _ => .stuck) = .ok q S' from h)
  obtain ⟨d2, T2, e2, h3⟩ := Res.bind_ok h2
  split at h3
  · rename_i i j
    split at h3
    · rename_i hj
      cases h3
      refine ofI (pi_range2 hg hm (pa_cons (pE a) (pa_cons (pE b) pa_nil hs4) hs3) hs hs2) (ha.run ρ σd σ S H _ T1 _ r rs e1 fun ρ' H' v n p => ?_)
      cases (show v = .int i from p)
      refine hb.run ρ' σd σ T1 H' _ S' _ n.r (n.rs rs) e2 fun ρ2 H2 v2 n2 p2 => ?_
      cases (show v2 = .int j from p2)
      exact ⟨i, j, rfl, hj, k ρ2 H2 _ (n.trans n2) feed_rng⟩
    · cases h3
  · cases h3
theorem zipD_get : ∀ {l m : List D} {i : Nat} {d : D}, (zipD l m)[i]? = some d → ∃ a b, l[i]? = some a ∧ m[i]? = some b ∧ d = .tup [a, b]
  | [], _, i, d, h => by simp [zipD] at h
  | _ :: _, [], i, d, h => by simp [zipD] at h
  | a :: l, b :: m, 0, d, h => by
    simp [zipD] at h
    exact ⟨a, b, rfl, rfl, h.symm⟩
  | a :: l, b :: m, i + 1, d, h => by
    obtain ⟨x, y, e1, e2, e3⟩ := zipD_get (l := l) (m := m) (i := i) (d := d) (by simpa [zipD] using h)
    exact ⟨x, y, by simpa using e1, by simpa using e2, e3⟩
theorem zipD_len : ∀ {l m : List D} {i : Nat}, (zipD l m).length ≤ i → l.length ≤ i ∨ m.length ≤ i
  | [], _, i, h => .inl (Nat.zero_le _)
  | _ :: _, [], i, h => .inr (Nat.zero_le _)
  | a :: l, b :: m, 0, h => by simp [zipD] at h
  | a :: l, b :: m, i + 1, h => by
    rcases zipD_len (l := l) (m := m) (i := i) (by simpa [zipD] using h) with z | z
    · exact .inl (by simpa using z)
    · exact .inr (by simpa using z)
theorem ii_zip {a b : Expr} {c c2 : C} {p pos tpos : Pos} {elts : List Expr} {kk : Nat} (hg : Gl X "zip") (hm : X.mg "zip" = none) (ha : Sim X L G cf a c) (hb : Sim X L G cf b c2)
    (hs : starEach [a, b] X.env = (false, eval a X.env) :: starEach [b] X.env := by rfl) (hs4 : starEach [b] X.env = (false, eval b X.env) :: starEach [] X.env := by rfl) (hpl : (backTo pos (starEach [b] X.env)).any (·.1) = false := by rfl) : SimI X L G cf (.Tuple elts kk tpos) (.Call (.Name "zip" p) [a, b] [] pos) (.zip c c2) := by
  refine ⟨fun ρ σd σ S H q S' R r rs h k => ?_⟩
  obtain ⟨d, T1, e1, h2⟩ := Res.bind_ok (show (evC G cf c σd S).bind (fun d S1 => (evC G cf c2 σd S1).bind fun e S2 => match itemsOf d, itemsOf e with
    | some l, some m => Res.ok (.fix (zipD l m)) S2
    | _, _ => .stuck) = .ok q S' from h)
  obtain ⟨d2, T2, e2, h3⟩ := Res.bind_ok h2
  cases d with
  | tup l =>
    cases d2 with
    | tup m =>
      cases h3
      refine ofI (RZ.pi_zipA hg hm (pa_cons (pE a) (pa_cons (pE b) pa_nil hs4) hs) hs hpl) (ha.run ρ σd σ S H _ T1 _ r rs e1 fun ρ' H' v n p => ?_)
      refine hb.run ρ' σd σ T1 H' _ S' _ n.r (n.rs rs) e2 fun ρ2 H2 v2 n2 p2 => ?_
      have p1 := n2.rp p
      obtain ⟨x, us, rfl, s, qq⟩ := (show ∃ a vs, v = .ref a ∧ SqT X.K H2 a vs ∧ RpL X.K L H2 ρ2 S'.n l vs from p1)
      obtain ⟨y, ws, rfl, s2, qq2⟩ := (show ∃ a vs, v2 = .ref a ∧ SqT X.K H2 a vs ∧ RpL X.K L H2 ρ2 S'.n m vs from p2)
      refine ⟨x, y, us, ws, rfl, .inr ⟨s, s2, k ρ2 H2 _ (n.trans n2) fun ρ3 S3 H3 n3 i => ?_⟩⟩
      have q1 := n3.rpl qq
      have q2 := n3.rpl qq2
      have t1 := n3.t.sqT s
      have t2 := n3.t.sqT s2
      refine ⟨fun d hd => ?_, fun hi => ?_⟩
      · obtain ⟨da, db, g1, g2, rfl⟩ := zipD_get hd
        obtain ⟨va, w1, z1⟩ := q1.get g1
        obtain ⟨vb, w2, z2⟩ := q2.get g2
        refine ⟨⟨us, ws, va, vb, t1, t2, w1, w2⟩, fun xx H4 yy => ?_⟩
        obtain ⟨pa, va', vb', rfl, hp, rfl, y1, y2⟩ := yy
        have g3 := y1 us t1
        have g4 := y2 ws t2
        rw [w1] at g3
        rw [w2] at g4
        cases g3
        cases g4
        have n4 := n3.r.new (o := .tup [va, vb]) hp
        exact ⟨n4, pa, [va, vb], rfl, SqT.of upd_same, RpL.cons (n4.rp z1) (RpL.cons (n4.rp z2) RpL.nil)⟩
      · rcases zipD_len hi with z | z
        · exact ⟨us, ws, t1, t2, .inl (by rw [← q1.length]; exact z)⟩
        · exact ⟨us, ws, t1, t2, .inr (by rw [← q2.length]; exact z)⟩
    | _ => cases h3
  | _ => cases h3
end
end PD

/-! PD7: comprehensions. -/
namespace PD
open PySem PySem.Spec PyProof.Rows L2
section
variable {X : Cx} {L : Pl} {G : Gd} {cf : Nat → List D → Store → Res D}
theorem Feed.at {K : PySem.W.Frag} {q : Sq} {J : It} {H H' : Hp} {ρ ρ' : Nat → Addr} {S S' : Store} (F : Feed K L q J H ρ S) (n : Nx K L S H ρ S' H' ρ') : Feed K L q J H' ρ' S' := by
  cases q with
  | fix l => exact fun ρ2 S2 H2 n2 => F ρ2 S2 H2 (n.trans n2)
  | live i k => exact fun ρ2 S2 H2 n2 => F ρ2 S2 H2 (n.trans n2)
theorem walkFix_cons {turn : D → Store → Res Unit} {x : D} {r : List D} {S Sz : Store} (h : walkFix turn (x :: r) S = .ok () Sz) : ∃ S1, turn x S = .ok () S1 ∧ walkFix turn r S1 = .ok () Sz := by
  obtain ⟨u, S1, e1, e2⟩ := Res.bind_ok (show (turn x S).bind (fun _ S1 => walkFix turn r S1) = .ok () Sz from h)
  cases u
  exact ⟨S1, e1, e2⟩
theorem drop_cons {l : List D} {i : Nat} (h : i < l.length) : l.drop i = l[i] :: l.drop (i + 1) := List.drop_eq_getElem_cons h
/-- a walk of turns -/
theorem walk_loop {K : PySem.W.Frag} {turn : D → Store → Res Unit} {q : Sq} {J : It} {H1 : Hp} {ρ1 : Nat → Addr} {S1 Sz : Store} {Qd : Hp → Prop} {step : Hp → V → (Hp → Prop) → Prop} (F : Feed K L q J H1 ρ1 S1) (r : Rel K L H1 ρ1 S1) (h : walkSq turn q S1 = .ok () Sz)
    (hend : ∀ ρ' H', Nx K L S1 H1 ρ1 Sz H' ρ' → Qd H')
    (hstep : ∀ ρ' S' H' d x S'' (N : Hp → Prop), Nx K L S1 H1 ρ1 S' H' ρ' → Rp K L H' ρ' S'.n d x → turn d S' = .ok () S'' → (∀ ρ2 H2, Nx K L S' H' ρ' S'' H2 ρ2 → N H2) → step H' x N) :
    ∃ W : Nat → Nat → Hp → Prop, (∃ m, W 0 m H1) ∧ ∀ i m H, W i m H → (J.stop i H ∧ Qd H) ∨ (J.go i H ∧ ∃ N : Hp → Prop, (∀ H', N H' → ∃ m', m' < m ∧ W (i + 1) m' H') ∧ ∀ x H', J.yld i H x H' → step H' x N) := by
  cases q with
  | fix l =>
    refine ⟨fun i m H => m = l.length - i ∧ ∃ ρ' S', Nx K L S1 H1 ρ1 S' H ρ' ∧ walkFix turn (l.drop i) S' = .ok () Sz, ⟨l.length, by simp, ρ1, S1, Nx.refl r, h⟩, ?_⟩
    rintro i m H ⟨rfl, ρ', S', n, e⟩
    obtain ⟨f1, f2⟩ := F ρ' S' H n i
    by_cases hi : i < l.length
    · rw [drop_cons hi] at e
      obtain ⟨S2, e1, e2⟩ := walkFix_cons e
      obtain ⟨g1, g2⟩ := f1 l[i] (List.getElem?_eq_getElem hi)
      refine .inr ⟨g1, fun H' => ∃ ρ2, Nx K L S1 H1 ρ1 S2 H' ρ2, fun H' ⟨ρ2, n2⟩ => ⟨l.length - (i + 1), by omega, rfl, ρ2, S2, n2, e2⟩, fun x H' y => ?_⟩
      obtain ⟨n3, p3⟩ := g2 x H' y
      exact hstep ρ' S' H' l[i] x S2 _ (n.trans n3) p3 e1 fun ρ2 H2 n4 => ⟨ρ2, (n.trans n3).trans n4⟩
    · rw [List.drop_eq_nil_of_le (by omega)] at e
      cases e
      exact .inl ⟨f2 (by omega), hend ρ' H n⟩
  | live i0 k0 =>
    refine ⟨fun i m H => ∃ ρ' S', Nx K L S1 H1 ρ1 S' H ρ' ∧ walkLive turn i0 m i S' = .ok () Sz, ⟨k0, ρ1, S1, Nx.refl r, h⟩, ?_⟩
    rintro i m H ⟨ρ', S', n, e⟩
    cases m with
    | zero =>
      have e' : (match S'.get i0 with
        | some (.lst _ l) => if l.length ≤ i then Res.ok () S' else .stuck
        | _ => .stuck) = .ok () Sz := e
      split at e'
      · rename_i w l el
        split at e'
        · rename_i hl
          cases e'
          exact .inl ⟨(F ρ' Sz H n w l i el).2 hl, hend ρ' H n⟩
        · cases e'
      · cases e'
    | succ m =>
      have e' : (match S'.get i0 with
        | some (.lst _ l) => (match l[i]? with
          | none => Res.ok () S'
          | some x => (turn x S').bind fun _ S1 => walkLive turn i0 m (i + 1) S1)
        | _ => .stuck) = .ok () Sz := e
      split at e'
      · rename_i w l el
        obtain ⟨f1, f2⟩ := F ρ' S' H n w l i el
        split at e'
        · rename_i hx
          cases e'
          exact .inl ⟨f2 (List.getElem?_eq_none_iff.mp hx), hend ρ' H n⟩
        · rename_i x hx
          obtain ⟨u, S2, e1, e2⟩ := Res.bind_ok e'
          cases u
          obtain ⟨g1, g2⟩ := f1 x hx
          refine .inr ⟨g1, fun H' => ∃ ρ2, Nx K L S1 H1 ρ1 S2 H' ρ2, fun H' ⟨ρ2, n2⟩ => ⟨m, Nat.lt_succ_self _, ρ2, S2, n2, e2⟩, fun y H' z => ?_⟩
          obtain ⟨n3, p3⟩ := g2 y H' z
          exact hstep ρ' S' H' x y S2 _ (n.trans n3) p3 e1 fun ρ2 H2 n4 => ⟨ρ2, (n.trans n3).trans n4⟩
      · cases e'

/-! ### tests of a clause -/
def wTs (X : Cx) (ifs : List Expr) : TT := fun σ H Q => ∀ (pins : List (Addr × Obj)) (s : Shared), Inv X pins σ H s →
  wpAny (model X.prog X.w) X.A (forIn ifs true fun c r => if r = true then do let ok ← isTrue c X.env (eval c X.env); pure (ForInStep.yield ok) else pure (ForInStep.yield r)) (TP X pins σ Q) X.xe s
structure SimTs (X : Cx) (L : Pl) (G : Gd) (cf : Nat → List D → Store → Res D) (ifs : List Expr) (cs : Cs) : Prop where
  run : ∀ (ρ : Nat → Addr) (σd : Sl) (σ : L2.St) (S : Store) (H : Hp) (b : Bool) (S' : Store) (Q : Bool → Hp → Prop), Rel X.K L H ρ S → RS X.K L H ρ S.n σd σ → evIfs G cf cs σd S = .ok b S' →
    (∀ ρ' H', Nx X.K L S H ρ S' H' ρ' → Q b H') → wTs X ifs σ H Q
theorem sts_nil : SimTs X L G cf [] .nil := ⟨fun ρ σd σ S H b S' Q r rs h k => by cases h; exact fun pins s I => pts_nil.run pins s σ H Q I (k ρ H (Nx.refl r))⟩
theorem sts_one {e : Expr} {c : C} (ht : SimT X L G cf e c) : SimTs X L G cf [e] (.cons c .nil) := by
  refine ⟨fun ρ σd σ S H b S' Q r rs h k => fun pins s I => ?_⟩
  obtain ⟨d, T1, e1, h2⟩ := Res.bind_ok (show (evC G cf c σd S).bind (fun d S1 => (Res.of (truth S1 d) S1).bind fun k S2 => if k then evIfs G cf .nil σd S2 else .ok false S2) = .ok b S' from h)
  obtain ⟨kb, T2, e2, h3⟩ := Res.bind_ok h2
  obtain ⟨e3, rfl⟩ := Res.of_ok e2
  have e4 : kb = b ∧ S' = T2 := by cases kb <;> (cases h3; exact ⟨rfl, rfl⟩)
  obtain ⟨rfl, rfl⟩ := e4
  exact (pts_one (pT e)).run pins s σ H Q I (ht.run ρ σd σ S H d kb S' Q r rs e1 e3 k)

/-! ### the block's contexts -/
abbrev Bk (X : Cx) (sc : Scope) (s : Shared) (H : Hp) (C : Addr) (cl : List (Str × Addr)) (fp : List Addr) : Cx := X.blk s H sc (compEnvC sc cl C X.env) fp
def bE (X : Cx) (sc : Scope) (e : Expr) : TE := fun σ H Q => ∀ s H0 C cl fp, wE (Bk X sc s H0 C cl fp) e σ H Q
def bG (X : Cx) (sc : Scope) (e : Expr) : TG := fun v σ H Q => ∀ s H0 C cl fp, wG (Bk X sc s H0 C cl fp) e v σ H Q
def bTs (X : Cx) (sc : Scope) (es : List Expr) : TT := fun σ H Q => ∀ s H0 C cl fp, wTs (Bk X sc s H0 C cl fp) es σ H Q
def bI (X : Cx) (sc : Scope) (tg e : Expr) : TI := fun σ H R => ∀ s H0 C cl fp, wI (Bk X sc s H0 C cl fp) tg e σ H R
theorem put_run {K : PySem.W.Frag} {D0 : Nat} {y : D} {S S' : Store} {H : Hp} {ρ : Nat → Addr} {v : V} {N : Hp → Prop} (r : Rel K L H ρ S) (p : Rp K L H ρ S.n y v) (h : compPut D0 y S = .ok () S') (k : ∀ H', Nx K L S H ρ S' H' ρ → N H') :
    ∃ acc, H (ρ D0) = some (.lst acc) ∧ acc.length < sizeLine ∧ N (upd H (ρ D0) (.lst (acc ++ [v]))) := by
  have h1 : (match S.get D0 with
    | some (.bld n acc) => if Nat.blt n sizeLine = true then Res.ok () (S.set D0 (.bld (n + 1) (y :: acc))) else .stuck
    | _ => .stuck) = .ok () S' := h
  split at h1
  · rename_i n acc e
    split at h1
    · rename_i hl
      cases h1
      obtain ⟨us, s, q, hn⟩ := r.cell D0 _ e
      have hl2 : n < sizeLine := Nat.le_of_ble_eq_true hl
      refine ⟨us, s, by rw [← q.length, List.length_reverse, ← hn]; exact hl2, k _ ?_⟩
      refine r.write (o := .lst (us ++ [v])) (c := .bld (n + 1) (y :: acc)) e True.intro True.intro ⟨us ++ [v], upd_same, ?_, by rw [hn]; rfl⟩
      have t : TM H (upd H (ρ D0) (.lst (us ++ [v]))) := TM.wr s fun z => z
      rw [List.reverse_cons]
      exact (q.append (RpL.cons p RpL.nil)).mono t (Agree.refl _ _) (Nat.le_refl _)
    · cases h1
  · cases h1
theorem upd_self {H : Hp} {a : Addr} {o : HO} (h : H a = some o) : upd H a o = H := by
  funext b
  by_cases e : b = a
  · subst e
    rw [upd_same, h]
  · rw [upd_ne e]
theorem end_run {K : PySem.W.Frag} {D0 : Nat} {S S' : Store} {H : Hp} {ρ : Nat → Addr} {d : D} (r : Rel K L H ρ S) (h : compEnd D0 S = .ok d S') : d = .ref D0 ∧ D0 < S.n ∧ Nx K L S H ρ S' H ρ := by
  have h1 : (match S.get D0 with
    | some (.bld _ acc) => Res.ok (D.ref D0) (S.set D0 (.lst true acc.reverse))
    | _ => .stuck) = .ok d S' := h
  split at h1
  · rename_i n acc e
    cases h1
    obtain ⟨us, s, q, hn⟩ := r.cell D0 _ e
    have z := r.write (o := .lst us) (c := .lst true acc.reverse) e True.intro True.intro ⟨us, upd_same, q.mono (TM.wr s fun z => z) (Agree.refl _ _) (Nat.le_refl _)⟩
    rw [upd_self s] at z
    exact ⟨rfl, Store.lt e, z⟩
  · cases h1
section
variable {elt tg iter tg1 iter1 : Expr} {ifs : List Expr} {sc : Scope} {own : List (Str × Nat)} {pos : Pos} {it it1 : Iter} {ti ti1 : List Nat} {one one1 : Bool} {ci : Cs} {ce : C} {vs1 : List Nat}
theorem lc_run (hi : SimI X L G cf tg iter it) (hg : ∀ s H C cl fp, SimG (Bk X sc s H C cl fp) L tg one ti) (ht : ∀ s H C cl fp, SimTs (Bk X sc s H C cl fp) L G cf ifs ci) (he : ∀ s H C cl fp, Sim (Bk X sc s H C cl fp) L G cf elt ce) (hw : ∀ i ∈ ti, i ∈ own.map (·.2))
    {ρ : Nat → Addr} {σd : Sl} {σ : L2.St} {S : Store} {H : Hp} {d : D} {S' : Store} {Q : VK} (r : Rel X.K L H ρ S) (rs : RS X.K L H ρ S.n σd σ) (h : evC G cf (.comp it ti one (own.map (·.2)) ci ce) σd S = .ok d S')
    (k : ∀ ρ' H' v, Nx X.K L S H ρ S' H' ρ' → Rp X.K L H' ρ' S'.n d v → Q v H') : tLc (wI X tg iter) (bG X sc tg) (bTs X sc ifs) (bE X sc elt) (own.map (·.2)) σ H Q := by
  obtain ⟨q, S1, e1, h2⟩ := Res.bind_ok (show (evIt G cf it σd S).bind (fun q S1 =>
    (walkSq (fun x S2 => (Res.of (bindT one ti (wipeD σd (own.map (·.2))) x) S2).bind fun σ2 S3 => (evIfs G cf ci σ2 S3).bind fun k S4 => if k then (evC G cf ce σ2 S4).bind fun y S5 => compPut S1.n y S5 else .ok () S4) q (S1.push (.bld 0 []))).bind fun _ S2 => compEnd S1.n S2) = .ok d S' from h)
  obtain ⟨u, Sz, e2, h3⟩ := Res.bind_ok h2
  cases u
  refine hi.run ρ σd σ S H q S1 _ r rs e1 fun ρ1 H1 J n1 F => fun DD hD => ?_
  have n2 := n1.r.push (o := .lst []) (c := .bld 0 []) hD ⟨[], upd_same, RpL.nil, rfl⟩
  have hD0 : more ρ1 S1.n DD S1.n = DD := more_new
  have n02 := n1.trans n2
  refine walk_loop (F.at n2) n2.r e2 (fun ρ' H' n => ?_) fun ρ' S2 H' x v S3 N n p ht' kN => ?_
  · obtain ⟨rfl, hlt, ne⟩ := end_run n.r h3
    refine k ρ' H' _ ((n02.trans n).trans ne) ?_
    refine (n.trans ne).rp (d := .ref S1.n) (v := .ref DD) ⟨Nat.lt_succ_self _, ?_⟩
    rw [hD0]
  · have hDD : ρ' S1.n = DD := by rw [n.a S1.n (Nat.lt_succ_self _), hD0]
    obtain ⟨σ2, S4, e3, h4⟩ := Res.bind_ok ht'
    obtain ⟨e4, rfl⟩ := Res.of_ok e3
    have rs2 : RS X.K L H' ρ' S4.n (wipeD σd (own.map (·.2))) (L2.wipe σ (own.map (·.2))) := ((n02.trans n).rs rs).wipe _
    intro s H0 C cl fp
    refine (hg s H0 C cl fp).run ρ' _ _ S4 H' x v σ2 _ n.r rs2 p e4 fun σ' rs3 hwp => ⟨?_, ?_⟩
    · rw [hwp _ hw, wipe_wipe]
    · obtain ⟨kb, S5, e5, h5⟩ := Res.bind_ok h4
      intro s1 H01 C1 cl1 fp1
      refine (ht s1 H01 C1 cl1 fp1).run ρ' σ2 σ' S4 H' kb S5 _ n.r rs3 e5 fun ρ3 H3 n3 => ?_
      cases kb with
      | false =>
        rw [if_neg Bool.false_ne_true] at h5 ⊢
        cases h5
        exact kN ρ3 H3 n3
      | true =>
        rw [if_pos rfl] at h5 ⊢
        obtain ⟨y, S6, e6, h6⟩ := Res.bind_ok h5
        intro s2 H02 C2 cl2 fp2
        refine (he s2 H02 C2 cl2 fp2).run ρ3 σ2 σ' S5 H3 y S6 _ n3.r (n3.rs rs3) e6 fun ρ4 H4 v4 n4 p4 => ?_
        have hD4 : ρ4 S1.n = DD := by rw [(n3.trans n4).a S1.n (Nat.lt_of_lt_of_le (Nat.lt_succ_self _) n.n), hDD]
        have q4 := put_run n4.r p4 h6 fun H5 n5 => kN ρ4 H5 ((n3.trans n4).trans n5)
        rw [hD4] at q4
        exact q4
theorem si_lc (E : EnvOk X L G cf) (hi : SimI X L G cf tg iter it) (hg : ∀ s H C cl fp, SimG (Bk X sc s H C cl fp) L tg one ti) (ht : ∀ s H C cl fp, SimTs (Bk X sc s H C cl fp) L G cf ifs ci) (he : ∀ s H C cl fp, Sim (Bk X sc s H C cl fp) L G cf elt ce)
    (ok : BlkOk X.N X.env.scope sc own) (hw : ∀ i ∈ ti, i ∈ own.map (·.2)) (hs : ∀ x, foldedSetIterable iter X.env x = pure x := by intro _; rfl) : Sim X L G cf (.ListComp elt [⟨tg, iter, ifs, 0⟩] sc pos) (.comp it ti one (own.map (·.2)) ci ce) :=
  ⟨fun ρ σd σ S H d S' Q r rs h k => ofE (pe_lc E.calm E.nd (pI tg iter) ok (fun s H C cl fp => ⟨fun pins s' σ H' v u Q I rv hh => hh s H C cl fp pins s' u I rv⟩) (fun s H C cl fp => ⟨fun pins s' σ H' Q I hh => hh s H C cl fp pins s' I⟩) (fun s H C cl fp => ⟨fun pins s' σ H' Q I hh => hh s H C cl fp pins s' I⟩) hs)
    (lc_run hi hg ht he hw r rs h k)⟩
/-- two clauses -/
theorem lc2_run (hi : SimI X L G cf tg iter it) (hg : ∀ s H C cl fp, SimG (Bk X sc s H C cl fp) L tg one ti) (hi1 : ∀ s H C cl fp, SimI (Bk X sc s H C cl fp) L G cf tg1 iter1 it1) (hg1 : ∀ s H C cl fp, SimG (Bk X sc s H C cl fp) L tg1 one1 ti1) (he : ∀ s H C cl fp, Sim (Bk X sc s H C cl fp) L G cf elt ce)
    (hw : ∀ i ∈ ti, i ∈ own.map (·.2)) (hw1 : ∀ i ∈ ti1, i ∈ vs1)
    {ρ : Nat → Addr} {σd : Sl} {σ : L2.St} {S : Store} {H : Hp} {d : D} {S' : Store} {Q : VK} (r : Rel X.K L H ρ S) (rs : RS X.K L H ρ S.n σd σ) (h : evC G cf (.comp2 it ti one it1 ti1 one1 (own.map (·.2)) vs1 ce) σd S = .ok d S')
    (k : ∀ ρ' H' v, Nx X.K L S H ρ S' H' ρ' → Rp X.K L H' ρ' S'.n d v → Q v H') : tLc2 (wI X tg iter) (bG X sc tg) (bTs X sc []) (bI X sc tg1 iter1) (bG X sc tg1) (bTs X sc []) (bE X sc elt) (own.map (·.2)) vs1 σ H Q := by
  obtain ⟨q, S1, e1, h2⟩ := Res.bind_ok (show (evIt G cf it σd S).bind (fun q S1 =>
    (walkSq (fun x S2 => (Res.of (bindT one ti (wipeD σd (own.map (·.2))) x) S2).bind fun σ2 S3 => (evIt G cf it1 σ2 S3).bind fun q2 S4 =>
      walkSq (fun y S5 => (Res.of (bindT one1 ti1 (wipeD σ2 vs1) y) S5).bind fun σ3 S6 => (evC G cf ce σ3 S6).bind fun z S7 => compPut S1.n z S7) q2 S4) q (S1.push (.bld 0 []))).bind fun _ S2 => compEnd S1.n S2) = .ok d S' from h)
  obtain ⟨u, Sz, e2, h3⟩ := Res.bind_ok h2
  cases u
  refine hi.run ρ σd σ S H q S1 _ r rs e1 fun ρ1 H1 J n1 F => fun DD hD => ?_
  have n2 := n1.r.push (o := .lst []) (c := .bld 0 []) hD ⟨[], upd_same, RpL.nil, rfl⟩
  have hD0 : more ρ1 S1.n DD S1.n = DD := more_new
  have n02 := n1.trans n2
  refine walk_loop (F.at n2) n2.r e2 (fun ρ' H' n => ?_) fun ρ' S2 H' x v S3 N n p ht' kN => ?_
  · obtain ⟨rfl, hlt, ne⟩ := end_run n.r h3
    refine k ρ' H' _ ((n02.trans n).trans ne) ?_
    refine (n.trans ne).rp (d := .ref S1.n) (v := .ref DD) ⟨Nat.lt_succ_self _, ?_⟩
    rw [hD0]
  · have hDD : ρ' S1.n = DD := by rw [n.a S1.n (Nat.lt_succ_self _), hD0]
    obtain ⟨σ2, S4, e3, h4⟩ := Res.bind_ok ht'
    obtain ⟨e4, rfl⟩ := Res.of_ok e3
    have rs2 : RS X.K L H' ρ' S4.n (wipeD σd (own.map (·.2))) (L2.wipe σ (own.map (·.2))) := ((n02.trans n).rs rs).wipe _
    intro s H0 C cl fp
    refine (hg s H0 C cl fp).run ρ' _ _ S4 H' x v σ2 _ n.r rs2 p e4 fun σ' rs3 hwp => ⟨?_, ?_⟩
    · rw [hwp _ hw, wipe_wipe]
    · intro s1 H01 C1 cl1 fp1
      refine (sts_nil (X := Bk X sc s1 H01 C1 cl1 fp1) (L := L) (G := G) (cf := cf)).run ρ' σ2 σ' S4 H' true S4 _ n.r rs3 rfl fun ρ3 H3 n3 => ?_
      rw [if_pos rfl]
      obtain ⟨q2, S5, e5, h5⟩ := Res.bind_ok h4
      intro s2 H02 C2 cl2 fp2
      refine (hi1 s2 H02 C2 cl2 fp2).run ρ3 σ2 σ' S4 H3 q2 S5 _ n3.r (n3.rs rs3) e5 fun ρ4 H4 J1 n4 F1 => ?_
      refine walk_loop F1 n4.r h5 (fun ρ5 H5 n5 => kN ρ5 H5 ((n3.trans n4).trans n5)) fun ρ5 S6 H6 y w S7 N1 n5 p5 ht5 kN1 => ?_
      obtain ⟨σ3, S8, e6, h6⟩ := Res.bind_ok ht5
      obtain ⟨e7, rfl⟩ := Res.of_ok e6
      have rs5 : RS X.K L H6 ρ5 S8.n (wipeD σ2 vs1) (L2.wipe σ' vs1) := (((n3.trans n4).trans n5).rs rs3).wipe _
      intro s3 H03 C3 cl3 fp3
      refine (hg1 s3 H03 C3 cl3 fp3).run ρ5 _ _ S8 H6 y w σ3 _ n5.r rs5 p5 e7 fun σ'' rs6 hwp1 => ⟨?_, ?_⟩
      · rw [hwp1 _ hw1, wipe_wipe]
      · intro s4 H04 C4 cl4 fp4
        refine (sts_nil (X := Bk X sc s4 H04 C4 cl4 fp4) (L := L) (G := G) (cf := cf)).run ρ5 σ3 σ'' S8 H6 true S8 _ n5.r rs6 rfl fun ρ6 H7 n6 => ?_
        rw [if_pos rfl]
        obtain ⟨z, S9, e8, h7⟩ := Res.bind_ok h6
        intro s5 H05 C5 cl5 fp5
        refine (he s5 H05 C5 cl5 fp5).run ρ6 σ3 σ'' S8 H7 z S9 _ n6.r (n6.rs rs6) e8 fun ρ7 H8 v7 n7 p7 => ?_
        have nn := ((n3.trans n4).trans n5).trans (n6.trans n7)
        have hD7 : ρ7 S1.n = DD := by rw [nn.a S1.n (Nat.lt_of_lt_of_le (Nat.lt_succ_self _) n.n), hDD]
        have q7 := put_run n7.r p7 h7 fun H9 n9 => kN1 ρ7 H9 ((n6.trans n7).trans n9)
        rw [hD7] at q7
        exact q7
theorem si_lc2 (E : EnvOk X L G cf) (hi : SimI X L G cf tg iter it) (hg : ∀ s H C cl fp, SimG (Bk X sc s H C cl fp) L tg one ti) (hi1 : ∀ s H C cl fp, SimI (Bk X sc s H C cl fp) L G cf tg1 iter1 it1) (hg1 : ∀ s H C cl fp, SimG (Bk X sc s H C cl fp) L tg1 one1 ti1) (he : ∀ s H C cl fp, Sim (Bk X sc s H C cl fp) L G cf elt ce)
    (ok : BlkOk X.N X.env.scope sc own) (hv : ∀ i ∈ vs1, i ∈ own.map (·.2)) (hw : ∀ i ∈ ti, i ∈ own.map (·.2)) (hw1 : ∀ i ∈ ti1, i ∈ vs1) (hs : ∀ x, foldedSetIterable iter X.env x = pure x := by intro _; rfl) (hs1 : ∀ env x, foldedSetIterable iter1 env x = pure x := by intro _ _; rfl) :
    Sim X L G cf (.ListComp elt [⟨tg, iter, [], 0⟩, ⟨tg1, iter1, [], 0⟩] sc pos) (.comp2 it ti one it1 ti1 one1 (own.map (·.2)) vs1 ce) :=
  ⟨fun ρ σd σ S H d S' Q r rs h k => ofE (pe_lc2 E.calm E.nd (pI tg iter) ok hv (fun s H C cl fp => ⟨fun pins s' σ H' v u Q I rv hh => hh s H C cl fp pins s' u I rv⟩) (fun s H C cl fp => ⟨fun pins s' σ H' Q I hh => hh s H C cl fp pins s' I⟩)
    (fun s H C cl fp => ⟨fun pins s' σ H' R I hh => hh s H C cl fp pins s' I⟩) (fun s H C cl fp => ⟨fun pins s' σ H' v u Q I rv hh => hh s H C cl fp pins s' u I rv⟩) (fun s H C cl fp => ⟨fun pins s' σ H' Q I hh => hh s H C cl fp pins s' I⟩) (fun s H C cl fp => ⟨fun pins s' σ H' Q I hh => hh s H C cl fp pins s' I⟩) hs hs1)
    (lc2_run hi hg hi1 hg1 he hw hw1 r rs h k)⟩
end
end
end PD

/-! PD8: statements. -/
namespace PD
open PySem PySem.Spec PyProof.Rows L2
/-- what is wanted behind a statement whose evaluation ends so -/
def FlK (K : PySem.W.Frag) (L : Pl) (S : Store) (H : Hp) (ρ : Nat → Addr) (f : Fl) (S' : Store) (D : Ends) : Prop := match f with
  | .nx σ1 => ∀ ρ' H' σ', Nx K L S H ρ S' H' ρ' → RS K L H' ρ' S'.n σ1 σ' → D.nx σ' H'
  | .rt d => ∀ ρ' H' v, Nx K L S H ρ S' H' ρ' → Rp K L H' ρ' S'.n d v → D.rt v H'
  | .bk σ1 => ∀ ρ' H' σ', Nx K L S H ρ S' H' ρ' → RS K L H' ρ' S'.n σ1 σ' → D.bk σ' H'
  | .ct σ1 => ∀ ρ' H' σ', Nx K L S H ρ S' H' ρ' → RS K L H' ρ' S'.n σ1 σ' → D.ct σ' H'
theorem FlK.at {K : PySem.W.Frag} {L : Pl} {S S1 : Store} {H H1 : Hp} {ρ ρ1 : Nat → Addr} {f : Fl} {S' : Store} {D : Ends} (k : FlK K L S H ρ f S' D) (n : Nx K L S H ρ S1 H1 ρ1) : FlK K L S1 H1 ρ1 f S' D := by
  cases f with
  | nx σ1 => exact fun ρ' H' σ' n' => k ρ' H' σ' (n.trans n')
  | rt d => exact fun ρ' H' v n' => k ρ' H' v (n.trans n')
  | bk σ1 => exact fun ρ' H' σ' n' => k ρ' H' σ' (n.trans n')
  | ct σ1 => exact fun ρ' H' σ' n' => k ρ' H' σ' (n.trans n')
section
variable (X : Cx) (L : Pl) (G : Gd) (cf : Nat → List D → Store → Res D)
structure SimS (st : Stmt) (c : Stm) : Prop where
  run : ∀ (ρ : Nat → Addr) (σd : Sl) (σ : L2.St) (S : Store) (H : Hp) (f : Fl) (S' : Store) (D : Ends), Rel X.K L H ρ S → RS X.K L H ρ S.n σd σ → exS G cf c σd S = .ok f S' → FlK X.K L S H ρ f S' D → wS X st D σ H
structure SimSs (st : List Stmt) (c : Ss) : Prop where
  run : ∀ (ρ : Nat → Addr) (σd : Sl) (σ : L2.St) (S : Store) (H : Hp) (f : Fl) (S' : Store) (D : Ends), Rel X.K L H ρ S → RS X.K L H ρ S.n σd σ → exSs G cf c σd S = .ok f S' → FlK X.K L S H ρ f S' D → wSs X st D σ H
structure SimMs (cs : List MatchCase) (ms : Ms) : Prop where
  run : ∀ (ρ : Nat → Addr) (σd : Sl) (σ : L2.St) (S : Store) (H : Hp) (x : Str) (f : Fl) (S' : Store) (D : Ends), Rel X.K L H ρ S → RS X.K L H ρ S.n σd σ → exMs G cf x ms σd S = .ok f S' → FlK X.K L S H ρ f S' D →
    ∀ (pins : List (Addr × Obj)) (s : Shared) (t : Tok) (first : Bool), Inv X pins σ H s → wpAny (model X.prog X.w) X.A (matchCases cs X.env (.str x t) first) (SP X pins D) X.xe s
end
section
variable {X : Cx} {L : Pl} {G : Gd} {cf : Nat → List D → Store → Res D} {pos pos' : Pos}
theorem sss_nil : SimSs X L G cf [] .nil := ⟨fun ρ σd σ S H f S' D r rs h k => by
  cases h
  exact ofSs pss_nil (k ρ H σ (Nx.refl r) rs)⟩
theorem sss_cons {st : Stmt} {rest : List Stmt} {c : Stm} {cs : Ss} (h1 : SimS X L G cf st c) (h2 : SimSs X L G cf rest cs) : SimSs X L G cf (st :: rest) (.cons c cs) := by
  refine ⟨fun ρ σd σ S H f S' D r rs h k => ?_⟩
  obtain ⟨f1, S1, e1, h3⟩ := Res.bind_ok (show (exS G cf c σd S).bind (fun f S1 => match f with
    | .nx σ1 => exSs G cf cs σ1 S1
    | f => .ok f S1) = .ok f S' from h)
  refine ofSs (pss_cons (pS st) (pSs rest)) ?_
  cases f1 with
  | nx σ1 => exact h1.run ρ σd σ S H _ S1 _ r rs e1 fun ρ' H' σ' n rs' => h2.run ρ' σ1 σ' S1 H' f S' D n.r rs' h3 (k.at n)
  | rt d => cases h3; exact h1.run ρ σd σ S H _ _ _ r rs e1 k
  | bk σ1 => cases h3; exact h1.run ρ σd σ S H _ _ _ r rs e1 k
  | ct σ1 => cases h3; exact h1.run ρ σd σ S H _ _ _ r rs e1 k
theorem ss_set {i : Nat} {x : Str} {e : Expr} {c : C} (E : EnvOk X L G cf) (hi : X.N[i]? = some x) (hx : Loc X.env.scope x) (hf : X.fn x = true ∨ X.env.scope.names.lookup x = some .local) (ha : Sim X L G cf e c) (hs : swapsWith e (some (.Name x pos')) pos.line X.env = pure false := by rfl) : SimS X L G cf (.Assign [.Name x pos'] e pos) (.asg i c) := by
  refine ⟨fun ρ σd σ S H f S' D r rs h k => ?_⟩
  obtain ⟨d, S1, e1, h3⟩ := Res.bind_ok (show (evC G cf c σd S).bind (fun d S1 => .ok (.nx (σd.set i (some d))) S1) = .ok f S' from h)
  cases h3
  exact ofS (ps_set E.nd hi hx (pE e) hs hf) (ha.run ρ σd σ S H d S' _ r rs e1 fun ρ' H' v n p => k ρ' H' _ n ((n.rs rs).set i p))
theorem b_pg {sc : Scope} {e : Expr} : ∀ s H C cl fp, PG (Bk X sc s H C cl fp) e (bG X sc e) := fun s H C cl fp => ⟨fun pins s' σ H' v u Q I rv hh => hh s H C cl fp pins s' u I rv⟩
theorem b_pts {sc : Scope} {e : List Expr} : ∀ s H C cl fp, PTs (Bk X sc s H C cl fp) e (bTs X sc e) := fun s H C cl fp => ⟨fun pins s' σ H' Q I hh => hh s H C cl fp pins s' I⟩
theorem b_pe {sc : Scope} {e : Expr} : ∀ s H C cl fp, PE (Bk X sc s H C cl fp) e (bE X sc e) := fun s H C cl fp => ⟨fun pins s' σ H' Q I hh => hh s H C cl fp pins s' I⟩
theorem b_pi {sc : Scope} {tg e : Expr} : ∀ s H C cl fp, PI (Bk X sc s H C cl fp) tg e (bI X sc tg e) := fun s H C cl fp => ⟨fun pins s' σ H' R I hh => hh s H C cl fp pins s' I⟩
section
variable {elt tg iter tg1 iter1 : Expr} {ifs : List Expr} {sc : Scope} {own : List (Str × Nat)} {it it1 : Iter} {ti ti1 : List Nat} {one one1 : Bool} {ci : Cs} {ce : C} {vs1 : List Nat} {py cpos : Pos}
theorem ss_setLc {i : Nat} {y : Str} (E : EnvOk X L G cf) (hy : X.N[i]? = some y) (hyl : X.env.scope.names.lookup y = some .local) (hsw : swapsWith (.ListComp elt [⟨tg, iter, ifs, 0⟩] sc cpos) (some (.Name y py)) pos.line X.env = pure true)
    (hi : SimI X L G cf tg iter it) (hg : ∀ s H C cl fp, SimG (Bk X sc s H C cl fp) L tg one ti) (ht : ∀ s H C cl fp, SimTs (Bk X sc s H C cl fp) L G cf ifs ci) (he : ∀ s H C cl fp, Sim (Bk X sc s H C cl fp) L G cf elt ce)
    (ok : BlkOk X.N X.env.scope sc own) (hw : ∀ i ∈ ti, i ∈ own.map (·.2)) (hs : ∀ x, foldedSetIterable iter X.env x = pure x := by intro _; rfl) : SimS X L G cf (.Assign [.Name y py] (.ListComp elt [⟨tg, iter, ifs, 0⟩] sc cpos) pos) (.asg i (.comp it ti one (own.map (·.2)) ci ce)) := by
  refine ⟨fun ρ σd σ S H f S' D r rs h k => ?_⟩
  obtain ⟨d, S1, e1, h3⟩ := Res.bind_ok (show (evC G cf (.comp it ti one (own.map (·.2)) ci ce) σd S).bind (fun d S1 => .ok (.nx (σd.set i (some d))) S1) = .ok f S' from h)
  cases h3
  refine ofS (ps_setLc E.calm E.nd hy hyl hsw (pI tg iter) ok b_pg b_pts b_pe hs) ?_
  exact lc_run hi hg ht he hw r rs e1 fun ρ' H' v n p => k ρ' H' _ n ((n.rs rs).set i p)
theorem ss_setLc2 {i : Nat} {y : Str} (E : EnvOk X L G cf) (hy : X.N[i]? = some y) (hyl : X.env.scope.names.lookup y = some .local) (hsw : swapsWith (.ListComp elt [⟨tg, iter, [], 0⟩, ⟨tg1, iter1, [], 0⟩] sc cpos) (some (.Name y py)) pos.line X.env = pure true)
    (hi : SimI X L G cf tg iter it) (hg : ∀ s H C cl fp, SimG (Bk X sc s H C cl fp) L tg one ti) (hi1 : ∀ s H C cl fp, SimI (Bk X sc s H C cl fp) L G cf tg1 iter1 it1) (hg1 : ∀ s H C cl fp, SimG (Bk X sc s H C cl fp) L tg1 one1 ti1) (he : ∀ s H C cl fp, Sim (Bk X sc s H C cl fp) L G cf elt ce)
    (ok : BlkOk X.N X.env.scope sc own) (hv : ∀ i ∈ vs1, i ∈ own.map (·.2)) (hw : ∀ i ∈ ti, i ∈ own.map (·.2)) (hw1 : ∀ i ∈ ti1, i ∈ vs1) (hs : ∀ x, foldedSetIterable iter X.env x = pure x := by intro _; rfl) (hs1 : ∀ env x, foldedSetIterable iter1 env x = pure x := by intro _ _; rfl) :
    SimS X L G cf (.Assign [.Name y py] (.ListComp elt [⟨tg, iter, [], 0⟩, ⟨tg1, iter1, [], 0⟩] sc cpos) pos) (.asg i (.comp2 it ti one it1 ti1 one1 (own.map (·.2)) vs1 ce)) := by
  refine ⟨fun ρ σd σ S H f S' D r rs h k => ?_⟩
  obtain ⟨d, S1, e1, h3⟩ := Res.bind_ok (show (evC G cf (.comp2 it ti one it1 ti1 one1 (own.map (·.2)) vs1 ce) σd S).bind (fun d S1 => .ok (.nx (σd.set i (some d))) S1) = .ok f S' from h)
  cases h3
  refine ofS (ps_setLc2 E.calm E.nd hy hyl hsw (pI tg iter) ok hv b_pg b_pts b_pi b_pg b_pts b_pe hs hs1) ?_
  exact lc2_run hi hg hi1 hg1 he hw hw1 r rs e1 fun ρ' H' v n p => k ρ' H' _ n ((n.rs rs).set i p)
end
theorem ss_asgT {tgs : List Expr} {kk : Nat} {tpos : Pos} {is : List Nat} {e : Expr} {c : C} (ha : Sim X L G cf e c) (hg : SimG X L (.Tuple tgs kk tpos) false is) (hs : swapsWithSole [.Tuple tgs kk tpos] e pos.line X.env = pure false := by rfl) (hw : swappedStores [.Tuple tgs kk tpos] e X.env = pure none := by rfl)
    (h1 : (assignEach [.Tuple tgs kk tpos] X.env).map (·.2) = [assign (.Tuple tgs kk tpos) X.env] := by rfl) : SimS X L G cf (.Assign [.Tuple tgs kk tpos] e pos) (.asgT is c) := by
  refine ⟨fun ρ σd σ S H f S' D r rs h k => ?_⟩
  obtain ⟨d, S1, e1, h3⟩ := Res.bind_ok (show (evC G cf c σd S).bind (fun d S1 => match d with
    | .tup l => (Res.of (setAll σd is l) S1).bind fun σ1 S2 => .ok (.nx σ1) S2
    | _ => .stuck) = .ok f S' from h)
  split at h3
  · rename_i l
    obtain ⟨σ1, S2, e2, h4⟩ := Res.bind_ok h3
    obtain ⟨e3, rfl⟩ := Res.of_ok e2
    cases h4
    refine ofS (ps_asg (pE e) (pG _) hs hw h1) (ha.run ρ σd σ S H _ S' _ r rs e1 fun ρ' H' v n p => ?_)
    exact hg.run ρ' σd σ S' H' (.tup l) v σ1 _ n.r (n.rs rs) p e3 fun σ' rs' _ => k ρ' H' σ' n rs'
  · cases h3
theorem ss_setI {o i e : Expr} {co ci cv : C} {tpos : Pos} (hv : Sim X L G cf e cv) (ho : Sim X L G cf o co) (hi : Sim X L G cf i ci)
    (ha : ∀ v, assign (.Subscript o i tpos) X.env v = (do
      let ov ← holding [v] (eval o X.env)
      let iv ← holding [v, ov] (eval i X.env)
      standAt tpos
      holding [v, ov, iv] (setItem ov iv v)
      release [v, ov, iv] []) := by intro _; rfl)
    (hs : swapsWithSole [.Subscript o i tpos] e pos.line X.env = pure false := by rfl) (hw : swappedStores [.Subscript o i tpos] e X.env = pure none := by rfl)
    (h1 : (assignEach [.Subscript o i tpos] X.env).map (·.2) = [assign (.Subscript o i tpos) X.env] := by rfl) : SimS X L G cf (.Assign [.Subscript o i tpos] e pos) (.setI co ci cv) := by
  refine ⟨fun ρ σd σ S H f S' D r rs h k => ?_⟩
  obtain ⟨x, S1, e1, h3⟩ := Res.bind_ok (show (evC G cf cv σd S).bind (fun x S1 => (evC G cf co σd S1).bind fun a S2 => (evC G cf ci σd S2).bind fun y S3 => match a, y with
    | .ref p, .int k => (match S3.get p with
      | some (.lst true l) => (match ixN l.length k with
        | some j => Res.ok (.nx σd) (S3.set p (.lst true (l.set j x)))
        | none => .stuck)
      | _ => .stuck)
    | _, _ => .stuck) = .ok f S' from h)
  obtain ⟨a, S2, e2, h4⟩ := Res.bind_ok h3
  obtain ⟨y, S3, e3, h5⟩ := Res.bind_ok h4
  refine ofS (ps_asg (pE e) (pg_sub (pE o) (pE i) set_list ha) hs hw h1) (hv.run ρ σd σ S H x S1 _ r rs e1 fun ρ1 H1 v n1 p1 => ?_)
  refine ho.run ρ1 σd σ S1 H1 a S2 _ n1.r (n1.rs rs) e2 fun ρ2 H2 v2 n2 p2 => ?_
  refine hi.run ρ2 σd σ S2 H2 y S3 _ n2.r (n2.rs (n1.rs rs)) e3 fun ρ3 H3 v3 n3 p3 => ?_
  split at h5
  · rename_i pp kk
    split at h5
    · rename_i l el
      split at h5
      · rename_i j ej
        cases h5
        obtain ⟨_, rfl⟩ := (show pp < S3.n ∧ v2 = .ref (ρ3 pp) from n3.rp p2)
        cases (show v3 = .int kk from p3)
        obtain ⟨us, s, q⟩ := n3.r.cell pp _ el
        have p4 := n3.rp (n2.rp p1)
        refine ⟨_, us, kk, j, rfl, rfl, s, by rw [← q.length]; exact ej, ?_⟩
        have n4 := n3.r.write (o := .lst (us.set j v)) (c := .lst true (l.set j x)) el True.intro True.intro ⟨us.set j v, upd_same, (RpL.set j q p4).mono (TM.wr s fun z => z) (Agree.refl _ _) (Nat.le_refl _)⟩
        have nn := ((n1.trans n2).trans n3).trans n4
        exact k ρ3 _ σ nn (nn.rs rs)
      · cases h5
    · cases h5
  · cases h5
theorem ss_setF {o e : Expr} {g : Str} {co cv : C} {tpos : Pos} (E : EnvOk X L G cf) (hv : Sim X L G cf e cv) (ho : Sim X L G cf o co) (hs : swapsWith e (some (.Attribute o g tpos)) pos.line X.env = pure false := by rfl) : SimS X L G cf (.Assign [.Attribute o g tpos] e pos) (.setF co g cv) := by
  refine ⟨fun ρ σd σ S H f S' D r rs h k => ?_⟩
  obtain ⟨x, S1, e1, h3⟩ := Res.bind_ok (show (evC G cf cv σd S).bind (fun x S1 => (evC G cf co σd S1).bind fun a S2 => match a with
    | .ref p => (match S2.get p with
      | some (.ins c fs) => if (G.flds c).contains g = true ∧ fs.length < 1000 then Res.ok (.nx σd) (S2.set p (.ins c (putD g x fs))) else .stuck
      | _ => .stuck)
    | _ => .stuck) = .ok f S' from h)
  obtain ⟨a, S2, e2, h4⟩ := Res.bind_ok h3
  split at h4
  · rename_i pp
    split at h4
    · rename_i c fs el
      split at h4
      · rename_i hc
        cases h4
        obtain ⟨cl, na⟩ := (E.cls c).fld g hc.1
        refine ofS (ps_fld (pE o) (pE e) hs) (hv.run ρ σd σ S H x S1 _ r rs e1 fun ρ1 H1 v n1 p1 => ?_)
        refine ho.run ρ1 σd σ S1 H1 _ S2 _ n1.r (n1.rs rs) e2 fun ρ2 H2 v2 n2 p2 => ?_
        obtain ⟨_, rfl⟩ := (show pp < S2.n ∧ v2 = .ref (ρ2 pp) from p2)
        obtain ⟨dx, us, s, q⟩ := n2.r.cell pp _ el
        have p4 := n2.rp p1
        refine ⟨_, _, dx, us, rfl, s, cl, na, by rw [← q.length]; exact hc.2, ?_⟩
        have n4 := n2.r.write (o := .ins (L.cla c) dx (putF g v us)) (c := .ins c (putD g x fs)) el True.intro True.intro ⟨dx, putF g v us, upd_same, (RpF.put g q p4).mono (TM.wr s fun z => z) (Agree.refl _ _) (Nat.le_refl _)⟩
        have nn := (n1.trans n2).trans n4
        exact k ρ2 _ σ nn (nn.rs rs)
      · cases h4
    · cases h4
  · cases h4
theorem ss_expr {e : Expr} {c : C} (ha : Sim X L G cf e c) (hs : swapsWith e none pos.line X.env = pure false := by rfl) : SimS X L G cf (.Expr e pos) (.expr c) := by
  refine ⟨fun ρ σd σ S H f S' D r rs h k => ?_⟩
  obtain ⟨d, S1, e1, h3⟩ := Res.bind_ok (show (evC G cf c σd S).bind (fun _ S1 => .ok (.nx σd) S1) = .ok f S' from h)
  cases h3
  exact ofS (ps_expr (pE e) hs) (ha.run ρ σd σ S H d S' _ r rs e1 fun ρ' H' v n p => k ρ' H' σ n (n.rs rs))
theorem ss_if {t : Expr} {a b : List Stmt} {ct : C} {ca cb : Ss} (ht : SimT X L G cf t ct) (ha : SimSs X L G cf a ca) (hb : SimSs X L G cf b cb) : SimS X L G cf (.If t a b pos) (.ifs ct ca cb) := by
  refine ⟨fun ρ σd σ S H f S' D r rs h k => ?_⟩
  obtain ⟨x, S1, e1, h3⟩ := Res.bind_ok (show (evC G cf ct σd S).bind (fun x S1 => (Res.of (truth S1 x) S1).bind fun k S2 => if k then exSs G cf ca σd S2 else exSs G cf cb σd S2) = .ok f S' from h)
  obtain ⟨kb, S2, e2, h4⟩ := Res.bind_ok h3
  obtain ⟨e3, rfl⟩ := Res.of_ok e2
  refine ofS (ps_if (pT t) (pSs a) (pSs b)) (ht.run ρ σd σ S H x kb S2 _ r rs e1 e3 fun ρ' H' n => ?_)
  cases kb with
  | true =>
    rw [if_pos rfl] at h4 ⊢
    exact ha.run ρ' σd σ S2 H' f S' D n.r (n.rs rs) h4 (k.at n)
  | false =>
    rw [if_neg Bool.false_ne_true] at h4 ⊢
    exact hb.run ρ' σd σ S2 H' f S' D n.r (n.rs rs) h4 (k.at n)
theorem ss_ret {e : Expr} {c : C} (ha : Sim X L G cf e c) : SimS X L G cf (.Return (some e) pos) (.ret c) := by
  refine ⟨fun ρ σd σ S H f S' D r rs h k => ?_⟩
  obtain ⟨d, S1, e1, h3⟩ := Res.bind_ok (show (evC G cf c σd S).bind (fun d S1 => .ok (.rt d) S1) = .ok f S' from h)
  cases h3
  exact ofS (ps_ret (pE e)) (ha.run ρ σd σ S H d S' _ r rs e1 k)
theorem ss_retN : SimS X L G cf (.Return none pos) .retN := ⟨fun ρ σd σ S H f S' D r rs h k => by
  cases h
  exact ofS ps_retN (k ρ H .non (Nx.refl r) rfl)⟩
theorem ss_pass : SimS X L G cf (.Pass pos) .pass := ⟨fun ρ σd σ S H f S' D r rs h k => by
  cases h
  exact ofS ps_pass (k ρ H σ (Nx.refl r) rs)⟩
theorem ss_doc {x j} : SimS X L G cf (.Expr (.Constant (.str x) j pos) pos') .pass := ⟨fun ρ σd σ S H f S' D r rs h k => by
  cases h
  exact ofS ps_doc (k ρ H σ (Nx.refl r) rs)⟩
theorem ss_brk : SimS X L G cf (.Break pos) .brk := ⟨fun ρ σd σ S H f S' D r rs h k => by
  cases h
  exact ofS ps_break (k ρ H σ (Nx.refl r) rs)⟩
theorem ss_cont : SimS X L G cf (.Continue pos) .cont := ⟨fun ρ σd σ S H f S' D r rs h k => by
  cases h
  exact ofS ps_continue (k ρ H σ (Nx.refl r) rs)⟩
theorem ss_never {st : Stmt} : SimS X L G cf st .never := ⟨fun ρ σd σ S H f S' D r rs h k => by cases h⟩

/-! ### for -/
theorem loop_end {body : D → Sl → Store → Res Fl} {q : Sq} {J : It} {K : PySem.W.Frag} {D : Ends} {step : V → L2.St → Hp → (L2.St → Hp → Prop) → Prop} {H1 : Hp} {ρ1 : Nat → Addr} {S1 S' : Store} {σd : Sl} {σ : L2.St} {f : Fl} (F : Feed K L q J H1 ρ1 S1) (r : Rel K L H1 ρ1 S1) (rs : RS K L H1 ρ1 S1.n σd σ) (h : loopSq body q σd S1 = .ok f S')
    (k : FlK K L S1 H1 ρ1 f S' D)
    (hstep : ∀ ρ' S2 H' d x σd2 σ2 f2 S3 (N : L2.St → Hp → Prop), Nx K L S1 H1 ρ1 S2 H' ρ' → RS K L H' ρ' S2.n σd2 σ2 → Rp K L H' ρ' S2.n d x → body d σd2 S2 = .ok f2 S3 → FlK K L S2 H' ρ' f2 S3 { D with nx := N, ct := N, bk := D.nx } → step x σ2 H' N) :
    ∃ W : Nat → Nat → L2.St → Hp → Prop, (∃ m, W 0 m σ H1) ∧ ∀ i m σ H, W i m σ H →
      (J.stop i H ∧ D.nx σ H) ∨ (J.go i H ∧ ∃ N : L2.St → Hp → Prop, (∀ σ' H', N σ' H' → ∃ m', m' < m ∧ W (i + 1) m' σ' H') ∧ ∀ x H', J.yld i H x H' → step x σ H' N) := by
  -- a turn's end
  have turn : ∀ {g : Sl → Store → Res Fl} {ρ' : Nat → Addr} {S2 : Store} {H' : Hp} {f2 : Fl} {S3 : Store} {N : L2.St → Hp → Prop}, Nx K L S1 H1 ρ1 S2 H' ρ' →
      (match f2 with
        | .nx σ1 => g σ1 S3
        | .ct σ1 => g σ1 S3
        | .bk σ1 => Res.ok (Fl.nx σ1) S3
        | .rt d => Res.ok (Fl.rt d) S3) = .ok f S' → (∀ σ1 ρ3 H3 σ3, Nx K L S2 H' ρ' S3 H3 ρ3 → RS K L H3 ρ3 S3.n σ1 σ3 → g σ1 S3 = .ok f S' → N σ3 H3) → FlK K L S2 H' ρ' f2 S3 { D with nx := N, ct := N, bk := D.nx } := by
    intro g ρ' S2 H' f2 S3 N n e hN
    cases f2 with
    | nx σ1 => exact fun ρ3 H3 σ3 n3 rs3 => hN σ1 ρ3 H3 σ3 n3 rs3 e
    | ct σ1 => exact fun ρ3 H3 σ3 n3 rs3 => hN σ1 ρ3 H3 σ3 n3 rs3 e
    | bk σ1 => cases e; exact fun ρ3 H3 σ3 n3 rs3 => k ρ3 H3 σ3 (n.trans n3) rs3
    | rt d => cases e; exact fun ρ3 H3 v n3 p3 => k ρ3 H3 v (n.trans n3) p3
  cases q with
  | fix l =>
    refine ⟨fun i m σ H => m = l.length - i ∧ ∃ ρ' S2 σd2, Nx K L S1 H1 ρ1 S2 H ρ' ∧ RS K L H ρ' S2.n σd2 σ ∧ loopFix body (l.drop i) σd2 S2 = .ok f S', ⟨l.length, by simp, ρ1, S1, σd, Nx.refl r, rs, h⟩, ?_⟩
    rintro i m σ H ⟨rfl, ρ', S2, σd2, n, rs2, e⟩
    obtain ⟨f1, f2⟩ := F ρ' S2 H n i
    by_cases hi : i < l.length
    · rw [drop_cons hi] at e
      obtain ⟨fl, S3, e1, e2⟩ := Res.bind_ok (show (body l[i] σd2 S2).bind (fun f S1 => match f with
        | .nx σ1 => loopFix body (l.drop (i + 1)) σ1 S1
        | .ct σ1 => loopFix body (l.drop (i + 1)) σ1 S1
        | .bk σ1 => Res.ok (Fl.nx σ1) S1
        | .rt d => Res.ok (Fl.rt d) S1) = .ok f S' from e)
      obtain ⟨g1, g2⟩ := f1 l[i] (List.getElem?_eq_getElem hi)
      refine .inr ⟨g1, fun σ' H' => ∃ ρ3 σd3, Nx K L S1 H1 ρ1 S3 H' ρ3 ∧ RS K L H' ρ3 S3.n σd3 σ' ∧ loopFix body (l.drop (i + 1)) σd3 S3 = .ok f S', fun σ' H' ⟨ρ3, σd3, n3, rs3, e3⟩ => ⟨l.length - (i + 1), by omega, rfl, ρ3, S3, σd3, n3, rs3, e3⟩, fun x H' y => ?_⟩
      obtain ⟨n3, p3⟩ := g2 x H' y
      refine hstep ρ' S2 H' l[i] x σd2 σ fl S3 _ (n.trans n3) (n3.rs rs2) p3 e1 (turn (g := fun σ1 S1 => loopFix body (l.drop (i + 1)) σ1 S1) (n.trans n3) e2 fun σ1 ρ4 H4 σ4 n4 rs4 e4 => ⟨ρ4, σ1, (n.trans n3).trans n4, rs4, e4⟩)
    · rw [List.drop_eq_nil_of_le (by omega)] at e
      cases e
      exact .inl ⟨f2 (by omega), k ρ' H σ n rs2⟩
  | live i0 k0 =>
    refine ⟨fun i m σ H => ∃ ρ' S2 σd2, Nx K L S1 H1 ρ1 S2 H ρ' ∧ RS K L H ρ' S2.n σd2 σ ∧ loopLive body i0 m i σd2 S2 = .ok f S', ⟨k0, ρ1, S1, σd, Nx.refl r, rs, h⟩, ?_⟩
    rintro i m σ H ⟨ρ', S2, σd2, n, rs2, e⟩
    cases m with
    | zero =>
      have e' : (match S2.get i0 with
        | some (.lst _ l) => if l.length ≤ i then Res.ok (Fl.nx σd2) S2 else .stuck
        | _ => .stuck) = .ok f S' := e
      split at e'
      · rename_i w l el
        split at e'
        · rename_i hl
          cases e'
          exact .inl ⟨(F ρ' S' H n w l i el).2 hl, k ρ' H σ n rs2⟩
        · cases e'
      · cases e'
    | succ m =>
      have e' : (match S2.get i0 with
        | some (.lst _ l) => (match l[i]? with
          | none => Res.ok (Fl.nx σd2) S2
          | some x => (body x σd2 S2).bind fun f S1 => match f with
            | .nx σ1 => loopLive body i0 m (i + 1) σ1 S1
            | .ct σ1 => loopLive body i0 m (i + 1) σ1 S1
            | .bk σ1 => Res.ok (Fl.nx σ1) S1
            | .rt d => Res.ok (Fl.rt d) S1)
        | _ => .stuck) = .ok f S' := e
      split at e'
      · rename_i w l el
        obtain ⟨f1, f2⟩ := F ρ' S2 H n w l i el
        split at e'
        · rename_i hx
          cases e'
          exact .inl ⟨f2 (List.getElem?_eq_none_iff.mp hx), k ρ' H σ n rs2⟩
        · rename_i x hx
          obtain ⟨fl, S3, e1, e2⟩ := Res.bind_ok e'
          obtain ⟨g1, g2⟩ := f1 x hx
          refine .inr ⟨g1, fun σ' H' => ∃ ρ3 σd3, Nx K L S1 H1 ρ1 S3 H' ρ3 ∧ RS K L H' ρ3 S3.n σd3 σ' ∧ loopLive body i0 m (i + 1) σd3 S3 = .ok f S', fun σ' H' ⟨ρ3, σd3, n3, rs3, e3⟩ => ⟨m, Nat.lt_succ_self _, ρ3, S3, σd3, n3, rs3, e3⟩, fun y H' z => ?_⟩
          obtain ⟨n3, p3⟩ := g2 y H' z
          refine hstep ρ' S2 H' x y σd2 σ fl S3 _ (n.trans n3) (n3.rs rs2) p3 e1 (turn (g := fun σ1 S1 => loopLive body i0 m (i + 1) σ1 S1) (n.trans n3) e2 fun σ1 ρ4 H4 σ4 n4 rs4 e4 => ⟨ρ4, σ1, (n.trans n3).trans n4, rs4, e4⟩)
      · cases e'
theorem ss_for {tg iter : Expr} {body : List Stmt} {it : Iter} {one : Bool} {ti : List Nat} {cb : Ss} (hp : PassesOwn (model X.prog X.w) X.A X.env X.xe) (E : EnvOk X L G cf) (hi : SimI X L G cf tg iter it) (hg : SimG X L tg one ti) (hb : SimSs X L G cf body cb)
    (hs : ∀ x, foldedSetIterable iter X.env x = pure x := by intro _; rfl) : SimS X L G cf (.For tg iter body [] pos) (.for1 it ti one cb) := by
  refine ⟨fun ρ σd σ S H f S' D r rs h k => ?_⟩
  obtain ⟨q, S1, e1, h2⟩ := Res.bind_ok (show (evIt G cf it σd S).bind (fun q S1 => loopSq (fun x σ1 S2 => (Res.of (bindT one ti σ1 x) S2).bind fun σ2 S3 => exSs G cf cb σ2 S3) q σd S1) = .ok f S' from h)
  refine ofS (ps_for hp E.calm (pI tg iter) (pG tg) (pSs body) hs) (hi.run ρ σd σ S H q S1 _ r rs e1 fun ρ1 H1 J n1 F => ?_)
  refine loop_end (step := fun x σ H' N => wG X tg x σ H' fun σ2 H2 => wSs X body { D with nx := N, ct := N, bk := D.nx } σ2 H2) F n1.r (n1.rs rs) h2 (k.at n1) fun ρ' S2 H' d x σd2 σ2 f2 S3 N n rs2 p e2 kf => ?_
  obtain ⟨σd3, S4, e3, h4⟩ := Res.bind_ok e2
  obtain ⟨e4, rfl⟩ := Res.of_ok e3
  exact hg.run ρ' σd2 σ2 S4 H' d x σd3 _ n.r rs2 p e4 fun σ3 rs3 _ => hb.run ρ' σd3 σ3 S4 H' f2 S3 _ n.r rs3 h4 kf

/-! ### match on texts -/
theorem sms_nil : SimMs X L G cf [] .nil := ⟨fun ρ σd σ S H x f S' D r rs h k pins s t first I => by
  cases h
  exact wpAny_matchCases_nil ⟨σ, H, I, k ρ H σ (Nx.refl r) rs⟩⟩
theorem sms_cons {y : Str} {j : Nat} {p p2 : Pos} {body : List Stmt} {rest : List MatchCase} {b : Ss} {ms : Ms} (E : EnvOk X L G cf) (hb : SimSs X L G cf body b) (hr : SimMs X L G cf rest ms) :
    SimMs X L G cf (⟨.MatchValue (.Constant (.str y) j p) p2, none, body⟩ :: rest) (.cons y b ms) := by
  refine ⟨fun ρ σd σ S H x f S' D r rs h k pins s t first I => ?_⟩
  refine wpAny_matchCases_cons (wpAny_matchPattern_Value ?_)
  refine thn ((pE (X := X) (.Constant (.str y) j p)).run pins s σ H (fun v H1 => v = .str y ∧ H1 = H) I (ofE pe_str ⟨rfl, rfl⟩)) fun u s1 ⟨v, H1, I1, rv, ev, eh⟩ => ?_
  subst ev
  subst eh
  obtain ⟨t2, rfl⟩ := rv
  obtain ⟨r2, ho, hq⟩ := cd_eq (X := X) (L := L) (G := G) E.hu ρ S H1 (.str x) (.str y) (x == y) (.str x) (.str y) r rfl rfl rfl
  refine thn (ho pins s1 σ H1 (.str x) (.str y) _ _ (fun z H3 => z = .bl (x == y) ∧ H3 = H1) I1 ⟨t, rfl⟩ ⟨t2, rfl⟩ (hq _ ⟨rfl, rfl⟩)) fun c s3 ⟨z, H3, I3, rz, ez, eh⟩ => ?_
  subst ez
  subst eh
  obtain rfl : c = Value.bool (x == y) := rz
  refine wpAny_truthy_bool ?_
  have h1 : (if y = x then exSs G cf b σd S else exMs G cf x ms σd S) = .ok f S' := h
  cases e : (x == y) with
  | true =>
    have e2 : y = x := (eq_of_beq e).symm
    rw [if_pos e2] at h1
    rw [if_pos rfl]
    exact wpAny_assignInOrder_none ((pSs body).run pins s3 σ H3 D I3 (hb.run ρ σd σ S H3 f S' D r rs h1 k))
  | false =>
    have e2 : ¬ y = x := fun z => by rw [z, beq_self_eq_true] at e; cases e
    rw [if_neg e2] at h1
    rw [if_neg Bool.false_ne_true]
    exact hr.run ρ σd σ S H3 x f S' D r rs h1 k pins s3 t false I3
theorem ss_mat {e : Expr} {cs : List MatchCase} {c : C} {ms : Ms} (ha : Sim X L G cf e c) (hm : SimMs X L G cf cs ms) : SimS X L G cf (.Match e cs pos) (.mat c ms) := by
  refine ⟨fun ρ σd σ S H f S' D r rs h k => fun pins s I => ?_⟩
  obtain ⟨d, S1, e1, h2⟩ := Res.bind_ok (show (evC G cf c σd S).bind (fun d S1 => match d with
    | .str x => exMs G cf x ms σd S1
    | _ => .stuck) = .ok f S' from h)
  split at h2
  · rename_i x
    refine wpAny_Match (thn (ha.run ρ σd σ S H _ S1 (fun v H1 => ∃ ρ1, Nx X.K L S H ρ S1 H1 ρ1 ∧ Rp X.K L H1 ρ1 S1.n (.str x) v) r rs e1 (fun ρ' H' v n p => ⟨ρ', n, p⟩) pins s I) fun u s1 ⟨v, H1, I1, rv, ρ1, n1, p1⟩ => ?_)
    cases (show v = .str x from p1)
    obtain ⟨t, rfl⟩ := rv
    exact hm.run ρ1 σd σ S1 H1 x f S' D n1.r (n1.rs rs) h2 (k.at n1) pins s1 t true I1
  · cases h2
end
end PD

/-! PD9: a def's contract from its body's simulation; levels. -/
namespace PD
open PySem PySem.Spec PyProof.Rows L2
section
variable {K : PySem.W.Frag} {L : Pl}
mutual
theorem Rp.low {H H' : Hp} {ρ ρ' : Nat → Addr} {n n' : Nat} : ∀ {d : D} {v v0 : V}, Rp K L H' ρ' n' d v → Rp K L H ρ n d v0 → Rp K L H' ρ' n d v
  | .non, _, _, h, _ => h
  | .bl _, _, _, h, _ => h
  | .int _, _, _, h, _ => h
  | .str _, _, _, h, _ => h
  | .tup l, v, v0, h, h0 => by
    obtain ⟨p, vs, e, s, r⟩ := (show ∃ a vs, v = .ref a ∧ SqT K H' a vs ∧ RpL K L H' ρ' n' l vs from h)
    obtain ⟨p0, vs0, e0, s0, r0⟩ := (show ∃ a vs, v0 = .ref a ∧ SqT K H a vs ∧ RpL K L H ρ n l vs from h0)
    exact ⟨p, vs, e, s, RpL.low r r0⟩
  | .ref i, v, v0, h, h0 => by
    obtain ⟨h1, h2⟩ := (show i < n' ∧ v = .ref (ρ' i) from h)
    obtain ⟨h3, h4⟩ := (show i < n ∧ v0 = .ref (ρ i) from h0)
    exact ⟨h3, h2⟩
  | .kd _, _, _, h, _ => h
theorem RpL.low {H H' : Hp} {ρ ρ' : Nat → Addr} {n n' : Nat} : ∀ {ds : List D} {vs vs0 : List V}, RpL K L H' ρ' n' ds vs → RpL K L H ρ n ds vs0 → RpL K L H' ρ' n ds vs
  | [], _, _, h, _ => h
  | d :: ds, vs, vs0, h, h0 => by
    obtain ⟨v, r, e, h1, h2⟩ := (show ∃ v r, vs = v :: r ∧ Rp K L H' ρ' n' d v ∧ RpL K L H' ρ' n' ds r from h)
    obtain ⟨v0, r0, e0, h3, h4⟩ := (show ∃ v r, vs0 = v :: r ∧ Rp K L H ρ n d v ∧ RpL K L H ρ n ds r from h0)
    exact ⟨v, r, e, Rp.low h1 h3, RpL.low h2 h4⟩
end
mutual
theorem Rp.less {H : Hp} {ρ : Nat → Addr} {n n' : Nat} : ∀ {d : D} {v : V}, refless d = true → Rp K L H ρ n' d v → Rp K L H ρ n d v
  | .non, _, _, h => h
  | .bl _, _, _, h => h
  | .int _, _, _, h => h
  | .str _, _, _, h => h
  | .tup l, v, e0, h => by
    obtain ⟨p, vs, e, s, r⟩ := (show ∃ a vs, v = .ref a ∧ SqT K H a vs ∧ RpL K L H ρ n' l vs from h)
    exact ⟨p, vs, e, s, RpL.less (show reflessL l = true from e0) r⟩
  | .ref i, v, e0, h => by cases e0
  | .kd _, _, _, h => h
theorem RpL.less {H : Hp} {ρ : Nat → Addr} {n n' : Nat} : ∀ {ds : List D} {vs : List V}, reflessL ds = true → RpL K L H ρ n' ds vs → RpL K L H ρ n ds vs
  | [], _, _, h => h
  | d :: ds, vs, e0, h => by
    obtain ⟨v, r, e, h1, h2⟩ := (show ∃ v r, vs = v :: r ∧ Rp K L H ρ n' d v ∧ RpL K L H ρ n' ds r from h)
    obtain ⟨e1, e2⟩ := Bool.and_eq_true_iff.mp (show (refless d && reflessL ds) = true from e0)
    exact ⟨v, r, e, Rp.less e1 h1, RpL.less e2 h2⟩
end
theorem RpF.low {H H' : Hp} {ρ ρ' : Nat → Addr} {n n' : Nat} : ∀ {ds : List (Str × D)} {vs vs0 : List (Str × V)}, RpF K L H' ρ' n' ds vs → RpF K L H ρ n ds vs0 → RpF K L H' ρ' n ds vs
  | [], _, _, h, _ => h
  | d :: ds, vs, vs0, h, h0 => by
    obtain ⟨v, r, e, h1, h2⟩ := h
    obtain ⟨v0, r0, e0, h3, h4⟩ := h0
    exact ⟨v, r, e, Rp.low h1 h3, RpF.low h2 h4⟩
theorem CellOk.low {H H' : Hp} {ρ ρ' : Nat → Addr} {n n' : Nat} {a a0 : Addr} {c : Cell} (h : CellOk K L H' ρ' n' a c) (h0 : CellOk K L H ρ n a0 c) : CellOk K L H' ρ' n a c := by
  cases c with
  | lst w l =>
    cases w with
    | true =>
      obtain ⟨vs, h1, h2⟩ := h
      obtain ⟨vs0, h3, h4⟩ := h0
      exact ⟨vs, h1, h2.low h4⟩
    | false =>
      obtain ⟨vs, h1, h2⟩ := h
      obtain ⟨vs0, h3, h4⟩ := h0
      exact ⟨vs, h1, h2.low h4⟩
  | ins c fs =>
    obtain ⟨dx, vs, h1, h2⟩ := h
    obtain ⟨dx0, vs0, h3, h4⟩ := h0
    exact ⟨dx, vs, h1, h2.low h4⟩
  | bld k l =>
    obtain ⟨vs, h1, h2, h5⟩ := h
    obtain ⟨vs0, h3, h4, _⟩ := h0
    exact ⟨vs, h1, h2.low h4, h5⟩
theorem Rel.frame {H : Hp} {ρ : Nat → Addr} {n : Nat} {l : List Cell} {w w' : Nat} (r : Rel K L H ρ ⟨n, l, w⟩) : Rel K L H ρ ⟨n, l, w'⟩ := ⟨r.cell, r.inj⟩
theorem leave_ok {H : Hp} {ρ : Nat → Addr} {S S1 S' : Store} {d d' : D} {H' : Hp} {ρ' : Nat → Addr} {v : V} {Q : VK} (r : Rel K L H ρ S) (n : Nx K L ⟨S.n, S.l, S.n⟩ H ρ S1 H' ρ') (p : Rp K L H' ρ' S1.n d v) (h : leave S d S1 = .ok d' S')
    (k : ∀ ρ' H' v, Nx K L S H ρ S' H' ρ' → Rp K L H' ρ' S'.n d' v → Q v H') : Q v H' := by
  unfold leave at h
  split at h
  · rename_i c
    cases h
    obtain ⟨c1, c2⟩ := Bool.and_eq_true_iff.mp c
    have hw : S.n ≤ S1.w := Nat.le_of_ble_eq_true c1
    have old : ∀ i, i < S.n → S1.get i = S.get i := fun i hi => n.k i (Nat.lt_of_lt_of_le hi hw) hi
    refine k ρ' H' v ⟨Nat.le_refl _, n.a, n.t, ⟨fun i c hc => ?_, fun i j c e hc he => ?_⟩, Nat.le_refl _, fun _ _ _ => rfl⟩ (p.less c2)
    · have hi := Store.lt hc
      exact (n.r.cell i c (by rw [old i hi]; exact hc)).low (r.cell i c hc)
    · exact n.r.inj i j c e (by rw [old i (Store.lt hc)]; exact hc) (by rw [old j (Store.lt he)]; exact he)
  · cases h
    refine k ρ' H' v ⟨n.n, n.a, n.t, n.r.frame, ?_, fun i hi hn => ?_⟩ p
    · dsimp only
      split <;> omega
    · refine n.k i ?_ hn
      have hi' : i < (if S1.w < S.w then S1.w else S.w) := hi
      split at hi' <;> omega
end
/-- a def's contract -/
theorem fn_ok {P : Program} {w : World} {K : PySem.W.Frag} {L : Pl} {mg : Str → Option Value} {base : Heap} {G : Gd} {T : Nat → Option Fn} {x qual : Str} {params : Arguments} {body : List Stmt} {scope : Scope} {dvs : List V} {kws : List (Str × V)} {f : Addr} {fd : FuncData} {N ps : List Str} {code : Ss} {g j l : Nat}
    (F : FunD K x qual params body scope dvs kws f fd) (Sc : FnScope N ps scope) (hfn : T g = some ⟨ps.length, N.length, code⟩)
    (hb : ∀ (cdv : Value) (A : Around) (outer : List Env) (s : Shared) (H : Hp) (E : XK), Room j (A.deeper (envOfC qual scope s.heap.objs.size f cdv)) → SimSs (cxOf CX0 P w K mg base N qual scope f cdv A outer s H E) L G (callD G T l) body code) :
    FnOk P w K mg base CX0 (j + 1) f fd ps (spD K L (callD G T (l + 1)) g ps.length) := by
  refine F.ok Sc (fun vs H Q E h => ?_) (fun cdv A outer s H vs Q E hr h => ?_)
  · obtain ⟨ρ, S, as, d, S', hl, _⟩ := h
    exact hl
  · obtain ⟨ρ, S, as, d, S', hl, r, p, e, k⟩ := h
    refine ⟨_, pSs body, ?_⟩
    have e1 : (match T g with
      | none => Res.stuck
      | some fn => if as.length = fn.ar then (exSs G (callD G T l) fn.body (PD.start fn.k as) ⟨S.n, S.l, S.n⟩).bind fun r S1 => match r with
        | .rt d => leave S d S1
        | .nx _ => leave S .non S1
        | _ => .stuck else .stuck) = .ok d S' := e
    rw [hfn] at e1
    dsimp only at e1
    split at e1
    · rename_i ha
      obtain ⟨fl, S1, e2, e3⟩ := Res.bind_ok e1
      have r0 : Rel K L H ρ ⟨S.n, S.l, S.n⟩ := ⟨r.cell, r.inj⟩
      have rs : RS K L H ρ S.n (PD.start N.length as) (L2.start N vs) := by
        unfold PD.start L2.start
        rw [← p.length]
        exact RS.start p _
      refine (hb cdv A outer s H E hr).run ρ _ _ ⟨S.n, S.l, S.n⟩ H fl S1 _ r0 rs e2 ?_
      cases fl with
      | rt d2 => exact fun ρ' H' v n q => leave_ok r n q e3 k
      | nx σ2 => exact fun ρ' H' σ' n _ => leave_ok (d := .non) r n rfl e3 k
      | bk _ => cases e3
      | ct _ => cases e3
    · cases e1
theorem fn_ok0 {P : Program} {w : World} {K : PySem.W.Frag} {L : Pl} {mg : Str → Option Value} {base : Heap} {G : Gd} {T : Nat → Option Fn} {f : Addr} {fd : FuncData} {ps : List Str} {g j : Nat} : FnOk P w K mg base CX0 j f fd ps (spD K L (callD G T 0) g ps.length) :=
  ⟨fun vs H Q E h => by obtain ⟨ρ, S, as, d, S', hl, _⟩ := h; exact hl, fun A outer s H args us vs Q E hr e0 hb r h => by
    obtain ⟨ρ, S, as, d, S', hl, _, _, e, _⟩ := h
    cases e⟩
theorem callD_ar {G : Gd} {T : Nat → Option Fn} {g : Nat} {fn : Fn} (h : T g = some fn) : ∀ (l : Nat) (as : List D) (S : Store) (d : D) (S' : Store), callD G T l g as S = .ok d S' → as.length = fn.ar
  | 0, as, S, d, S', e => by cases e
  | l + 1, as, S, d, S', e => by
    have e1 : (match T g with
      | none => Res.stuck
      | some fn => if as.length = fn.ar then (exSs G (callD G T l) fn.body (PD.start fn.k as) ⟨S.n, S.l, S.n⟩).bind fun r S1 => match r with
        | .rt d => leave S d S1
        | .nx _ => leave S .non S1
        | _ => .stuck else .stuck) = .ok d S' := e
    rw [h] at e1
    dsimp only at e1
    split at e1
    · assumption
    · cases e1
/-! ### a table of defs -/
structure FI where
  d : He.DefD
  N : List Str
  ps : List Str
  code : Ss
def tab (T : List FI) (f : Nat) : Option Fn := (T[f]?).map fun i => ⟨i.ps.length, i.N.length, i.code⟩
abbrev IsF (K : PySem.W.Frag) (i : FI) (fd : FuncData) : Prop := FunD K i.d.name i.d.qual i.d.params i.d.body i.d.scope (i.d.dvs K) (i.d.kws K) (He.fAd K i.d.at_) fd
def AllOk (P : Program) (w : World) (K : PySem.W.Frag) (mg : Str → Option Value) (base : Heap) (L : Pl) (G : Gd) (T : List FI) (l : Nat) : Prop :=
  ∀ (f : Nat) (i : FI) (fd : FuncData), T[f]? = some i → IsF K i fd → FnOk P w K mg base CX0 (2 * l) (He.fAd K i.d.at_) fd i.ps (spD K L (callD G (tab T) l) f i.ps.length)
theorem all_ok {P : Program} {w : World} {K : PySem.W.Frag} {mg : Str → Option Value} {base : Heap} {L : Pl} {G : Gd} {T : List FI} (hs : ∀ (f : Nat) (i : FI), T[f]? = some i → FnScope i.N i.ps i.d.scope)
    (hb : ∀ (f : Nat) (i : FI) (fd : FuncData), T[f]? = some i → IsF K i fd → ∀ l, AllOk P w K mg base L G T l → ∀ (cdv : Value) (A : Around) (outer : List Env) (s : Shared) (H : Hp) (E : XK), Room (2 * l + 1) (A.deeper (envOfC i.d.qual i.d.scope s.heap.objs.size (He.fAd K i.d.at_) cdv)) →
      SimSs (cxOf CX0 P w K mg base i.N i.d.qual i.d.scope (He.fAd K i.d.at_) cdv A outer s H E) L G (callD G (tab T) l) i.d.body i.code) : ∀ l, AllOk P w K mg base L G T l
  | 0, f, i, fd, hi, hF => fn_ok0
  | l + 1, f, i, fd, hi, hF => by
    have e : tab T f = some ⟨i.ps.length, i.N.length, i.code⟩ := by unfold tab; rw [hi]; rfl
    exact fn_ok (j := 2 * l + 1) hF (hs f i hi) e fun cdv A outer s H E hr => hb f i fd hi hF l (all_ok hs hb l) cdv A outer s H E hr

/-! ### blocks have the same surroundings -/
section
variable {X : Cx} {L : Pl} {G : Gd} {cf : Nat → List D → Store → Res D} {s : Shared} {H : Hp} {sc : Scope} {e : Env} {fp : List Addr}
theorem FnAt.blk {f k : Nat} {fa : Addr} {fd : FuncData} {ps : List Str} {j : Nat} (F : FnAt X L cf f k fa fd ps j) : FnAt (X.blk s H sc e fp) L cf f k fa fd ps j := ⟨F.ok, F.room, F.ar⟩
theorem CallOk.blk {x : Str} {f n : Nat} {sh : List Src} (h : CallOk X L cf x f n sh) : CallOk (X.blk s H sc e fp) L cf x f n sh := by
  obtain ⟨k, fa, fd, ps, j, ds, dvs, dl, F, h⟩ := h.ex
  exact ⟨⟨k, fa, fd, ps, j, ds, dvs, dl, F.blk, h⟩⟩
theorem CallK.blk {x : Str} {f n : Nat} {ks : List Str} {sh : List Src} (h : CallK X L cf x f n ks sh) : CallK (X.blk s H sc e fp) L cf x f n ks sh := by
  obtain ⟨k, fa, fd, ps, j, g, gV, F, h⟩ := h.ex
  exact ⟨⟨k, fa, fd, ps, j, g, gV, F.blk, h⟩⟩
theorem MkOk.blk {x : Str} {c f n : Nat} {sh : List Src} (h : MkOk X L cf x c f n sh) : MkOk (X.blk s H sc e fp) L cf x c f n sh := ⟨h.ex⟩
theorem MkK.blk {x : Str} {c f n : Nat} {ks : List Str} {sh : List Src} (h : MkK X L cf x c f n ks sh) : MkK (X.blk s H sc e fp) L cf x c f n ks sh := ⟨h.ex⟩
theorem EnvOk.blk (E : EnvOk X L G cf) : EnvOk (X.blk s H sc e fp) L G cf := by
  refine ⟨E.calm, E.nd, E.hu, fun c => ⟨(E.cls c).prop, fun m g hm => ?_, (E.cls c).fld⟩, fun i t h => ⟨(E.kd i t h).d, (E.kd i t h).at_⟩, fun c h => ?_, E.kbo, E.kob, E.koo⟩
  · obtain ⟨cl, fa, fd, ps, j, k, h1, F, h2⟩ := (E.cls c).meth m g hm
    exact ⟨cl, fa, fd, ps, j, k, h1, F.blk, h2⟩
  · have q := E.isi c h
    exact ⟨q.cls, q.ha, q.hn, q.htk, q.hm⟩
end
end PD

/-! PDA: chains of comparisons. -/
namespace PD
open PySem PySem.Spec PyProof.Rows L2
section
variable {X : Cx} {L : Pl} {G : Gd} {cf : Nat → List D → Store → Res D} {a b c : Expr} {ca cb cc : C} {op op' : CmpOp} {o o' : Cm} {pos : Pos}
theorem chain_ev {σd : Sl} {S : Store} {d : D} {S' : Store} (h : evC G cf (.cmp2 o o' ca cb cc) σd S = .ok d S') : ∃ x S1 y S2 k, evC G cf ca σd S = .ok x S1 ∧ evC G cf cb σd S1 = .ok y S2 ∧ evCm G S2 o x y = some k ∧
    ((k = false ∧ d = .bl false ∧ S' = S2) ∨ (k = true ∧ ∃ z k2, evC G cf cc σd S2 = .ok z S' ∧ evCm G S' o' y z = some k2 ∧ d = .bl k2)) := by
  obtain ⟨x, S1, e1, h⟩ := Res.bind_ok (show (evC G cf ca σd S).bind (fun x S1 => (evC G cf cb σd S1).bind fun y S2 => (Res.of (evCm G S2 o x y) S2).bind fun k S3 =>
    if k then (evC G cf cc σd S3).bind fun z S4 => Res.of ((evCm G S4 o' y z).map .bl) S4 else .ok (.bl false) S3) = .ok d S' from h)
  obtain ⟨y, S2, e2, h⟩ := Res.bind_ok h
  obtain ⟨k, S3, e3, h⟩ := Res.bind_ok h
  obtain ⟨e4, rfl⟩ := Res.of_ok e3
  refine ⟨x, S1, y, S3, k, e1, e2, e4, ?_⟩
  cases k with
  | false =>
    rw [if_neg Bool.false_ne_true] at h
    cases h
    exact .inl ⟨rfl, rfl, rfl⟩
  | true =>
    rw [if_pos rfl] at h
    obtain ⟨z, S4, e5, h⟩ := Res.bind_ok h
    obtain ⟨k2, e6, rfl, rfl⟩ := map_bl h
    exact .inr ⟨rfl, z, k2, e5, e6, rfl⟩
theorem si_chain (ho : CmD X L (compareOp op) (fun S x y => evCm G S o x y)) (ho' : CmD X L (compareOp op') (fun S x y => evCm G S o' x y)) (ha : Sim X L G cf a ca) (hb : Sim X L G cf b cb) (hc : Sim X L G cf c cc)
    (hm : lastMarks [op, op'] [b, c] = false := by with_unfolding_all rfl) : Sim X L G cf (.Compare a [op, op'] [b, c] pos) (.cmp2 o o' ca cb cc) := by
  refine ⟨fun ρ σd σ S H d S' Q r rs h k => fun pins s I => ?_⟩
  obtain ⟨x, S1, y, S2, kb, e1, e2, e3, h4⟩ := chain_ev h
  refine Compare_chain (thn (ha.run ρ σd σ S H x S1 (fun v H1 => ∃ ρ1, Nx X.K L S H ρ S1 H1 ρ1 ∧ Rp X.K L H1 ρ1 S1.n x v) r rs e1 (fun ρ' H' v n p => ⟨ρ', n, p⟩) pins s I) fun u s1 ⟨v, H1, I1, rv, ρ1, n1, p1⟩ => chain_link ?_) hm
  refine thn (hb.run ρ1 σd σ S1 H1 y S2 (fun w H2 => ∃ ρ2, Nx X.K L S1 H1 ρ1 S2 H2 ρ2 ∧ Rp X.K L H2 ρ2 S2.n y w) n1.r (n1.rs rs) e2 (fun ρ' H' v n p => ⟨ρ', n, p⟩) pins s1 I1) fun u2 s2 ⟨w, H2, I2, rw', ρ2, n2, p2⟩ => ?_
  obtain ⟨r2, ho2, hq2⟩ := ho ρ2 S2 H2 x y kb v w n2.r (n2.rp p1) p2 e3
  refine thn (ho2 pins s2 σ H2 v w u u2 (fun z H3 => z = .bl kb ∧ H3 = H2) I2 rv rw' (hq2 _ ⟨rfl, rfl⟩)) fun c3 s3 ⟨z, H3, I3, rz, ez, eh⟩ => ?_
  subst ez
  subst eh
  obtain rfl : c3 = Value.bool kb := rz
  refine wpAny_truthy_bool ?_
  rcases h4 with ⟨rfl, rfl, rfl⟩ | ⟨rfl, z2, k2, e5, e6, rfl⟩
  · exact ite_ff ⟨.bl false, H3, I3, rfl, k ρ2 H3 _ (n1.trans n2) rfl⟩
  · refine ite_tt (chain_last ?_)
    refine thn (hc.run ρ2 σd σ S2 H3 z2 S' (fun w H4 => ∃ ρ4, Nx X.K L S2 H3 ρ2 S' H4 ρ4 ∧ Rp X.K L H4 ρ4 S'.n z2 w) n2.r (n2.rs (n1.rs rs)) e5 (fun ρ' H' v n p => ⟨ρ', n, p⟩) pins s3 I3) fun u4 s4 ⟨w4, H4, I4, rw4, ρ4, n4, p4⟩ => ?_
    obtain ⟨r5, ho5, hq5⟩ := ho' ρ4 S' H4 y z2 k2 w w4 n4.r (n4.rp p2) p4 e6
    exact ho5 pins s4 σ H4 w w4 u2 u4 Q I4 rw' rw4 (hq5 Q (k ρ4 H4 _ ((n1.trans n2).trans n4) rfl))
theorem st_chain (ho : CmD X L (compareOp op) (fun S x y => evCm G S o x y)) (ho' : CmD X L (compareOp op') (fun S x y => evCm G S o' x y)) (ha : Sim X L G cf a ca) (hb : Sim X L G cf b cb) (hc : Sim X L G cf c cc)
    (hm : lastMarks [op, op'] [b, c] = false := by with_unfolding_all rfl) : SimT X L G cf (.Compare a [op, op'] [b, c] pos) (.cmp2 o o' ca cb cc) := by
  refine ⟨fun ρ σd σ S H d bb S' Q r rs h ht k => fun pins s I => ?_⟩
  obtain ⟨x, S1, y, S2, kb, e1, e2, e3, h4⟩ := chain_ev h
  refine isTrue_chain (thn (ha.run ρ σd σ S H x S1 (fun v H1 => ∃ ρ1, Nx X.K L S H ρ S1 H1 ρ1 ∧ Rp X.K L H1 ρ1 S1.n x v) r rs e1 (fun ρ' H' v n p => ⟨ρ', n, p⟩) pins s I) fun u s1 ⟨v, H1, I1, rv, ρ1, n1, p1⟩ => test_link ?_) hm
  refine thn (hb.run ρ1 σd σ S1 H1 y S2 (fun w H2 => ∃ ρ2, Nx X.K L S1 H1 ρ1 S2 H2 ρ2 ∧ Rp X.K L H2 ρ2 S2.n y w) n1.r (n1.rs rs) e2 (fun ρ' H' v n p => ⟨ρ', n, p⟩) pins s1 I1) fun u2 s2 ⟨w, H2, I2, rw', ρ2, n2, p2⟩ => ?_
  obtain ⟨r2, ho2, hq2⟩ := ho ρ2 S2 H2 x y kb v w n2.r (n2.rp p1) p2 e3
  refine thn (ho2 pins s2 σ H2 v w u u2 (fun z H3 => z = .bl kb ∧ H3 = H2) I2 rv rw' (hq2 _ ⟨rfl, rfl⟩)) fun c3 s3 ⟨z, H3, I3, rz, ez, eh⟩ => ?_
  subst ez
  subst eh
  obtain rfl : c3 = Value.bool kb := rz
  refine wpAny_truthy_bool ?_
  rcases h4 with ⟨rfl, rfl, rfl⟩ | ⟨rfl, z2, k2, e5, e6, rfl⟩
  · cases ht
    exact ite_ff ⟨H3, I3, k ρ2 H3 (n1.trans n2)⟩
  · cases ht
    refine ite_tt (test_last ?_)
    refine thn (hc.run ρ2 σd σ S2 H3 z2 S' (fun w H4 => ∃ ρ4, Nx X.K L S2 H3 ρ2 S' H4 ρ4 ∧ Rp X.K L H4 ρ4 S'.n z2 w) n2.r (n2.rs (n1.rs rs)) e5 (fun ρ' H' v n p => ⟨ρ', n, p⟩) pins s3 I3) fun u4 s4 ⟨w4, H4, I4, rw4, ρ4, n4, p4⟩ => ?_
    obtain ⟨r5, ho5, hq5⟩ := ho' ρ4 S' H4 y z2 bb w w4 n4.r (n4.rp p2) p4 e6
    refine thn (ho5 pins s4 σ H4 w w4 u2 u4 (fun z H3 => z = .bl bb ∧ H3 = H4) I4 rw' rw4 (hq5 _ ⟨rfl, rfl⟩)) fun c6 s6 ⟨z6, H6, I6, rz6, ez6, eh6⟩ => ?_
    subst ez6
    subst eh6
    obtain rfl : c6 = Value.bool bb := rz6
    exact wpAny_truthy_bool ⟨H6, I6, k ρ4 H6 ((n1.trans n2).trans n4)⟩
end
end PD

/-! PDB: the rules with texts by equality. -/
namespace PD
open PySem PySem.Spec PyProof.Rows L2
section
variable {X : Cx} {L : Pl} {G : Gd} {cf : Nat → List D → Store → Res D} {pos : Pos}
theorem si_strE {x y : Str} {j pos} (h : x = y) : Sim X L G cf (.Constant (.str x) j pos) (.lit (.str y)) := h ▸ si_str
theorem si_attrE {o : Expr} {f g : Str} {c : C} {pos : Pos} (E : EnvOk X L G cf) (h : f = g) (ha : Sim X L G cf o c) (hb : attributeBase o f X.env (eval o X.env) = eval o X.env := by rfl) : Sim X L G cf (.Attribute o f pos) (.attr c g) := by
  subst h
  exact si_attr E ha hb
theorem si_methE {o e : Expr} {es : List Expr} {m m' : Str} {c : C} {cs : Cs} {apos pos : Pos} {pl : Sem Bool} (E : EnvOk X L G cf) (h : m = m') (ho : Sim X L G cf o c) (ha : SimA X L G cf (e :: es) cs)
    (hst : starEach (e :: es) X.env = (false, eval e X.env) :: starEach es X.env := by rfl) (hpl : (backTo pos (starEach es X.env)).any (·.1) = false := by rfl)
    (ht : eval (.Call (.Attribute o m apos) (e :: es) [] pos) X.env = (do
      let ov ← eval o X.env
      standAt apos.atName
      let (f, first) ← holding [ov] (getMethod ov m pl)
      callWith pos f first (backTo pos (starEach (e :: es) X.env)) (backToKw pos (keywordEach [] X.env))) := by rfl) :
    Sim X L G cf (.Call (.Attribute o m apos) (e :: es) [] pos) (.meth c m' cs) := by
  subst h
  exact si_meth E ho ha hst hpl ht
theorem ss_setFE {o e : Expr} {g g' : Str} {co cv : C} {tpos : Pos} (E : EnvOk X L G cf) (h : g = g') (hv : Sim X L G cf e cv) (ho : Sim X L G cf o co) (hs : swapsWith e (some (.Attribute o g tpos)) pos.line X.env = pure false := by rfl) : SimS X L G cf (.Assign [.Attribute o g tpos] e pos) (.setF co g' cv) := by
  subst h
  exact ss_setF E hv ho hs
theorem sms_consE {y y' : Str} {j : Nat} {p p2 : Pos} {body : List Stmt} {rest : List MatchCase} {b : Ss} {ms : Ms} (E : EnvOk X L G cf) (h : y = y') (hb : SimSs X L G cf body b) (hr : SimMs X L G cf rest ms) :
    SimMs X L G cf (⟨.MatchValue (.Constant (.str y) j p) p2, none, body⟩ :: rest) (.cons y' b ms) := by
  subst h
  exact sms_cons E hb hr
/-- a comprehension on the line of its name -/
theorem sw_lc {elt : Expr} {gs : List Comprehension} {scope : Scope} {p py : Pos} {y : Str} {l : Nat} {env : Env} (hk : env.scope.kind = .function) (hy : env.scope.names.lookup y = some .local) (hl : (py.line == p.line) = true)
    (ha : (scope.names.any fun (n, k) => n == y && (k == .local || k == .cell)) = false) : swapsWith (.ListComp elt gs scope p) (some (.Name y py)) l env = pure true := sw_true hk hy hl ha
end
end PD

/-! PDC: what the head tells: a Hook with defs at any addresses, constants, tables, classes. -/
namespace PD
open PySem PySem.Spec PyProof.Rows L2
/-- what an expression made is dropped where it may be -/
theorem si_scope {X : Cx} {L : Pl} {G : Gd} {cf : Nat → List D → Store → Res D} {e : Expr} {c : C} (h : Sim X L G cf e c) : Sim X L G cf e (.scope c) := by
  refine ⟨fun ρ σd σ S H d S' Q r rs he k => ?_⟩
  obtain ⟨d1, S1, e1, e2⟩ := Res.bind_ok (show (evC G cf c σd ⟨S.n, S.l, S.n⟩).bind (fun d S1 => leave S d S1) = .ok d S' from he)
  exact h.run ρ σd σ ⟨S.n, S.l, S.n⟩ H d1 S1 Q ⟨r.cell, r.inj⟩ rs e1 fun ρ' H' v n p => leave_ok (d := d1) r n p e2 k
/-! ### constants -/
mutual
def relD (K : PySem.W.Frag) : D → Value → Bool
  | .non, u => (match u with | .none => true | _ => false)
  | .bl b, u => (match u with | .bool c => b == c | _ => false)
  | .int i, u => (match u with | .int j _ => decide (i = j) | _ => false)
  | .str x, u => (match u with | .str y _ => decide (x = y) | _ => false)
  | .tup l, u => (match u with
    | .ref a => (match K.lookup a with
      | some ⟨.type c, _, .seq its _, _⟩ => decide (c = "tuple") && (decide (its.size ≤ sizeLine) && relDL K l its.toList)
      | _ => false)
    | _ => false)
  | _, _ => false
def relDL (K : PySem.W.Frag) : List D → List Value → Bool
  | [], us => us.isEmpty
  | d :: ds, us => (match us with
    | u :: us => relD K d u && relDL K ds us
    | _ => false)
end
mutual
theorem relD_ok {K : PySem.W.Frag} {L : Pl} : ∀ {d : D} {u : Value}, relD K d u = true → ∃ v, RelV v u ∧ ∀ H ρ n, Rp K L H ρ n d v
  | .non, u, h => by
    cases u with
    | none => exact ⟨.non, rfl, fun _ _ _ => rfl⟩
    | _ => cases h
  | .bl b, u, h => by
    cases u with
    | bool c =>
      have e : b = c := beq_iff_eq.mp (show (b == c) = true from h)
      subst e
      exact ⟨.bl b, rfl, fun _ _ _ => rfl⟩
    | _ => cases h
  | .int i, u, h => by
    cases u with
    | int j t =>
      have e : i = j := of_decide_eq_true h
      subst e
      exact ⟨.int i, ⟨t, rfl⟩, fun _ _ _ => rfl⟩
    | _ => cases h
  | .str x, u, h => by
    cases u with
    | str y t =>
      have e : x = y := of_decide_eq_true h
      subst e
      exact ⟨.str x, ⟨t, rfl⟩, fun _ _ _ => rfl⟩
    | _ => cases h
  | .tup l, u, h => by
    cases u with
    | ref a =>
      have h1 : (match K.lookup a with
        | some ⟨.type c, _, .seq its _, _⟩ => decide (c = "tuple") && (decide (its.size ≤ sizeLine) && relDL K l its.toList)
        | _ => false) = true := h
      split at h1
      · rename_i c od its n sl q
        obtain ⟨h2, h3⟩ := Bool.and_eq_true_iff.mp h1
        obtain ⟨h4, h5⟩ := Bool.and_eq_true_iff.mp h3
        obtain ⟨vs, r, p⟩ := relDL_ok (L := L) h5
        exact ⟨.ref a, rfl, fun H ρ m => ⟨a, vs, rfl, .inr ⟨_, its, n, q, congrArg Value.type (of_decide_eq_true h2), rfl, of_decide_eq_true h4, r⟩, p H ρ m⟩⟩
      · cases h1
    | _ => cases h
  | .ref _, u, h => by cases h
  | .kd _, u, h => by cases h
theorem relDL_ok {K : PySem.W.Frag} {L : Pl} : ∀ {ds : List D} {us : List Value}, relDL K ds us = true → ∃ vs, Vals vs us ∧ ∀ H ρ n, RpL K L H ρ n ds vs
  | [], us, h => by
    cases us with
    | nil => exact ⟨[], .nil, fun _ _ _ => RpL.nil⟩
    | cons _ _ => cases h
  | d :: ds, us, h => by
    cases us with
    | nil => cases h
    | cons u us =>
      obtain ⟨h1, h2⟩ := Bool.and_eq_true_iff.mp (show (relD K d u && relDL K ds us) = true from h)
      obtain ⟨v, r, p⟩ := relD_ok (L := L) h1
      obtain ⟨vs, rs, ps⟩ := relDL_ok (L := L) h2
      exact ⟨v :: vs, .cons r rs, fun H ρ n => RpL.cons (p H ρ n) (ps H ρ n)⟩
end
/-- a module's constant -/
def gvB (K : PySem.W.Frag) (x : Str) (d : D) : Bool := match PySem.W.nsIn K mainGlobals x with
  | some (some u) => relD K d u
  | _ => false
theorem gv_ok {X : Cx} {L : Pl} {h : Heap} {x : Str} {d : D} (HK : X.K.In h) (HG : h.Ns mainGlobals X.mg) (c : gvB X.K x d = true) : GvOk X L x d := by
  unfold gvB at c
  split at c
  · rename_i u q
    obtain ⟨v, r, p⟩ := relD_ok (L := L) c
    exact ⟨u, v, PySem.W.mg_of HK HG q, r, p⟩
  · cases c
/-! ### tables -/
def dlB (K : PySem.W.Frag) : List (Str × D) → List DictEntry → Bool
  | [], es => es.isEmpty
  | q :: t, es => (match es with
    | e :: es => (match e.key with | .str x _ => decide (x = q.1) | _ => false) && (relD K q.2 e.val && dlB K t es)
    | [] => false)
theorem dl_find {K : PySem.W.Frag} : ∀ {t : List (Str × D)} {es : List DictEntry}, dlB K t es = true → es.any (·.refKey) = false ∧ ∀ z : Str, (t.lookup z = none ∧ es.find? (·.key.isStr z) = none) ∨ ∃ x e, t.lookup z = some x ∧ es.find? (·.key.isStr z) = some e ∧ relD K x e.val = true
  | [], es, h => by
    cases es with
    | nil => exact ⟨rfl, fun z => .inl ⟨rfl, rfl⟩⟩
    | cons _ _ => cases h
  | q :: t, es, h => by
    cases es with
    | nil => cases h
    | cons e es =>
      obtain ⟨h1, h2⟩ := Bool.and_eq_true_iff.mp (show ((match e.key with | .str x _ => decide (x = q.1) | _ => false) && (relD K q.2 e.val && dlB K t es)) = true from h)
      obtain ⟨h3, h4⟩ := Bool.and_eq_true_iff.mp h2
      obtain ⟨i1, i2⟩ := dl_find h4
      split at h1
      · rename_i x tk ek
        have ex : x = q.1 := of_decide_eq_true h1
        refine ⟨?_, fun z => ?_⟩
        · rw [List.any_cons, i1, Bool.or_false]
          unfold DictEntry.refKey
          rw [ek]
        · cases hz : (z == q.1) with
          | true =>
            refine .inr ⟨q.2, e, by simp only [List.lookup, hz], ?_, h3⟩
            rw [List.find?_cons_of_pos]
            show e.key.isStr z = true
            rw [ek, ex]
            show (q.1 == z) = true
            rw [eq_of_beq hz]
            exact beq_self_eq_true _
          | false =>
            have e1 : ((q :: t).lookup z) = t.lookup z := by simp only [List.lookup, hz]
            have e2 : (e :: es).find? (·.key.isStr z) = es.find? (·.key.isStr z) := by
              refine List.find?_cons_of_neg ?_
              show ¬ e.key.isStr z = true
              rw [ek, ex]
              intro hh
              have hh2 : (q.1 == z) = true := hh
              rw [eq_of_beq hh2, beq_self_eq_true] at hz
              cases hz
            rw [e1, e2]
            exact i2 z
      · cases h1
def kdB (K : PySem.W.Frag) (a : Addr) (t : List (Str × D)) : Bool := match K.lookup a with
  | some ⟨_, _, .dict es _, _⟩ => dlB K t es.toList
  | _ => false
theorem kd_ok {X : Cx} {L : Pl} {i : Nat} {t : List (Str × D)} (hd : ∃ es n, KDict X.K X.w (L.kda i) es n) (c : kdB X.K (L.kda i) t = true) : KdOk X L i t := by
  refine ⟨hd, fun z => ?_⟩
  unfold kdB at c
  split at c
  · rename_i oc od es n sl q
    obtain ⟨h1, h2⟩ := dl_find c
    rcases h2 z with ⟨e1, e2⟩ | ⟨x, e, e1, e2, e3⟩
    · refine .inl ⟨e1, ?_⟩
      unfold PySem.W.nsIn
      rw [q]
      dsimp only
      rw [e2]
      dsimp only
      rw [if_neg (by rw [h1]; exact Bool.false_ne_true)]
    · obtain ⟨v, r, p⟩ := relD_ok (L := L) e3
      refine .inr ⟨x, e.val, v, e1, ?_, r, p⟩
      unfold PySem.W.nsIn
      rw [q]
      dsimp only
      rw [e2]
  · cases c
/-! ### properties, classes asked -/
def getter (K : PySem.W.Frag) (C f : Str) : Addr := match PySem.W.findIn K (.ref (He.ga K C)) f with
  | some (some (.ref p)) => (match PySem.W.recIn K p "property" with
    | some (.ref g :: _) => g
    | _ => 0)
  | _ => 0
def propB (K : PySem.W.Frag) (C f : Str) : Bool := match PySem.W.findIn K (.ref (He.ga K C)) f with
  | some (some (.ref p)) => decide (PySem.W.specialIn K (.ref p) "__get__" = some (some (.builtin "property.__get__"))) && (decide (PySem.W.takesIn K (.ref p) = some true) && (match PySem.W.recIn K p "property" with
    | some (.ref _ :: _) => true
    | _ => false))
  | _ => false
theorem prop_ok {K : PySem.W.Frag} {C f : Str} (c : propB K C f = true) : ∃ p, PropOf K (He.ga K C) f p (getter K C f) := by
  unfold propB at c
  unfold getter
  split at c
  · rename_i p q
    obtain ⟨h1, h2⟩ := Bool.and_eq_true_iff.mp c
    obtain ⟨h3, h4⟩ := Bool.and_eq_true_iff.mp h2
    split at h4
    · rename_i g rest e
      exact ⟨p, q, of_decide_eq_true h1, of_decide_eq_true h3, rest, e⟩
    · cases h4
  · cases c
def isiB (K : PySem.W.Frag) (C : Addr) : Bool := decide (PySem.W.findIn K (.ref C) "__class__" = some (some (.builtin "object.__class__"))) && (decide (PySem.W.specialIn K (.builtin "object.__class__") "__get__" = some (some (.builtin "getset_descriptor.__get__"))) &&
  (decide (PySem.W.takesIn K (.builtin "object.__class__") = some true) && decide (PySem.W.mroIn K C (.type "object") = some true)))
theorem isi_ok {X : Cx} {L : Pl} {c : Nat} (cl : Cls X.K (L.cla c)) (h : isiB X.K (L.cla c) = true) : IsiOk X L c := by
  obtain ⟨h1, h2⟩ := Bool.and_eq_true_iff.mp h
  obtain ⟨h3, h4⟩ := Bool.and_eq_true_iff.mp h2
  obtain ⟨h5, h6⟩ := Bool.and_eq_true_iff.mp h4
  exact ⟨cl, of_decide_eq_true h1, of_decide_eq_true h3, of_decide_eq_true h5, of_decide_eq_true h6⟩
def bts : List Bt := [.non, .bool, .int, .str, .list, .tuple, .dict]
def bks : List Tk := [.int, .bool, .str, .list, .tuple, .dict]
def kitB1 (K : PySem.W.Frag) (L : Pl) (c : Nat) : Bool := (bts.all fun b => decide (PySem.W.kitOne K (btV b) (.ref (L.cla c)) = some false)) && (bks.all fun t => decide (PySem.W.kitOne K (.ref (L.cla c)) (tkV L t) = some false))
theorem kbo_ok {K : PySem.W.Frag} {L : Pl} {c : Nat} (h : kitB1 K L c = true) (b : Bt) : PySem.W.kitOne K (btV b) (.ref (L.cla c)) = some false := by
  have h1 := List.all_eq_true.mp (Bool.and_eq_true_iff.mp h).1 b (by cases b <;> simp [bts])
  exact of_decide_eq_true h1
theorem kob_ok {K : PySem.W.Frag} {L : Pl} {c : Nat} (h : kitB1 K L c = true) (t : Tk) (ht : ∀ c', t ≠ .cls c') : PySem.W.kitOne K (.ref (L.cla c)) (tkV L t) = some false := by
  have h1 := List.all_eq_true.mp (Bool.and_eq_true_iff.mp h).2 t (by
    cases t with
    | cls c' => exact absurd rfl (ht c')
    | _ => simp [bks])
  exact of_decide_eq_true h1
def kitB2 (K : PySem.W.Frag) (L : Pl) (c c' : Nat) : Bool := decide (PySem.W.kitOne K (.ref (L.cla c')) (.ref (L.cla c)) = some (c == c'))
/-! ### the Hook -/
structure FD where
  ad : PySem.W.Frag → Addr
  d : He.DefD
def fnAt (K : PySem.W.Frag) (a : Addr) : He.FnW := match K.lookup a with
  | some ⟨_, _, .func fd, _⟩ => some (fd.name, fd.qualname, fd.params, fd.body, fd.scope, fd.globals, fd.closure, fd.builtins)
  | _ => none
def okAt (K : PySem.W.Frag) (a : Addr) (d : He.DefD) : Bool := PySem.W.keepIn K (.ref a) && (match K.lookup a with
  | some ⟨_, _, .func fd, _⟩ => PySem.W.codeIn K fd.code d.qual && (He.dflB K fd.defaults (d.dvs K) && He.kwdB K fd.kwdefaults (d.kws K))
  | _ => false)
abbrev IsAt (K : PySem.W.Frag) (i : FD) (fd : FuncData) : Prop := FunD K i.d.name i.d.qual i.d.params i.d.body i.d.scope (i.d.dvs K) (i.d.kws K) (i.ad K) fd
theorem isAt_of {K : PySem.W.Frag} {i : FD} (e : fnAt K (i.ad K) = i.d.val) (c : okAt K (i.ad K) i.d = true) : ∃ fd, IsAt K i fd := by
  obtain ⟨kp, c2⟩ := Bool.and_eq_true_iff.mp c
  unfold fnAt at e
  split at c2
  · rename_i oc od fd osl q
    rw [q] at e
    obtain ⟨n1, n2, n3, n4, n5, n6, n7, n8, n9, n10, n11, n12, n13, n14, n15⟩ := fd
    have e2 : (some (n1, n2, n3, n4, n5, n6, n7, n15) : He.FnW) = some (i.d.name, i.d.qual, i.d.params, .stmts i.d.body, i.d.scope, mainGlobals, [], builtinsNs) := e
    simp only [Option.some.injEq, Prod.mk.injEq] at e2
    obtain ⟨h1, h2, h3, h4, h5, h6, h7, h8⟩ := e2
    subst h1 h2 h3 h4 h5 h6 h7 h8
    obtain ⟨k1, k2⟩ := Bool.and_eq_true_iff.mp c2
    obtain ⟨k3, k4⟩ := Bool.and_eq_true_iff.mp k2
    exact ⟨_, ⟨oc, od, n8, n9, n10, n11, n12, n13, n14, osl, rfl, q, k1, He.dflB_ok k3, He.kwdB_ok k4⟩, kp⟩
  · cases c2
abbrev AlP : Type := (Bool × List He.FnW) × List (Option (List (Option (Str × Int))))
def obsP (fa : List He.Fa) (fn : List FD) (ts : List He.Tab) (ex : PySem.W.Frag → Bool) (K : PySem.W.Frag) : AlP :=
  (((fa.all fun f => f.ok K) && ((fn.all fun d => okAt K (d.ad K) d.d) && ex K), fn.map fun d => fnAt K (d.ad K)), ts.map fun t => He.dicW K (t.1 K))
def valP (fn : List FD) (ts : List He.Tab) (w : World) : AlP := ((true, fn.map fun d => d.d.val), ts.map fun t => some (He.keysIn w.params t.2))
def SaysP (fa : List He.Fa) (fn : List FD) (ts : List He.Tab) (ex : PySem.W.Frag → Bool) (w : World) (K : PySem.W.Frag) : Prop := obsP fa fn ts ex K = valP fn ts w
/-- what the module's names reach, step by step -/
def asP (g : Addr → Option Obj) : Nat → List Addr → List Addr
  | 0, as => as
  | n + 1, as => as ++ asP g n (as.flatMap fun a => match g a with
    | some o => He.refsD o
    | none => [])
def obsPG (n : Nat) (fa : List He.Fa) (fn : List FD) (ts : List He.Tab) (ex : PySem.W.Frag → Bool) (g : Addr → Option Obj) : AlP := obsP fa fn ts ex (He.frG g (asP g n [mainGlobals]))
def hookP (n : Nat) (fa : List He.Fa) (fn : List FD) (ts : List He.Tab) (ex : PySem.W.Frag → Bool) : PySem.W.Hook where
  α := AlP
  obs := fun s => obsPG n fa fn ts ex s.heap.get?
  val := fun w => valP fn ts w
  says := fun w h => ∃ K : PySem.W.Frag, K.In h ∧ SaysP fa fn ts ex w K
  of := fun _ _ e => ⟨_, He.frG_in, e⟩
  keeps := fun _ _ _ ⟨K, hK, c⟩ k => ⟨K, PySem.W.Frag.In.keeps hK k, c⟩
theorem obsPG_eq {n : Nat} {fa : List He.Fa} {fn : List FD} {ts : List He.Tab} {ex : PySem.W.Frag → Bool} {g : Addr → Option Obj} {s : Shared} (h : ∀ a, g a = s.heap.get? a) : obsPG n fa fn ts ex g = (hookP n fa fn ts ex).obs s := by
  have e : g = s.heap.get? := funext h
  rw [e] <;> rfl
section
variable {fa : List He.Fa} {fn : List FD} {ts : List He.Tab} {ex : PySem.W.Frag → Bool} {w : World} {K : PySem.W.Frag}
theorem SaysP.bools (c : SaysP fa fn ts ex w K) : ((fa.all fun f => f.ok K) && ((fn.all fun d => okAt K (d.ad K) d.d) && ex K)) = true := congrArg (fun z : AlP => z.1.1) c
theorem SaysP.fact (c : SaysP fa fn ts ex w K) (i : Nat) {f : He.Fa} (h : fa[i]? = some f := by rfl) : f.ok K = true :=
  List.all_eq_true.mp (Bool.and_eq_true_iff.mp c.bools).1 f (List.mem_of_getElem? h)
theorem SaysP.more (c : SaysP fa fn ts ex w K) : ex K = true := (Bool.and_eq_true_iff.mp (Bool.and_eq_true_iff.mp c.bools).2).2
theorem SaysP.def_ (c : SaysP fa fn ts ex w K) (i : Nat) {d : FD} (h : fn[i]? = some d) : ∃ fd, IsAt K d fd := by
  have e : fn.map (fun d => fnAt K (d.ad K)) = fn.map fun d => d.d.val := congrArg (fun z : AlP => z.1.2) c
  have e2 : (fn.map fun d => fnAt K (d.ad K))[i]? = (fn.map fun d => d.d.val)[i]? := by rw [e]
  rw [List.getElem?_map, List.getElem?_map, h] at e2
  exact isAt_of (Option.some.inj e2) (List.all_eq_true.mp (Bool.and_eq_true_iff.mp (Bool.and_eq_true_iff.mp c.bools).2).1 d (List.mem_of_getElem? h))
theorem SaysP.tab (c : SaysP fa fn ts ex w K) (i : Nat) {t : He.Tab} (h : ts[i]? = some t := by rfl) : ∃ es n, KDict K w (t.1 K) es n := by
  have e : ts.map (fun t => He.dicW K (t.1 K)) = ts.map fun t => some (He.keysIn w.params t.2) := congrArg (fun z : AlP => z.2) c
  have e2 : (ts.map fun t => He.dicW K (t.1 K))[i]? = (ts.map fun t => some (He.keysIn w.params t.2))[i]? := by rw [e]
  rw [List.getElem?_map, List.getElem?_map, h] at e2
  exact He.dicW_ok (Option.some.inj e2)
end
/-! ### a table of defs at addresses, levels -/
structure FJ where
  f : FD
  N : List Str
  ps : List Str
  code : Ss
def tabJ (T : List FJ) (f : Nat) : Option Fn := (T[f]?).map fun i => ⟨i.ps.length, i.N.length, i.code⟩
def AllJ (P : Program) (w : World) (K : PySem.W.Frag) (mg : Str → Option Value) (base : Heap) (L : Pl) (G : Gd) (T : List FJ) (l : Nat) : Prop :=
  ∀ (f : Nat) (i : FJ) (fd : FuncData), T[f]? = some i → IsAt K i.f fd → FnOk P w K mg base CX0 (2 * l) (i.f.ad K) fd i.ps (spD K L (callD G (tabJ T) l) f i.ps.length)
theorem all_j {P : Program} {w : World} {K : PySem.W.Frag} {mg : Str → Option Value} {base : Heap} {L : Pl} {G : Gd} {T : List FJ} (hs : ∀ (f : Nat) (i : FJ), T[f]? = some i → FnScope i.N i.ps i.f.d.scope)
    (hb : ∀ (f : Nat) (i : FJ) (fd : FuncData), T[f]? = some i → IsAt K i.f fd → ∀ l, AllJ P w K mg base L G T l → ∀ (cdv : Value) (A : Around) (outer : List Env) (s : Shared) (H : Hp) (E : XK), Room (2 * l + 1) (A.deeper (envOfC i.f.d.qual i.f.d.scope s.heap.objs.size (i.f.ad K) cdv)) →
      SimSs (cxOf CX0 P w K mg base i.N i.f.d.qual i.f.d.scope (i.f.ad K) cdv A outer s H E) L G (callD G (tabJ T) l) i.f.d.body i.code) : ∀ l, AllJ P w K mg base L G T l
  | 0, f, i, fd, hi, hF => fn_ok0
  | l + 1, f, i, fd, hi, hF => by
    have e : tabJ T f = some ⟨i.ps.length, i.N.length, i.code⟩ := by unfold tabJ; rw [hi]; rfl
    exact fn_ok (j := 2 * l + 1) hF (hs f i hi) e fun cdv A outer s H E hr => hb f i fd hi hF l (all_j hs hb l) cdv A outer s H E hr
/-- keywords for all that is not written, no defaults in use -/
theorem kbindsN {K : PySem.W.Frag} {x qual : Str} {params : Arguments} {body : List Stmt} {scope : Scope} {f : Addr} {fd : FuncData} {ps : List Str} (F : FunD K x qual params body scope [] [] f fd) (n : Nat) (ks : List Str)
    (h : ∀ (kV doc pm : Value) (an : Option Addr) (cdv ct : Value) (us ws : List Value), us.length = n → ws.length = ks.length → bindArgs (PySem.W.fnOf x qual params body scope .none kV doc pm an cdv ct) ⟨us, ks.zip ws⟩ = pure (ps.zip (us ++ ws))) :
    KBn K fd ps n ks (fun us ws => us ++ ws) (fun vs zs => vs ++ zs) := by
  obtain ⟨oc, od, dV, kV, doc, pm, an, cdv, ct, osl, rfl, lk, hcd, hD, hK⟩ := F.ex
  rcases hD with ⟨_, rfl⟩ | ⟨e, _⟩
  · exact ⟨fun s us ws X l1 l2 => BindsTo.of_eq (h kV doc pm an cdv ct us ws l1 l2), fun r1 r2 => r1.append r2⟩
  · exact absurd rfl e
theorem callJ_ar {G : Gd} {T : List FJ} {g : Nat} {i : FJ} (h : T[g]? = some i) (l : Nat) (as : List D) (S : Store) (d : D) (S' : Store) (e : callD G (tabJ T) l g as S = .ok d S') : as.length = i.ps.length :=
  callD_ar (fn := ⟨i.ps.length, i.N.length, i.code⟩) (by unfold tabJ; rw [h]; rfl) l as S d S' e
end PD

/-! PDD: the surroundings from what the head tells. -/
namespace PD
open PySem PySem.Spec PyProof.Rows L2
def gdOf (gvs : List D) (kts : List (List (Str × D))) (pt mt : List (Nat × Str × Nat)) (ft : List (Nat × Str)) (ic : List Nat) : Gd :=
  ⟨fun i => gvs[i]?, fun i => kts[i]?, fun c => (pt.filter (·.1 == c)).map (·.2), fun c => (mt.filter (·.1 == c)).map (·.2), fun c => (ft.filter (·.1 == c)).map (·.2), fun c => ic.contains c⟩
theorem look_tri {tri : List (Nat × Str × Nat)} {c : Nat} {f : Str} {g : Nat} (h : ((tri.filter (·.1 == c)).map (·.2)).lookup f = some g) : (c, f, g) ∈ tri := by
  have h1 := PySem.mem_of_lookup h
  obtain ⟨t, ht, e⟩ := List.mem_map.mp h1
  obtain ⟨h2, h3⟩ := List.mem_filter.mp ht
  have e1 : t.1 = c := beq_iff_eq.mp h3
  have e2 : t = (c, f, g) := by
    cases t with
    | mk a b =>
      have e3 : b = (f, g) := e
      rw [e3, show a = c from e1]
  rw [← e2]
  exact h2
theorem has_pair {l : List (Nat × Str)} {c : Nat} {f : Str} (h : ((l.filter (·.1 == c)).map (·.2)).contains f = true) : (c, f) ∈ l := by
  have h1 : f ∈ (l.filter (·.1 == c)).map (·.2) := List.contains_iff_mem.mp h
  obtain ⟨t, ht, e⟩ := List.mem_map.mp h1
  obtain ⟨h2, h3⟩ := List.mem_filter.mp ht
  have e1 : t.1 = c := beq_iff_eq.mp h3
  have e2 : t = (c, f) := by
    cases t with
    | mk a b =>
      have e3 : b = f := e
      rw [e3, show a = c from e1]
  rw [← e2]
  exact h2
section
variable {P : Program} {w : World} {K : PySem.W.Frag} {mg : Str → Option Value} {base : Heap} {L : Pl} {G : Gd} {T : List FJ} {l : Nat} {X : Cx}
/-- X is a def's body at the level l -/
structure At (P : Program) (w : World) (K : PySem.W.Frag) (mg : Str → Option Value) (base : Heap) (l : Nat) (X : Cx) : Prop where
  p : X.prog = P
  w : X.w = w
  k : X.K = K
  m : X.mg = mg
  b : X.base = base
  c : X.calm = true
  n : X.N.Nodup
  r : Room (2 * l + 1) X.A
theorem At.fn (a : At P w K mg base l X) (AJ : AllJ P w K mg base L G T l) {g : Nat} {j : FJ} {fd : FuncData} (hj : T[g]? = some j) (hF : IsAt K j.f fd) : FnAt X L (callD G (tabJ T) l) g j.ps.length (j.f.ad K) fd j.ps (2 * l) := by
  obtain ⟨h1, h2, h3, h4, h5, h6, h7, h8⟩ := a
  subst h1 h2 h3 h4 h5
  exact ⟨AJ g j fd hj hF, h8.mono (Nat.le_succ _), callJ_ar hj l⟩
theorem At.call (a : At P w K mg base l X) (AJ : AllJ P w K mg base L G T l) {g n : Nat} {j : FJ} {fd : FuncData} {x : Str} {sh : List Src} {ds : List Value} {dvs : List V} {dl : List D} (hj : T[g]? = some j) (hF : IsAt K j.f fd) (hm : mg x = some (.ref (j.f.ad K))) (hb : Binds K fd j.ps ds) (hv : Vals dvs ds) (hn : n + dvs.length = j.ps.length)
    (hs : ∀ as : List D, as.length = n → srcs as sh = some (as ++ dl)) (hd : ∀ H ρ m, RpL K L H ρ m dl dvs) : CallOk X L (callD G (tabJ T) l) x g n sh := by
  have F := a.fn AJ hj hF
  obtain ⟨h1, h2, h3, h4, h5, h6, h7, h8⟩ := a
  subst h3 h4
  exact ⟨⟨_, _, fd, _, _, ds, dvs, dl, F, hm, hF.kp, hb, hv, hn, hs, hd⟩⟩
theorem At.callK (a : At P w K mg base l X) (AJ : AllJ P w K mg base L G T l) {g n : Nat} {j : FJ} {fd : FuncData} {x : Str} {ks : List Str} {sh : List Src} (hj : T[g]? = some j) (hF : IsAt K j.f fd) (hm : mg x = some (.ref (j.f.ad K))) (hb : KBn K fd j.ps n ks (fun us ws => us ++ ws) (fun vs zs => vs ++ zs)) (hn : n + ks.length = j.ps.length)
    (hs : ∀ as es : List D, as.length = n → es.length = ks.length → srcs (as ++ es) sh = some (as ++ es)) : CallK X L (callD G (tabJ T) l) x g n ks sh := by
  have F := a.fn AJ hj hF
  obtain ⟨h1, h2, h3, h4, h5, h6, h7, h8⟩ := a
  subst h3 h4
  exact ⟨⟨_, _, fd, _, _, _, _, F, hm, hF.kp, hb, fun as es vs zs H ρ m p q l1 l2 => ⟨by rw [List.length_append, ← p.length, ← q.length, l1, l2]; exact hn, _, hs as es l1 l2, p.append q⟩⟩⟩
theorem At.mkK (a : At P w K mg base l X) (AJ : AllJ P w K mg base L G T l) {g n c : Nat} {j : FJ} {fd : FuncData} {x : Str} {ks : List Str} {sh : List Src} {gg : List Value → List Value → List Value} (hj : T[g]? = some j) (hF : IsAt K j.f fd) (M : Mk K (L.cla c) (j.f.ad K)) (hm : mg x = some (.ref (L.cla c))) (hb : KBn K fd j.ps (n + 1) ks gg (fun vs zs => vs ++ zs)) (hn : n + 1 + ks.length = j.ps.length)
    (hs : ∀ as es : List D, as.length = n + 1 → es.length = ks.length → srcs (as ++ es) sh = some (as ++ es)) : MkK X L (callD G (tabJ T) l) x c g n ks sh := by
  have F := a.fn AJ hj hF
  obtain ⟨h1, h2, h3, h4, h5, h6, h7, h8⟩ := a
  subst h3 h4
  exact ⟨⟨_, _, fd, _, 2 * l, _, _, F.ok, h8, M, hm, hb, fun as es vs zs H ρ m p q l1 l2 => ⟨by rw [List.length_append, ← p.length, ← q.length, l1, l2]; exact hn, _, hs as es l1 l2, p.append q⟩⟩⟩
theorem At.mkI (a : At P w K mg base l X) (AJ : AllJ P w K mg base L G T l) {g n c : Nat} {j : FJ} {fd : FuncData} {x : Str} {sh : List Src} {ds : List Value} {dvs : List V} {dl : List D} (hj : T[g]? = some j) (hF : IsAt K j.f fd) (M : Mk K (L.cla c) (j.f.ad K)) (hm : mg x = some (.ref (L.cla c))) (hb : Binds K fd j.ps ds) (hv : Vals dvs ds) (hn : n + 1 + dvs.length = j.ps.length)
    (hs : ∀ as : List D, as.length = n + 1 → srcs as sh = some (as ++ dl)) (hd : ∀ H ρ m, RpL K L H ρ m dl dvs) : MkOk X L (callD G (tabJ T) l) x c g n sh := by
  have F := a.fn AJ hj hF
  obtain ⟨h1, h2, h3, h4, h5, h6, h7, h8⟩ := a
  subst h3 h4
  exact ⟨⟨_, _, fd, _, 2 * l, ds, dvs, dl, F.ok, h8, M, hm, hb, hv, hn, hs, hd⟩⟩
/-- what stands behind the classes of gdOf -/
theorem At.env (a : At P w K mg base l X) {gvs : List D} {kts : List (List (Str × D))} {pt mt : List (Nat × Str × Nat)} {ft : List (Nat × Str)} {ic : List Nat} (AJ : AllJ P w K mg base L (gdOf gvs kts pt mt ft ic) T l)
    (hp : ∀ t ∈ pt, Cls K (L.cla t.1) ∧ ∃ p j fd, PropOf K (L.cla t.1) t.2.1 p (j.f.ad K) ∧ T[t.2.2]? = some j ∧ IsAt K j.f fd ∧ j.ps.length = 1 ∧ Binds K fd j.ps [])
    (hm : ∀ t ∈ mt, Cls K (L.cla t.1) ∧ ∃ j fd, Meth K (L.cla t.1) t.2.1 (j.f.ad K) ∧ T[t.2.2]? = some j ∧ IsAt K j.f fd ∧ Binds K fd j.ps [])
    (hf : ∀ t ∈ ft, Cls K (L.cla t.1) ∧ NoAttr K (L.cla t.1) t.2)
    (hk : ∀ i t, kts[i]? = some t → (∃ es n, KDict K w (L.kda i) es n) ∧ kdB K (L.kda i) t = true)
    (hi : ∀ c ∈ ic, Cls K (L.cla c) ∧ isiB K (L.cla c) = true ∧ kitB1 K L c = true ∧ ∀ c' ∈ ic, kitB2 K L c c' = true) : EnvOk X L (gdOf gvs kts pt mt ft ic) (callD (gdOf gvs kts pt mt ft ic) (tabJ T) l) := by
  have F := fun {g : Nat} {j : FJ} {fd : FuncData} (hj : T[g]? = some j) (hF : IsAt K j.f fd) => a.fn AJ hj hF
  obtain ⟨h1, h2, h3, h4, h5, h6, h7, h8⟩ := a
  subst h1 h2 h3 h4 h5
  refine ⟨h6, h7, ?_, fun c => ⟨fun f g e => ?_, fun m g e => ?_, fun f e => ?_⟩, fun i t e => ?_, fun c e => ?_, fun c b e => ?_, fun c t e ht => ?_, fun c c' e e' => ?_⟩
  · have := h8.un
    omega
  · obtain ⟨cl, p, j, fd, q, hj, hF, hl, hb⟩ := hp _ (look_tri e)
    have FF := F hj hF
    rw [hl] at FF
    exact ⟨cl, p, _, fd, _, _, q, FF.ok, h8, hb⟩
  · obtain ⟨cl, j, fd, q, hj, hF, hb⟩ := hm _ (look_tri e)
    exact ⟨cl, _, fd, _, _, _, q, F hj hF, hb, rfl⟩
  · exact hf _ (has_pair e)
  · obtain ⟨d, c⟩ := hk i t e
    exact kd_ok d c
  · have hc : c ∈ ic := List.contains_iff_mem.mp e
    exact isi_ok (hi c hc).1 (hi c hc).2.1
  · exact kbo_ok (hi c (List.contains_iff_mem.mp e)).2.2.1 b
  · exact kob_ok (hi c (List.contains_iff_mem.mp e)).2.2.1 t ht
  · exact of_decide_eq_true ((hi c (List.contains_iff_mem.mp e)).2.2.2 c' (List.contains_iff_mem.mp e'))
end
end PD

/-! PDE: the evaluator without codes: one function a node. -/
namespace PD
open PySem L2
abbrev SC := Sl → Store → Res D
abbrev SCs := Sl → Store → Res (List D)
abbrev SI := Sl → Store → Res Sq
abbrev SB := Sl → Store → Res Bool
abbrev SS := Sl → Store → Res Fl
section
variable (G : Gd) (cf : Nat → List D → Store → Res D)
def sLit (d : D) : SC := fun _ S => .ok d S
def sVar (i : Nat) : SC := fun σ S => (match σ[i]? with | some (some d) => .ok d S | _ => .stuck)
def sGlb (i : Nat) : SC := fun _ S => Res.of (G.gv i) S
def sOp (o : Op) (a b : SC) : SC := fun σ S => (a σ S).bind fun x S1 => (b σ S1).bind fun y S2 => evOp S2 o x y
def sUn (o : Un) (a : SC) : SC := fun σ S => (a σ S).bind fun x S1 => evUn S1 o x
def sCmp (o : Cm) (a b : SC) : SC := fun σ S => (a σ S).bind fun x S1 => (b σ S1).bind fun y S2 => Res.of ((evCm G S2 o x y).map .bl) S2
def sCmp2 (o p : Cm) (a b c : SC) : SC := fun σ S => (a σ S).bind fun x S1 => (b σ S1).bind fun y S2 => (Res.of (evCm G S2 o x y) S2).bind fun k S3 =>
    if k then (c σ S3).bind fun z S4 => Res.of ((evCm G S4 p y z).map .bl) S4 else .ok (.bl false) S3
def sAnd (a b : SC) : SC := fun σ S => (a σ S).bind fun x S1 => match x with
    | .bl true => b σ S1
    | .bl false => .ok (.bl false) S1
    | _ => .stuck
def sOr (a b : SC) : SC := fun σ S => (a σ S).bind fun x S1 => match x with
    | .bl true => .ok (.bl true) S1
    | .bl false => b σ S1
    | _ => .stuck
def sNot (a : SC) : SC := fun σ S => (a σ S).bind fun x S1 => Res.of ((truth S1 x).map fun b => .bl (!b)) S1
def sIte (t a b : SC) : SC := fun σ S => (t σ S).bind fun x S1 => (Res.of (truth S1 x) S1).bind fun k S2 => if k then a σ S2 else b σ S2
def sTup (l : SCs) : SC := fun σ S => (l σ S).bind fun ds S1 => if ds.length ≤ sizeLine then .ok (.tup ds) S1 else .stuck
def sLst (l : SCs) : SC := fun σ S => (l σ S).bind fun ds S1 => if ds.length ≤ sizeLine then .ok (.ref S1.n) (S1.push (.lst true ds)) else .stuck
def sCall (f : Nat) (sh : List Src) (l : SCs) : SC := fun σ S => (l σ S).bind fun ds S1 => (Res.of (srcs ds sh) S1).bind fun as S2 => cf f as S2
def sMk (c f : Nat) (sh : List Src) (l : SCs) : SC := fun σ S => (l σ S).bind fun ds S1 => (Res.of (srcs (.ref S1.n :: ds) sh) S1).bind fun as S2 => (cf f as (S2.push (.ins c []))).bind fun v S3 =>
    if isNon v then .ok (.ref S1.n) S3 else .stuck
def sMeth (o : SC) (m : Str) (l : SCs) : SC := fun σ S => (o σ S).bind fun x S1 => match x with
    | .ref i => (match S1.get i with
      | some (.ins c fs) => if (fs.lookup m).isNone then (Res.of ((G.meths c).lookup m) S1).bind fun f S2 => (l σ S2).bind fun ds S3 => cf f (.ref i :: ds) S3 else .stuck
      | _ => .stuck)
    | _ => .stuck
def sBlt (b : Bl) (l : SCs) : SC := fun σ S => (l σ S).bind fun ds S1 => evBl G S1 b ds
def sApp (o x : SC) : SC := fun σ S => (o σ S).bind fun a S1 => match a with
    | .ref i => (match S1.get i with
      | some (.lst _ _) => (x σ S1).bind fun d S2 => match S2.get i with
        | some (.lst true l) => if l.length < sizeLine then .ok .non (S2.set i (.lst true (l ++ [d]))) else .stuck
        | _ => .stuck
      | _ => .stuck)
    | _ => .stuck
def sDget (o x : SC) : SC := fun σ S => (o σ S).bind fun a S1 => match a with
    | .kd i => (x σ S1).bind fun d S2 => match d with
      | .str z => Res.of ((G.kdt i).map fun t => (t.lookup z).getD .non) S2
      | _ => .stuck
    | _ => .stuck
def sAttr (o : SC) (f : Str) : SC := fun σ S => (o σ S).bind fun x S1 => match x with
    | .ref i => (match S1.get i with
      | some (.ins c fs) => (match (G.props c).lookup f with
        | some g => cf g [.ref i] S1
        | none => if (G.flds c).contains f then Res.of (fs.lookup f) S1 else .stuck)
      | _ => .stuck)
    | _ => .stuck
def sSub (o i : SC) : SC := fun σ S => (o σ S).bind fun x S1 => (i σ S1).bind fun y S2 => Res.of (evSub S2 G x y) S2
def sScope (c : SC) : SC := fun σ S => (c σ ⟨S.n, S.l, S.n⟩).bind fun d S1 => leave S d S1
def sComp (it : SI) (tg : List Nat) (one : Bool) (own : List Nat) (ifs : SB) (elt : SC) : SC := fun σ S => (it σ S).bind fun q S1 =>
    (walkSq (fun x S2 => (Res.of (bindT one tg (wipeD σ own) x) S2).bind fun σ2 S3 => (ifs σ2 S3).bind fun k S4 => if k then (elt σ2 S4).bind fun y S5 => compPut S1.n y S5 else .ok () S4) q (S1.push (.bld 0 []))).bind fun _ S2 => compEnd S1.n S2
def sComp2 (it : SI) (tg : List Nat) (one : Bool) (it2 : SI) (tg2 : List Nat) (one2 : Bool) (own own2 : List Nat) (elt : SC) : SC := fun σ S => (it σ S).bind fun q S1 =>
    (walkSq (fun x S2 => (Res.of (bindT one tg (wipeD σ own) x) S2).bind fun σ2 S3 => (it2 σ2 S3).bind fun q2 S4 =>
      walkSq (fun y S5 => (Res.of (bindT one2 tg2 (wipeD σ2 own2) y) S5).bind fun σ3 S6 => (elt σ3 S6).bind fun z S7 => compPut S1.n z S7) q2 S4) q (S1.push (.bld 0 []))).bind fun _ S2 => compEnd S1.n S2
def sNil : SCs := fun _ S => .ok [] S
def sCons (c : SC) (r : SCs) : SCs := fun σ S => (c σ S).bind fun d S1 => (r σ S1).bind fun ds S2 => .ok (d :: ds) S2
def sIf0 : SB := fun _ S => .ok true S
def sIf1 (c : SC) (r : SB) : SB := fun σ S => (c σ S).bind fun d S1 => (Res.of (truth S1 d) S1).bind fun k S2 => if k then r σ S2 else .ok false S2
def sSeq (c : SC) : SI := fun σ S => (c σ S).bind fun d S1 => Res.of (sqOf S1 d) S1
def sRng1 (a : SC) : SI := fun σ S => (a σ S).bind fun d S1 => match d with
    | .int j => if -(2 ^ 62) ≤ j ∧ j < 2 ^ 62 then .ok (.fix (rangeL 0 j.toNat)) S1 else .stuck
    | _ => .stuck
def sRng2 (a b : SC) : SI := fun σ S => (a σ S).bind fun d S1 => (b σ S1).bind fun e S2 => match d, e with
    | .int i, .int j => if -(2 ^ 62) ≤ i ∧ i < 2 ^ 62 ∧ -(2 ^ 62) ≤ j ∧ j < 2 ^ 62 then .ok (.fix (rangeL i (j - i).toNat)) S2 else .stuck
    | _, _ => .stuck
def sZip (a b : SC) : SI := fun σ S => (a σ S).bind fun d S1 => (b σ S1).bind fun e S2 => match itemsOf d, itemsOf e with
    | some l, some m => .ok (.fix (zipD l m)) S2
    | _, _ => .stuck
def tAsg (i : Nat) (c : SC) : SS := fun σ S => (c σ S).bind fun d S1 => .ok (.nx (σ.set i (some d))) S1
def tAsgT (is : List Nat) (c : SC) : SS := fun σ S => (c σ S).bind fun d S1 => match d with
    | .tup l => (Res.of (setAll σ is l) S1).bind fun σ1 S2 => .ok (.nx σ1) S2
    | _ => .stuck
def tSetI (o i v : SC) : SS := fun σ S => (v σ S).bind fun x S1 => (o σ S1).bind fun a S2 => (i σ S2).bind fun y S3 => match a, y with
    | .ref p, .int k => (match S3.get p with
      | some (.lst true l) => (match ixN l.length k with
        | some j => .ok (.nx σ) (S3.set p (.lst true (l.set j x)))
        | none => .stuck)
      | _ => .stuck)
    | _, _ => .stuck
def tSetF (o : SC) (f : Str) (v : SC) : SS := fun σ S => (v σ S).bind fun x S1 => (o σ S1).bind fun a S2 => match a with
    | .ref p => (match S2.get p with
      | some (.ins c fs) => if (G.flds c).contains f = true ∧ fs.length < 1000 then .ok (.nx σ) (S2.set p (.ins c (putD f x fs))) else .stuck
      | _ => .stuck)
    | _ => .stuck
def tExpr (c : SC) : SS := fun σ S => (c σ S).bind fun _ S1 => .ok (.nx σ) S1
def tIfs (t : SC) (a b : SS) : SS := fun σ S => (t σ S).bind fun x S1 => (Res.of (truth S1 x) S1).bind fun k S2 => if k then a σ S2 else b σ S2
def tFor1 (it : SI) (tg : List Nat) (one : Bool) (b : SS) : SS := fun σ S => (it σ S).bind fun q S1 => loopSq (fun x σ1 S2 => (Res.of (bindT one tg σ1 x) S2).bind fun σ2 S3 => b σ2 S3) q σ S1
def tRet (c : SC) : SS := fun σ S => (c σ S).bind fun d S1 => .ok (.rt d) S1
def tRetN : SS := fun _ S => .ok (.rt .non) S
def tPass : SS := fun σ S => .ok (.nx σ) S
def tBrk : SS := fun σ S => .ok (.bk σ) S
def tCnt : SS := fun σ S => .ok (.ct σ) S
def tNever : SS := fun _ _ => .stuck
def tMat (c : SC) (ms : Str → SS) : SS := fun σ S => (c σ S).bind fun d S1 => match d with
    | .str x => ms x σ S1
    | _ => .stuck
def tMs0 : Str → SS := fun _ σ S => .ok (.nx σ) S
def tMs (y : Str) (b : SS) (r : Str → SS) : Str → SS := fun x σ S => if y = x then b σ S else r x σ S
def tNil : SS := fun σ S => .ok (.nx σ) S
def tCons (s r : SS) : SS := fun σ S => (s σ S).bind fun f S1 => match f with
    | .nx σ1 => r σ1 S1
    | f => .ok f S1
end
/-- a table of such; a body is told the level of what it calls -/
structure Sn where
  ar : Nat
  k : Nat
  body : Nat → (Nat → List D → Store → Res D) → SS
def callS (F : Nat → Option Sn) : Nat → Nat → List D → Store → Res D
  | 0, _, _, _ => .stuck
  | l + 1, f, as, S => match F f with
    | none => .stuck
    | some fn => if as.length = fn.ar then (fn.body l (callS F l) (start fn.k as) ⟨S.n, S.l, S.n⟩).bind fun r S1 => match r with
      | .rt d => leave S d S1
      | .nx _ => leave S .non S1
      | _ => .stuck else .stuck
theorem callS_eq {G : Gd} {T : Nat → Option Fn} {F : Nat → Option Sn} (h : ∀ l f, (T f = none ∧ F f = none) ∨ ∃ a b, T f = some a ∧ F f = some b ∧ a.ar = b.ar ∧ a.k = b.k ∧ exSs G (callD G T l) a.body = b.body l (callD G T l)) : ∀ l, callD G T l = callS F l
  | 0 => rfl
  | l + 1 => by
    funext f as S
    show (match T f with
      | none => Res.stuck
      | some fn => if as.length = fn.ar then (exSs G (callD G T l) fn.body (start fn.k as) ⟨S.n, S.l, S.n⟩).bind (fun r S1 => match r with
        | .rt d => leave S d S1
        | .nx _ => leave S .non S1
        | _ => .stuck) else .stuck) = (match F f with
      | none => Res.stuck
      | some fn => if as.length = fn.ar then (fn.body l (callS F l) (start fn.k as) ⟨S.n, S.l, S.n⟩).bind (fun r S1 => match r with
        | .rt d => leave S d S1
        | .nx _ => leave S .non S1
        | _ => .stuck) else .stuck)
    rcases h l f with ⟨h1, h2⟩ | ⟨a, b, h1, h2, h3, h4, h5⟩
    · rw [h1, h2]
    · rw [h1, h2]
      dsimp only
      rw [h3, h4, h5, callS_eq h l]
end PD

/-! PDF: a comprehension whose element makes nothing, as a plain list. -/
namespace PD
open PySem L2
/-- a list under way at the top -/
def bs (n : Nat) (L : List Cell) (w m : Nat) (acc : List D) : Store := ⟨n + 1, .bld m acc :: L, w⟩
theorem bs_get {n : Nat} {L : List Cell} {w m : Nat} {acc : List D} {i : Nat} (h : i < n) : (bs n L w m acc).get i = (⟨n, L, w⟩ : Store).get i := Store.get_old (S := ⟨n, L, w⟩) (c := .bld m acc) h
theorem bs_top {n : Nat} {L : List Cell} {w m : Nat} {acc : List D} : (bs n L w m acc).get n = some (.bld m acc) := Store.get_push (S := ⟨n, L, w⟩)
theorem bs_put {n : Nat} {L : List Cell} {w m : Nat} {acc : List D} {y : D} (hw : w ≤ n) (hm : m < sizeLine) : compPut n y (bs n L w m acc) = .ok () (bs n L w (m + 1) (y :: acc)) := by
  have hb : Nat.blt m sizeLine = true := Nat.ble_eq_true_of_le hm
  unfold compPut
  rw [bs_top]
  dsimp only
  rw [if_pos hb]
  unfold bs Store.set
  simp
  omega
theorem bs_end {n : Nat} {L : List Cell} {w m : Nat} {acc : List D} (hw : w ≤ n) : compEnd n (bs n L w m acc) = .ok (.ref n) ⟨n + 1, .lst true acc.reverse :: L, w⟩ := by
  unfold compEnd
  rw [bs_top]
  unfold bs Store.set
  simp
  omega
/-- turns that put -/
def Puts (turn : D → Store → Res Unit) (n : Nat) (L : List Cell) (w : Nat) (x : D) (ys : List D) : Prop := ∀ m acc, m + ys.length ≤ sizeLine → turn x (bs n L w m acc) = .ok () (bs n L w (m + ys.length) (ys.reverse ++ acc))
theorem live_puts {turn : D → Store → Res Unit} {n : Nat} {L : List Cell} {w i : Nat} {wr : Bool} {xs : List D} {g : D → List D} (hi : i < n) (hg : (⟨n, L, w⟩ : Store).get i = some (.lst wr xs)) (ht : ∀ x ∈ xs, Puts turn n L w x (g x)) :
    ∀ (k j : Nat) (m : Nat) (acc : List D), j + k = xs.length → m + ((xs.drop j).flatMap g).length ≤ sizeLine → walkLive turn i k j (bs n L w m acc) = .ok () (bs n L w (m + ((xs.drop j).flatMap g).length) (((xs.drop j).flatMap g).reverse ++ acc))
  | 0, j, m, acc, h, hl => by
    have hd : xs.drop j = [] := List.drop_eq_nil_of_le (by omega)
    rw [hd]
    show (match (bs n L w m acc).get i with
      | some (.lst _ l) => if l.length ≤ j then Res.ok () (bs n L w m acc) else .stuck
      | _ => .stuck) = _
    rw [bs_get hi, hg]
    dsimp only
    rw [if_pos (by omega)]
    rfl
  | k + 1, j, m, acc, h, hl => by
    have hj : j < xs.length := by omega
    have hd : xs.drop j = xs[j] :: xs.drop (j + 1) := List.drop_eq_getElem_cons hj
    rw [hd, List.flatMap_cons, List.length_append] at hl
    rw [hd, List.flatMap_cons]
    show (match (bs n L w m acc).get i with
      | some (.lst _ l) => (match l[j]? with
        | none => Res.ok () (bs n L w m acc)
        | some x => (turn x (bs n L w m acc)).bind fun _ S1 => walkLive turn i k (j + 1) S1)
      | _ => .stuck) = _
    rw [bs_get hi, hg]
    dsimp only
    rw [List.getElem?_eq_getElem hj]
    dsimp only
    rw [ht xs[j] (List.getElem_mem hj) m acc (by omega)]
    show walkLive turn i k (j + 1) _ = _
    rw [live_puts hi hg ht k (j + 1) _ _ (by omega) (by omega)]
    rw [List.length_append, List.reverse_append, List.append_assoc, Nat.add_assoc]
/-- [row + (bit,) for row in rows for bit in bits] -/
def tupl : D → List D
  | .tup l => l
  | _ => []
def isT : D → Bool
  | .tup l => Nat.blt l.length sizeLine
  | _ => false
def prodD (xs ys : List D) : List D := xs.flatMap fun x => ys.map fun y => .tup (tupl x ++ [y])
theorem prod_run {n : Nat} {L : List Cell} {w a b : Nat} {wx wy : Bool} {xs ys : List D} {tg tg2 : List Nat} {own own2 : List Nat} {σ : Sl} {cf : Nat → List D → Store → Res D} {G : Gd} {elt it it2 : C} (hw : w ≤ n)
    (hx : (⟨n, L, w⟩ : Store).get a = some (.lst wx xs)) (hy : (⟨n, L, w⟩ : Store).get b = some (.lst wy ys)) (ht : xs.all isT = true) (hl : (prodD xs ys).length ≤ sizeLine)
    (e1 : evC G cf it σ ⟨n, L, w⟩ = .ok (.ref a) ⟨n, L, w⟩)
    (σ2 : D → Sl) (b1 : ∀ x, bindT true tg (wipeD σ own) x = some (σ2 x)) (e2 : ∀ x S, evC G cf it2 (σ2 x) S = .ok (.ref b) S)
    (σ3 : D → D → Sl) (b2 : ∀ x y, bindT true tg2 (wipeD (σ2 x) own2) y = some (σ3 x y)) (e3 : ∀ l y S, l.length < sizeLine → evC G cf elt (σ3 (.tup l) y) S = .ok (.tup (l ++ [y])) S) :
    evC G cf (.comp2 (.seq it) tg true (.seq it2) tg2 true own own2 elt) σ ⟨n, L, w⟩ = .ok (.ref n) ⟨n + 1, .lst true (prodD xs ys) :: L, w⟩ := by
  have ha : a < n := Store.lt hx
  have hb : b < n := Store.lt hy
  show ((evC G cf it σ ⟨n, L, w⟩).bind fun d S1 => Res.of (sqOf S1 d) S1).bind (fun q S1 =>
    (walkSq (fun x S2 => (Res.of (bindT true tg (wipeD σ own) x) S2).bind fun σ2 S3 => (evIt G cf (.seq it2) σ2 S3).bind fun q2 S4 =>
      walkSq (fun y S5 => (Res.of (bindT true tg2 (wipeD σ2 own2) y) S5).bind fun σ3 S6 => (evC G cf elt σ3 S6).bind fun z S7 => compPut S1.n z S7) q2 S4) q (S1.push (.bld 0 []))).bind fun _ S2 => compEnd S1.n S2) = _
  rw [e1]
  show (Res.of (match (⟨n, L, w⟩ : Store).get a with | some (.lst _ l) => some (Sq.live a l.length) | _ => none) (⟨n, L, w⟩ : Store)).bind _ = _
  rw [hx]
  show (walkLive _ a xs.length 0 (bs n L w 0 [])).bind _ = _
  rw [live_puts (g := fun x => ys.map fun y => .tup (tupl x ++ [y])) ha hx (fun x hxm => ?_) xs.length 0 0 [] (Nat.zero_add _) (by rw [Nat.zero_add, List.drop_zero]; exact hl)]
  · show compEnd n (bs n L w _ _) = _
    rw [bs_end hw]
    rw [List.drop_zero, List.append_nil, List.reverse_reverse]
    rfl
  · intro m acc hm
    have hxt := List.all_eq_true.mp ht x hxm
    cases x with
    | tup l =>
      have hll : l.length < sizeLine := Nat.le_of_ble_eq_true hxt
      show (Res.of (bindT true tg (wipeD σ own) (.tup l)) (bs n L w m acc)).bind _ = _
      rw [b1]
      show ((evC G cf it2 (σ2 (.tup l)) (bs n L w m acc)).bind fun d S1 => Res.of (sqOf S1 d) S1).bind _ = _
      rw [e2]
      show (Res.of (match (bs n L w m acc).get b with | some (.lst _ l) => some (Sq.live b l.length) | _ => none) (bs n L w m acc)).bind _ = _
      rw [bs_get hb, hy]
      show walkLive _ b ys.length 0 (bs n L w m acc) = _
      have hf : ((ys.drop 0).flatMap fun y => [D.tup (l ++ [y])]) = ys.map fun y => .tup (l ++ [y]) := by
        rw [List.drop_zero]
        exact (List.map_eq_flatMap ..).symm
      rw [live_puts (g := fun y => [.tup (l ++ [y])]) hb hy (fun y hym m2 acc2 hm2 => ?_) ys.length 0 m acc (Nat.zero_add _) (by rw [hf]; exact hm), hf]
      · rfl
      · show (Res.of (bindT true tg2 (wipeD (σ2 (.tup l)) own2) y) (bs n L w m2 acc2)).bind _ = _
        rw [b2]
        show (evC G cf elt (σ3 (.tup l) y) (bs n L w m2 acc2)).bind _ = _
        rw [e3 l y _ hll]
        exact bs_put hw hm2
    | _ => cases hxt
theorem prodD_len (xs ys : List D) : (prodD xs ys).length = xs.length * ys.length := by
  unfold prodD
  induction xs with
  | nil => simp
  | cons x xs ih =>
    rw [List.flatMap_cons, List.length_append, ih, List.length_map, List.length_cons, Nat.succ_mul, Nat.add_comm]
end PD

namespace Cd
open PySem PySem.Spec PyProof.Rows L2 PD
/-- law -/
def c0 : Ss := .cons (.ifs (.not (.call 1 [.arg 0, .arg 1] (.cons (.lit (.int (2))) (.cons (.lit (.int (4))) (.nil))))) (.cons (.ret (.lit (.bl false))) (.nil)) (.nil)) (.cons (.ifs (.cmp .eq (.var 0) (.lst (.nil))) (.cons (.ret (.lit (.bl true))) (.nil)) (.nil)) (.cons (.asg 1 (.call 3 [.arg 0, .arg 1] (.cons (.var 0) (.cons (.lit (.int (0))) (.nil))))) (.cons (.asg 2 (.op .add (.lit (.int (2))) (.call 2 [.arg 0, .arg 1] (.cons (.var 1) (.cons (.lit (.int (2))) (.nil)))))) (.cons (.ret (.call 1 [.arg 0, .arg 1] (.cons (.var 2) (.cons (.op .add (.op .add (.var 2) (.lit (.int (2)))) (.call 2 [.arg 0, .arg 1] (.cons (.var 1) (.cons (.op .sub (.lit (.int (5))) (.var 2)) (.nil))))) (.nil))))) (.nil)))))
/-- _law_right -/
def c1 : Ss := .cons (.for1 (.seq (.lst (.cons (.lit (.str ⟨#[115, 104, 114]⟩)) (.cons (.lit (.str ⟨#[115, 97, 114]⟩)) (.cons (.lit (.str ⟨#[117, 108, 116]⟩)) (.cons (.lit (.str ⟨#[101, 113, 117]⟩)) (.cons (.lit (.str ⟨#[115, 108, 116]⟩)) (.nil)))))))) [2] true (.cons (.asg 3 (.call 8 [.arg 0] (.cons (.var 2) (.nil)))) (.cons (.for1 (.seq (.call 4 [.arg 0] (.cons (.attr (.var 3) ⟨#[97, 114, 105, 116, 121]⟩) (.nil)))) [4] true (.cons (.asg 5 (.call 7 [.arg 0, .arg 1, .arg 2, .arg 3] (.cons (.var 2) (.cons (.var 4) (.cons (.var 0) (.cons (.var 1) (.nil))))))) (.cons (.ifs (.cmp .ne (.cmp .isN (.var 5) (.lit (.non))) (.meth (.var 3) ⟨#[104, 111, 108, 100, 115]⟩ (.cons (.var 4) (.nil)))) (.cons (.ret (.lit (.bl false))) (.nil)) (.nil)) (.nil)))) (.nil)))) (.cons (.ret (.lit (.bl true))) (.nil))
/-- _law_take -/
def c2 : Ss := .cons (.ifs (.cmp .gt (.sub (.var 0) (.lit (.int (0)))) (.lit (.int (0)))) (.cons (.asg 2 (.op .mod (.blt .int1 (.cons (.sub (.var 0) (.lit (.int (0)))) (.nil))) (.var 1))) (.cons (.setI (.var 0) (.lit (.int (0))) (.op .fdiv (.sub (.var 0) (.lit (.int (0)))) (.var 1))) (.cons (.ret (.var 2)) (.nil)))) (.nil)) (.cons (.setI (.var 0) (.lit (.int (1))) (.op .mod (.blt .int1 (.cons (.op .add (.op .mul (.sub (.var 0) (.lit (.int (1)))) (.lit (.int (48271)))) (.lit (.int (11)))) (.nil))) (.lit (.int (2147483647))))) (.cons (.ret (.op .mod (.op .fdiv (.op .mod (.blt .int1 (.cons (.op .mul (.sub (.var 0) (.lit (.int (1)))) (.sub (.var 0) (.lit (.int (1))))) (.nil))) (.lit (.int (2147483629)))) (.lit (.int (64)))) (.var 1))) (.nil)))
/-- _law_pool -/
def c3 : Ss := .cons (.asg 2 (.ite (.cmp .lt (.var 1) (.blt .len (.cons (.var 0) (.nil)))) (.sub (.var 0) (.var 1)) (.lit (.int (0))))) (.cons (.asg 3 (.op .mul (.blt .int1 (.cons (.op .add (.op .add (.op .mod (.blt .int1 (.cons (.var 2) (.nil))) (.lit (.int (2147483629)))) (.op .mul (.op .mul (.lit (.int (7919))) (.var 1)) (.var 1))) (.lit (.int (13)))) (.nil))) (.lit (.int (48271))))) (.cons (.ret (.lst (.cons (.ite (.cmp .ge (.var 2) (.op .pow (.lit (.int (10))) (.lit (.int (18))))) (.var 2) (.lit (.int (0)))) (.cons (.op .add (.op .mod (.blt .int1 (.cons (.var 3) (.nil))) (.lit (.int (2147483647)))) (.lit (.int (1)))) (.nil))))) (.nil)))
/-- _law_rows -/
def c4 : Ss := .cons (.asg 1 (.lst (.cons (.lst (.nil)) (.nil)))) (.cons (.for1 (.range1 (.var 0)) [2] true (.cons (.asg 3 (.lst (.nil))) (.cons (.for1 (.seq (.var 1)) [4] true (.cons (.asg 3 (.op .add (.var 3) (.comp (.seq (.lst (.cons (.lit (.str ⟨#[]⟩)) (.cons (.lit (.str ⟨#[122]⟩)) (.cons (.lit (.str ⟨#[115]⟩)) (.cons (.lit (.str ⟨#[122, 115]⟩)) (.nil))))))) [5] true [5] (.nil) (.op .add (.var 4) (.lst (.cons (.var 5) (.nil))))))) (.nil))) (.cons (.asg 1 (.var 3)) (.nil))))) (.cons (.ret (.var 1)) (.nil)))
/-- Operation.arity -/
def c5 : Ss := .cons (.ret (.attr (.var 0) ⟨#[95, 97, 114, 105, 116, 121]⟩)) (.nil)
/-- Operation.holds -/
def c6 : Ss := .cons (.ret (.call 9 [.arg 0, .arg 1] (.cons (.attr (.var 0) ⟨#[95, 110, 101, 101, 100, 115]⟩) (.cons (.call 10 [.arg 0, .arg 1] (.cons (.var 0) (.cons (.var 1) (.nil)))) (.nil))))) (.nil)
/-- difference -/
def c7 : Ss := .cons (.asg 4 (.call 15 [.arg 0, .arg 1] (.cons (.var 1) (.cons (.attr (.call 16 [.arg 0] (.cons (.var 0) (.nil))) ⟨#[97, 114, 105, 116, 121]⟩) (.nil))))) (.cons (.ifs (.cmp .isN (.var 4) (.lit (.non))) (.cons (.never) (.nil)) (.nil)) (.cons (.expr (.call 14 [.arg 0, .arg 1, .arg 2] (.cons (.var 2) (.cons (.var 3) (.cons (.glb 3) (.nil)))))) (.cons (.asg 5 (.lst (.cons (.tup (.nil)) (.nil)))) (.cons (.for1 (.seq (.var 4)) [6] true (.cons (.asg 8 (.call 13 [.arg 0, .arg 1, .arg 2] (.cons (.var 6) (.cons (.var 2) (.cons (.var 3) (.nil)))))) (.cons (.asg 5 (.comp2 (.seq (.var 5)) [7] true (.seq (.var 8)) [9] true [7, 9] [9] (.op .add (.var 7) (.tup (.cons (.var 9) (.nil)))))) (.nil)))) (.cons (.for1 (.seq (.var 5)) [7] true (.cons (.ifs (.call 11 [.arg 0, .arg 1, .arg 2, .arg 3] (.cons (.var 0) (.cons (.var 7) (.cons (.var 2) (.cons (.var 3) (.nil)))))) (.cons (.ret (.scope (.blt .tuple1 (.cons (.comp (.seq (.var 7)) [9] true [9] (.nil) (.mk 10 12 [.arg 0, .arg 1, .arg 2, .arg 3] (.cons (.var 9) (.cons (.var 2) (.cons (.var 3) (.nil)))))) (.nil))))) (.nil)) (.nil)) (.nil))) (.cons (.ret (.lit (.non))) (.nil)))))))
/-- known -/
def c8 : Ss := .cons (.ifs (.not (.call 18 [.arg 0] (.cons (.var 0) (.nil)))) (.cons (.never) (.nil)) (.nil)) (.cons (.asgT [1, 2, 3, 4] (.sub (.glb 5) (.var 0))) (.cons (.ret (.mk 9 17 [.arg 0, .arg 1, .arg 2, .arg 3, .arg 4] (.cons (.var 1) (.cons (.var 2) (.cons (.var 3) (.cons (.var 4) (.nil))))))) (.nil)))
/-- one_holds -/
def c9 : Ss := .cons (.ret (.scope (.blt .any (.cons (.comp (.seq (.var 0)) [2] true [2] (.nil) (.call 19 [.arg 0, .arg 1] (.cons (.var 2) (.cons (.var 1) (.nil))))) (.nil))))) (.nil)
/-- _operand_marks -/
def c10 : Ss := .cons (.asg 2 (.call 15 [.arg 0, .arg 1] (.cons (.var 1) (.cons (.attr (.var 0) ⟨#[97, 114, 105, 116, 121]⟩) (.nil))))) (.cons (.ifs (.cmp .isN (.var 2) (.lit (.non))) (.cons (.never) (.nil)) (.nil)) (.cons (.ret (.var 2)) (.nil)))
/-- _differs -/
def c11 : Ss := .cons (.asg 4 (.call 21 [.arg 0] (.cons (.var 2) (.nil)))) (.cons (.asg 5 (.op .band (.call 20 [.arg 0, .arg 1, .arg 2] (.cons (.var 0) (.cons (.var 1) (.cons (.var 3) (.nil))))) (.var 4))) (.cons (.ret (.cmp .ne (.var 5) (.call 20 [.arg 0, .arg 1, .arg 2] (.cons (.var 0) (.cons (.comp (.seq (.var 1)) [6] true [6] (.nil) (.op .band (.var 6) (.var 4))) (.cons (.var 2) (.nil))))))) (.nil)))
/-- Wide.__init__ -/
def c12 : Ss := .cons (.ifs (.not (.call 22 [.arg 0] (.cons (.var 1) (.nil)))) (.cons (.never) (.nil)) (.nil)) (.cons (.expr (.call 14 [.arg 0, .arg 1, .lit (.int (32))] (.cons (.var 2) (.cons (.var 3) (.nil))))) (.cons (.setF (.var 0) ⟨#[95, 98, 105, 116, 115]⟩ (.op .band (.var 1) (.call 21 [.arg 0] (.cons (.var 3) (.nil))))) (.cons (.setF (.var 0) ⟨#[95, 110, 97, 114, 114, 111, 119]⟩ (.var 2)) (.cons (.setF (.var 0) ⟨#[95, 119, 105, 100, 101]⟩ (.var 3)) (.nil)))))
/-- _dressed_bits -/
def c13 : Ss := .cons (.asg 3 (.lst (.nil))) (.cons (.for1 (.range1 (.op .shl (.lit (.int (1))) (.var 2))) [4] true (.cons (.asg 5 (.call 23 [.arg 0, .arg 1, .arg 2] (.cons (.var 4) (.cons (.var 1) (.cons (.var 2) (.nil)))))) (.cons (.ifs (.scope (.blt .all (.cons (.comp (.seq (.var 0)) [6] true [6] (.nil) (.cmp .in_ (.var 6) (.var 5))) (.nil)))) (.cons (.expr (.app (.var 3) (.var 4))) (.nil)) (.nil)) (.nil)))) (.cons (.ret (.var 3)) (.nil)))
/-- check_sizes -/
def c14 : Ss := .cons (.ifs (.not (.call 24 [.arg 0, .arg 1, .arg 2] (.cons (.var 0) (.cons (.lit (.int (2))) (.cons (.lit (.int (30))) (.nil)))))) (.cons (.never) (.nil)) (.nil)) (.cons (.ifs (.not (.call 24 [.arg 0, .arg 1, .arg 2] (.cons (.var 1) (.cons (.op .add (.var 0) (.lit (.int (2)))) (.cons (.var 2) (.nil)))))) (.cons (.never) (.nil)) (.nil)) (.nil))
/-- all_marks -/
def c15 : Ss := .cons (.ifs (.or (.not (.call 26 [.arg 0] (.cons (.var 0) (.nil)))) (.cmp .ne (.blt .len (.cons (.var 0) (.nil))) (.var 1))) (.cons (.ret (.lit (.non))) (.nil)) (.nil)) (.cons (.asg 2 (.scope (.blt .tuple1 (.cons (.comp (.seq (.var 0)) [3] true [3] (.nil) (.call 25 [.arg 0] (.cons (.var 3) (.nil)))) (.nil))))) (.cons (.ifs (.cmp .in_ (.lit (.non)) (.var 2)) (.cons (.ret (.lit (.non))) (.nil)) (.nil)) (.cons (.ret (.var 2)) (.nil))))
/-- _reckoned_operation -/
def c16 : Ss := .cons (.asg 1 (.call 8 [.arg 0] (.cons (.var 0) (.nil)))) (.cons (.ifs (.or (.cmp .eq (.attr (.var 1) ⟨#[97, 114, 105, 116, 121]⟩) (.lit (.int (0)))) (.cmp .eq (.var 0) (.lit (.str ⟨#[115, 116, 111, 114, 101]⟩)))) (.cons (.never) (.nil)) (.nil)) (.cons (.ret (.var 1)) (.nil)))
/-- Operation.__init__ -/
def c17 : Ss := .cons (.ifs (.not (.call 24 [.arg 0, .arg 1, .arg 2] (.cons (.var 1) (.cons (.lit (.int (0))) (.cons (.lit (.int (3))) (.nil)))))) (.cons (.never) (.nil)) (.nil)) (.cons (.ifs (.and (.cmp .notN (.var 2) (.lit (.non))) (.not (.call 27 [.arg 0, .arg 1, .arg 2] (.cons (.var 2) (.cons (.var 1) (.cons (.lit (.int (1))) (.nil))))))) (.cons (.never) (.nil)) (.nil)) (.cons (.ifs (.not (.call 27 [.arg 0, .arg 1, .arg 2] (.cons (.var 3) (.cons (.var 1) (.cons (.lit (.int (0))) (.nil)))))) (.cons (.never) (.nil)) (.nil)) (.cons (.ifs (.not (.call 27 [.arg 0, .arg 1, .arg 2] (.cons (.var 4) (.cons (.var 1) (.cons (.lit (.int (0))) (.nil)))))) (.cons (.never) (.nil)) (.nil)) (.cons (.setF (.var 0) ⟨#[95, 97, 114, 105, 116, 121]⟩ (.var 1)) (.cons (.setF (.var 0) ⟨#[95, 110, 101, 101, 100, 115]⟩ (.ite (.cmp .isN (.var 2) (.lit (.non))) (.tup (.cons (.op .mul (.tup (.cons (.lit (.str ⟨#[]⟩)) (.nil))) (.var 1)) (.nil))) (.var 2))) (.cons (.setF (.var 0) ⟨#[95, 122]⟩ (.var 3)) (.cons (.setF (.var 0) ⟨#[95, 115]⟩ (.var 4)) (.nil))))))))
/-- is_known -/
def c18 : Ss := .cons (.ret (.and (.blt (.isi [.str]) (.cons (.var 0) .nil)) (.cmp .in_ (.var 0) (.glb 5)))) (.nil)
/-- wants_hold -/
def c19 : Ss := .cons (.ret (.scope (.blt .all (.cons (.comp (.zip (.var 0) (.var 1)) [2, 3] false [2, 3] (.nil) (.or (.cmp .in_ (.var 2) (.tup (.cons (.lit (.str ⟨#[]⟩)) (.cons (.var 3) (.nil))))) (.cmp .eq (.var 3) (.lit (.str ⟨#[122, 115]⟩))))) (.nil))))) (.nil)
/-- _answer -/
def c20 : Ss := .cons (.ifs (.cmp .eq (.blt .len (.cons (.var 1) (.nil))) (.lit (.int (1)))) (.cons (.asg 3 (.call 28 [.arg 0, .arg 1, .arg 2] (.cons (.var 0) (.cons (.sub (.var 1) (.lit (.int (0)))) (.cons (.var 2) (.nil)))))) (.nil)) (.cons (.ifs (.cmp .in_ (.var 0) (.tup (.cons (.lit (.str ⟨#[115, 100, 105, 118]⟩)) (.cons (.lit (.str ⟨#[115, 114, 101, 109]⟩)) (.cons (.lit (.str ⟨#[115, 108, 116]⟩)) (.nil)))))) (.cons (.asg 3 (.call 29 [.arg 0, .arg 1, .arg 2] (.cons (.var 0) (.cons (.call 30 [.arg 0, .arg 1] (.cons (.sub (.var 1) (.lit (.int (0)))) (.cons (.var 2) (.nil)))) (.cons (.call 30 [.arg 0, .arg 1] (.cons (.sub (.var 1) (.lit (.int (1)))) (.cons (.var 2) (.nil)))) (.nil)))))) (.nil)) (.cons (.asg 3 (.call 31 [.arg 0, .arg 1, .arg 2] (.cons (.var 0) (.cons (.sub (.var 1) (.lit (.int (0)))) (.cons (.sub (.var 1) (.lit (.int (1)))) (.nil)))))) (.nil))) (.nil))) (.cons (.ret (.op .band (.var 3) (.call 21 [.arg 0] (.cons (.var 2) (.nil))))) (.nil))
/-- ones -/
def c21 : Ss := .cons (.ret (.op .sub (.op .shl (.lit (.int (1))) (.var 0)) (.lit (.int (1))))) (.nil)
/-- is_whole -/
def c22 : Ss := .cons (.ret (.and (.blt (.isi [.int]) (.cons (.var 0) .nil)) (.not (.blt (.isi [.bool]) (.cons (.var 0) .nil))))) (.nil)
/-- true_marks -/
def c23 : Ss := .cons (.asg 3 (.op .shr (.var 0) (.var 1))) (.cons (.asg 4 (.op .band (.op .shr (.var 0) (.op .sub (.var 1) (.lit (.int (1))))) (.lit (.int (1))))) (.cons (.asg 5 (.lit (.str ⟨#[]⟩))) (.cons (.ifs (.cmp .eq (.var 3) (.lit (.int (0)))) (.cons (.asg 5 (.lit (.str ⟨#[122]⟩))) (.nil)) (.nil)) (.cons (.ifs (.cmp .eq (.var 3) (.op .mul (.var 4) (.call 21 [.arg 0] (.cons (.op .sub (.var 2) (.var 1)) (.nil))))) (.cons (.asg 5 (.op .add (.var 5) (.lit (.str ⟨#[115]⟩)))) (.nil)) (.nil)) (.cons (.ret (.var 5)) (.nil))))))
/-- is_between -/
def c24 : Ss := .cons (.ret (.and (.call 22 [.arg 0] (.cons (.var 0) (.nil))) (.cmp2 .le .le (.var 1) (.var 0) (.var 2)))) (.nil)
/-- marks_of -/
def c25 : Ss := .cons (.ifs (.blt (.isi [.cls 8]) (.cons (.var 0) .nil)) (.cons (.ret (.attr (.var 0) ⟨#[109, 97, 114, 107, 115]⟩)) (.nil)) (.nil)) (.cons (.ret (.call 32 [.arg 0] (.cons (.var 0) (.nil)))) (.nil))
/-- is_listed -/
def c26 : Ss := .cons (.ret (.blt (.isi [.list, .tuple]) (.cons (.var 0) .nil))) (.nil)
/-- _is_rows -/
def c27 : Ss := .cons (.ifs (.or (.not (.blt (.isi [.tuple]) (.cons (.var 0) .nil))) (.not (.cmp2 .le .le (.var 2) (.blt .len (.cons (.var 0) (.nil))) (.glb 1)))) (.cons (.ret (.lit (.bl false))) (.nil)) (.nil)) (.cons (.ret (.scope (.blt .all (.cons (.comp (.seq (.var 0)) [3] true [3] (.nil) (.call 34 [.arg 0, .arg 1] (.cons (.var 3) (.cons (.var 1) (.nil))))) (.nil))))) (.nil))
/-- _answer_of_one -/
def c28 : Ss := .cons (.ifs (.cmp .eq (.var 0) (.lit (.str ⟨#[110, 101, 103]⟩))) (.cons (.ret (.un .neg (.var 1))) (.nil)) (.nil)) (.cons (.ifs (.cmp .eq (.var 0) (.lit (.str ⟨#[110, 111, 116]⟩))) (.cons (.ret (.un .inv (.var 1))) (.nil)) (.nil)) (.cons (.ifs (.cmp .eq (.var 0) (.lit (.str ⟨#[115, 104, 108]⟩))) (.cons (.ret (.op .shl (.var 1) (.lit (.int (1))))) (.nil)) (.nil)) (.cons (.ifs (.cmp .eq (.var 0) (.lit (.str ⟨#[115, 104, 114]⟩))) (.cons (.ret (.op .shr (.var 1) (.lit (.int (1))))) (.nil)) (.nil)) (.cons (.ret (.op .shr (.call 30 [.arg 0, .arg 1] (.cons (.var 1) (.cons (.var 2) (.nil)))) (.lit (.int (1))))) (.nil)))))
/-- _signed_answer -/
def c29 : Ss := .cons (.ifs (.cmp .eq (.var 0) (.lit (.str ⟨#[115, 100, 105, 118]⟩))) (.cons (.ret (.call 35 [.arg 0, .arg 1] (.cons (.var 1) (.cons (.var 2) (.nil))))) (.nil)) (.nil)) (.cons (.ifs (.cmp .eq (.var 0) (.lit (.str ⟨#[115, 114, 101, 109]⟩))) (.cons (.ret (.op .sub (.var 1) (.op .mul (.var 2) (.call 35 [.arg 0, .arg 1] (.cons (.var 1) (.cons (.var 2) (.nil))))))) (.nil)) (.nil)) (.cons (.ret (.blt .int1 (.cons (.cmp .lt (.var 1) (.var 2)) (.nil)))) (.nil)))
/-- signed_number -/
def c30 : Ss := .cons (.ifs (.op .shr (.var 0) (.op .sub (.var 1) (.lit (.int (1))))) (.cons (.ret (.op .sub (.var 0) (.op .shl (.lit (.int (1))) (.var 1)))) (.nil)) (.nil)) (.cons (.ret (.var 0)) (.nil))
/-- _plain_answer -/
def c31 : Ss := .cons (.mat (.var 0) (.cons ⟨#[97, 100, 100]⟩ (.cons (.ret (.op .add (.var 1) (.var 2))) (.nil)) (.cons ⟨#[115, 117, 98]⟩ (.cons (.ret (.op .sub (.var 1) (.var 2))) (.nil)) (.cons ⟨#[109, 117, 108]⟩ (.cons (.ret (.op .mul (.var 1) (.var 2))) (.nil)) (.cons ⟨#[97, 110, 100]⟩ (.cons (.ret (.op .band (.var 1) (.var 2))) (.nil)) (.cons ⟨#[111, 114]⟩ (.cons (.ret (.op .bor (.var 1) (.var 2))) (.nil)) (.cons ⟨#[120, 111, 114]⟩ (.cons (.ret (.op .bxor (.var 1) (.var 2))) (.nil)) (.cons ⟨#[117, 100, 105, 118]⟩ (.cons (.ret (.call 35 [.arg 0, .arg 1] (.cons (.var 1) (.cons (.var 2) (.nil))))) (.nil)) (.cons ⟨#[117, 114, 101, 109]⟩ (.cons (.ret (.op .sub (.var 1) (.op .mul (.var 2) (.call 35 [.arg 0, .arg 1] (.cons (.var 1) (.cons (.var 2) (.nil))))))) (.nil)) (.cons ⟨#[117, 108, 116]⟩ (.cons (.ret (.blt .int1 (.cons (.cmp .lt (.var 1) (.var 2)) (.nil)))) (.nil)) (.nil))))))))))) (.cons (.ret (.blt .int1 (.cons (.cmp .eq (.var 1) (.var 2)) (.nil)))) (.nil))
/-- ordered_marks -/
def c32 : Ss := .cons (.ifs (.not (.blt (.isi [.str]) (.cons (.var 0) .nil))) (.cons (.ret (.lit (.non))) (.nil)) (.nil)) (.cons (.ret (.dget (.glb 4) (.var 0))) (.nil))
/-- Dress.marks -/
def c33 : Ss := .cons (.ret (.attr (.var 0) ⟨#[95, 109, 97, 114, 107, 115]⟩)) (.nil)
/-- _is_wants -/
def c34 : Ss := .cons (.ifs (.or (.not (.blt (.isi [.tuple]) (.cons (.var 0) .nil))) (.cmp .ne (.blt .len (.cons (.var 0) (.nil))) (.var 1))) (.cons (.ret (.lit (.bl false))) (.nil)) (.nil)) (.cons (.ret (.scope (.blt .all (.cons (.comp (.seq (.var 0)) [2] true [2] (.nil) (.and (.blt (.isi [.str]) (.cons (.var 2) .nil)) (.cmp .in_ (.var 2) (.glb 0)))) (.nil))))) (.nil))
/-- _quotient -/
def c35 : Ss := .cons (.ifs (.cmp .eq (.var 1) (.lit (.int (0)))) (.cons (.ret (.lit (.int (0)))) (.nil)) (.nil)) (.cons (.asg 2 (.op .fdiv (.blt .abs (.cons (.var 0) (.nil))) (.blt .abs (.cons (.var 1) (.nil))))) (.cons (.ifs (.cmp .ne (.cmp .lt (.var 0) (.lit (.int (0)))) (.cmp .lt (.var 1) (.lit (.int (0))))) (.cons (.ret (.un .neg (.var 2))) (.nil)) (.nil)) (.cons (.ret (.var 2)) (.nil))))
def gvs : List D := [.tup [.str ⟨#[]⟩, .str ⟨#[122]⟩, .str ⟨#[115]⟩, .str ⟨#[122, 115]⟩], .int (4), .int (32), .int (7), .kd 0, .kd 1]
def kts : List (List (Str × D)) := [[(⟨#[]⟩, .str ⟨#[]⟩), (⟨#[122]⟩, .str ⟨#[122]⟩), (⟨#[115]⟩, .str ⟨#[115]⟩), (⟨#[122, 115]⟩, .str ⟨#[122, 115]⟩), (⟨#[115, 122]⟩, .str ⟨#[122, 115]⟩)], [(⟨#[108, 111, 97, 100]⟩, .tup [.int (0), .non, .tup [], .tup []]), (⟨#[108, 111, 97, 100, 122]⟩, .tup [.int (0), .non, .tup [.tup []], .tup []]), (⟨#[108, 111, 97, 100, 115]⟩, .tup [.int (0), .non, .tup [], .tup [.tup []]]), (⟨#[111, 110, 101]⟩, .tup [.int (0), .non, .tup [.tup []], .tup [.tup []]]), (⟨#[97, 100, 100]⟩, .tup [.int (2), .non, .tup [], .tup []]), (⟨#[115, 117, 98]⟩, .tup [.int (2), .non, .tup [], .tup []]), (⟨#[109, 117, 108]⟩, .tup [.int (2), .non, .tup [], .tup []]), (⟨#[110, 101, 103]⟩, .tup [.int (1), .non, .tup [], .tup []]), (⟨#[115, 104, 108]⟩, .tup [.int (1), .non, .tup [], .tup []]), (⟨#[97, 110, 100]⟩, .tup [.int (2), .non, .tup [.tup [.str ⟨#[122]⟩, .str ⟨#[]⟩], .tup [.str ⟨#[]⟩, .str ⟨#[122]⟩]], .tup [.tup [.str ⟨#[115]⟩, .str ⟨#[115]⟩]]]), (⟨#[111, 114]⟩, .tup [.int (2), .non, .tup [.tup [.str ⟨#[122]⟩, .str ⟨#[122]⟩]], .tup [.tup [.str ⟨#[115]⟩, .str ⟨#[115]⟩]]]), (⟨#[120, 111, 114]⟩, .tup [.int (2), .non, .tup [.tup [.str ⟨#[122]⟩, .str ⟨#[122]⟩]], .tup [.tup [.str ⟨#[115]⟩, .str ⟨#[115]⟩]]]), (⟨#[110, 111, 116]⟩, .tup [.int (1), .non, .tup [], .tup [.tup [.str ⟨#[115]⟩]]]), (⟨#[115, 104, 114]⟩, .tup [.int (1), .tup [.tup [.str ⟨#[122]⟩]], .tup [.tup [.str ⟨#[122]⟩]], .tup [.tup [.str ⟨#[122]⟩]]]), (⟨#[115, 97, 114]⟩, .tup [.int (1), .tup [.tup [.str ⟨#[115]⟩]], .tup [.tup [.str ⟨#[122, 115]⟩]], .tup [.tup [.str ⟨#[115]⟩]]]), (⟨#[117, 100, 105, 118]⟩, .tup [.int (2), .tup [.tup [.str ⟨#[122]⟩, .str ⟨#[122]⟩]], .tup [.tup [.str ⟨#[122]⟩, .str ⟨#[122]⟩]], .tup []]), (⟨#[117, 114, 101, 109]⟩, .tup [.int (2), .tup [.tup [.str ⟨#[122]⟩, .str ⟨#[122]⟩]], .tup [.tup [.str ⟨#[122]⟩, .str ⟨#[122]⟩]], .tup []]), (⟨#[115, 100, 105, 118]⟩, .tup [.int (2), .tup [.tup [.str ⟨#[115]⟩, .str ⟨#[115]⟩]], .tup [], .tup []]), (⟨#[115, 114, 101, 109]⟩, .tup [.int (2), .tup [.tup [.str ⟨#[115]⟩, .str ⟨#[115]⟩]], .tup [], .tup [.tup [.str ⟨#[115]⟩, .str ⟨#[115]⟩]]]), (⟨#[117, 108, 116]⟩, .tup [.int (2), .tup [.tup [.str ⟨#[122]⟩, .str ⟨#[122]⟩], .tup [.str ⟨#[115]⟩, .str ⟨#[115]⟩]], .tup [.tup [.str ⟨#[]⟩, .str ⟨#[]⟩]], .tup [.tup [.str ⟨#[]⟩, .str ⟨#[]⟩]]]), (⟨#[101, 113, 117]⟩, .tup [.int (2), .tup [.tup [.str ⟨#[122]⟩, .str ⟨#[122]⟩], .tup [.str ⟨#[115]⟩, .str ⟨#[115]⟩]], .tup [.tup [.str ⟨#[]⟩, .str ⟨#[]⟩]], .tup [.tup [.str ⟨#[]⟩, .str ⟨#[]⟩]]]), (⟨#[115, 108, 116]⟩, .tup [.int (2), .tup [.tup [.str ⟨#[115]⟩, .str ⟨#[115]⟩]], .tup [.tup [.str ⟨#[]⟩, .str ⟨#[]⟩]], .tup [.tup [.str ⟨#[]⟩, .str ⟨#[]⟩]]]), (⟨#[115, 116, 111, 114, 101]⟩, .tup [.int (2), .non, .tup [], .tup []])]]
def pt : List (Nat × Str × Nat) := [(9, ⟨#[97, 114, 105, 116, 121]⟩, 5), (8, ⟨#[109, 97, 114, 107, 115]⟩, 33)]
def mt : List (Nat × Str × Nat) := [(9, ⟨#[104, 111, 108, 100, 115]⟩, 6)]
def ft : List (Nat × Str) := [(9, ⟨#[95, 97, 114, 105, 116, 121]⟩), (9, ⟨#[95, 110, 101, 101, 100, 115]⟩), (9, ⟨#[95, 122]⟩), (9, ⟨#[95, 115]⟩), (10, ⟨#[95, 98, 105, 116, 115]⟩), (10, ⟨#[95, 110, 97, 114, 114, 111, 119]⟩), (10, ⟨#[95, 119, 105, 100, 101]⟩)]
def ic : List Nat := [8]
abbrev G : Gd := gdOf gvs kts pt mt ft ic
def top (i : Nat) : Stmt := PySem.Challenge.pw_signskept_k13_whole_needs_that_are_neede.main.body.getD i (.Pass ⟨0, 0, 0, 0⟩)
def inCls : Stmt → List Stmt
  | .ClassDef (body := b) .. => b
  | _ => []
local macro_rules | `(tactic| walk_at "pd_vis") => `(tactic| first | exact Or.inl rfl | exact Or.inr (Or.inr rfl) | exact Or.inr (Or.inl rfl))
local macro_rules | `(tactic| walk_at "pd_loc") => `(tactic| first | exact Or.inl rfl | exact Or.inr rfl)
local macro_rules | `(tactic| walk_at "pd_fnl") => `(tactic| first | exact Or.inr rfl | exact Or.inl rfl)
abbrev s0 : Stmt := top 62
def n0 : List Str := [PySem.Str.ofString "script", PySem.Str.ofString "pool", PySem.Str.ofString "least"]
def p0 : List Str := [PySem.Str.ofString "script"]
def q0 : String := "law"
abbrev s1 : Stmt := top 61
def n1 : List Str := [PySem.Str.ofString "least", PySem.Str.ofString "most", PySem.Str.ofString "word", PySem.Str.ofString "operation", PySem.Str.ofString "row", PySem.Str.ofString "told"]
def p1 : List Str := [PySem.Str.ofString "least", PySem.Str.ofString "most"]
def q1 : String := "_law_right"
abbrev s2 : Stmt := top 59
def n2 : List Str := [PySem.Str.ofString "pool", PySem.Str.ofString "many", PySem.Str.ofString "found"]
def p2 : List Str := [PySem.Str.ofString "pool", PySem.Str.ofString "many"]
def q2 : String := "_law_take"
abbrev s3 : Stmt := top 58
def n3 : List Str := [PySem.Str.ofString "script", PySem.Str.ofString "k", PySem.Str.ofString "cell", PySem.Str.ofString "seed"]
def p3 : List Str := [PySem.Str.ofString "script", PySem.Str.ofString "k"]
def q3 : String := "_law_pool"
abbrev s4 : Stmt := top 60
def n4 : List Str := [PySem.Str.ofString "arity", PySem.Str.ofString "found", PySem.Str.ofString "turn", PySem.Str.ofString "more", PySem.Str.ofString "row", PySem.Str.ofString "marks"]
def p4 : List Str := [PySem.Str.ofString "arity"]
def q4 : String := "_law_rows"
abbrev s5 : Stmt := (inCls (top 31)).getD 1 (.Pass ⟨0, 0, 0, 0⟩)
def n5 : List Str := [PySem.Str.ofString "self"]
def p5 : List Str := [PySem.Str.ofString "self"]
def q5 : String := "Operation.arity"
abbrev s6 : Stmt := (inCls (top 31)).getD 6 (.Pass ⟨0, 0, 0, 0⟩)
def n6 : List Str := [PySem.Str.ofString "self", PySem.Str.ofString "dresses"]
def p6 : List Str := [PySem.Str.ofString "self", PySem.Str.ofString "dresses"]
def q6 : String := "Operation.holds"
abbrev s7 : Stmt := top 48
def n7 : List Str := [PySem.Str.ofString "word", PySem.Str.ofString "dresses", PySem.Str.ofString "narrow", PySem.Str.ofString "wide", PySem.Str.ofString "marks", PySem.Str.ofString "rows", PySem.Str.ofString "text", PySem.Str.ofString "row", PySem.Str.ofString "choices", PySem.Str.ofString "bits"]
def p7 : List Str := [PySem.Str.ofString "word", PySem.Str.ofString "dresses", PySem.Str.ofString "narrow", PySem.Str.ofString "wide"]
def q7 : String := "difference"
abbrev s8 : Stmt := top 47
def n8 : List Str := [PySem.Str.ofString "word", PySem.Str.ofString "arity", PySem.Str.ofString "needs", PySem.Str.ofString "z", PySem.Str.ofString "s"]
def p8 : List Str := [PySem.Str.ofString "word"]
def q8 : String := "known"
abbrev s9 : Stmt := top 30
def n9 : List Str := [PySem.Str.ofString "rows", PySem.Str.ofString "marks", PySem.Str.ofString "wants"]
def p9 : List Str := [PySem.Str.ofString "rows", PySem.Str.ofString "marks"]
def q9 : String := "one_holds"
abbrev s10 : Stmt := top 32
def n10 : List Str := [PySem.Str.ofString "operation", PySem.Str.ofString "dresses", PySem.Str.ofString "marks"]
def p10 : List Str := [PySem.Str.ofString "operation", PySem.Str.ofString "dresses"]
def q10 : String := "_operand_marks"
abbrev s11 : Stmt := top 51
def n11 : List Str := [PySem.Str.ofString "word", PySem.Str.ofString "row", PySem.Str.ofString "narrow", PySem.Str.ofString "wide", PySem.Str.ofString "low", PySem.Str.ofString "widely", PySem.Str.ofString "bits"]
def p11 : List Str := [PySem.Str.ofString "word", PySem.Str.ofString "row", PySem.Str.ofString "narrow", PySem.Str.ofString "wide"]
def q11 : String := "_differs"
abbrev s12 : Stmt := (inCls (top 39)).getD 0 (.Pass ⟨0, 0, 0, 0⟩)
def n12 : List Str := [PySem.Str.ofString "self", PySem.Str.ofString "value", PySem.Str.ofString "narrow", PySem.Str.ofString "wide"]
def p12 : List Str := [PySem.Str.ofString "self", PySem.Str.ofString "value", PySem.Str.ofString "narrow", PySem.Str.ofString "wide"]
def q12 : String := "Wide.__init__"
abbrev s13 : Stmt := top 50
def n13 : List Str := [PySem.Str.ofString "text", PySem.Str.ofString "narrow", PySem.Str.ofString "wide", PySem.Str.ofString "found", PySem.Str.ofString "bits", PySem.Str.ofString "true", PySem.Str.ofString "mark"]
def p13 : List Str := [PySem.Str.ofString "text", PySem.Str.ofString "narrow", PySem.Str.ofString "wide"]
def q13 : String := "_dressed_bits"
abbrev s14 : Stmt := top 38
def n14 : List Str := [PySem.Str.ofString "narrow", PySem.Str.ofString "wide", PySem.Str.ofString "most"]
def p14 : List Str := [PySem.Str.ofString "narrow", PySem.Str.ofString "wide", PySem.Str.ofString "most"]
def q14 : String := "check_sizes"
abbrev s15 : Stmt := top 19
def n15 : List Str := [PySem.Str.ofString "things", PySem.Str.ofString "many", PySem.Str.ofString "found", PySem.Str.ofString "thing"]
def p15 : List Str := [PySem.Str.ofString "things", PySem.Str.ofString "many"]
def q15 : String := "all_marks"
abbrev s16 : Stmt := top 49
def n16 : List Str := [PySem.Str.ofString "word", PySem.Str.ofString "operation"]
def p16 : List Str := [PySem.Str.ofString "word"]
def q16 : String := "_reckoned_operation"
abbrev s17 : Stmt := (inCls (top 31)).getD 0 (.Pass ⟨0, 0, 0, 0⟩)
def n17 : List Str := [PySem.Str.ofString "self", PySem.Str.ofString "arity", PySem.Str.ofString "needs", PySem.Str.ofString "z", PySem.Str.ofString "s"]
def p17 : List Str := [PySem.Str.ofString "self", PySem.Str.ofString "arity", PySem.Str.ofString "needs", PySem.Str.ofString "z", PySem.Str.ofString "s"]
def q17 : String := "Operation.__init__"
abbrev s18 : Stmt := top 46
def n18 : List Str := [PySem.Str.ofString "thing"]
def p18 : List Str := [PySem.Str.ofString "thing"]
def q18 : String := "is_known"
abbrev s19 : Stmt := top 29
def n19 : List Str := [PySem.Str.ofString "wants", PySem.Str.ofString "marks", PySem.Str.ofString "want", PySem.Str.ofString "have"]
def p19 : List Str := [PySem.Str.ofString "wants", PySem.Str.ofString "marks"]
def q19 : String := "wants_hold"
abbrev s20 : Stmt := top 52
def n20 : List Str := [PySem.Str.ofString "word", PySem.Str.ofString "row", PySem.Str.ofString "size", PySem.Str.ofString "answer"]
def p20 : List Str := [PySem.Str.ofString "word", PySem.Str.ofString "row", PySem.Str.ofString "size"]
def q20 : String := "_answer"
abbrev s21 : Stmt := top 35
def n21 : List Str := [PySem.Str.ofString "many"]
def p21 : List Str := [PySem.Str.ofString "many"]
def q21 : String := "ones"
abbrev s22 : Stmt := top 2
def n22 : List Str := [PySem.Str.ofString "thing"]
def p22 : List Str := [PySem.Str.ofString "thing"]
def q22 : String := "is_whole"
abbrev s23 : Stmt := top 37
def n23 : List Str := [PySem.Str.ofString "bits", PySem.Str.ofString "narrow", PySem.Str.ofString "wide", PySem.Str.ofString "above", PySem.Str.ofString "top", PySem.Str.ofString "marks"]
def p23 : List Str := [PySem.Str.ofString "bits", PySem.Str.ofString "narrow", PySem.Str.ofString "wide"]
def q23 : String := "true_marks"
abbrev s24 : Stmt := top 3
def n24 : List Str := [PySem.Str.ofString "thing", PySem.Str.ofString "least", PySem.Str.ofString "most"]
def p24 : List Str := [PySem.Str.ofString "thing", PySem.Str.ofString "least", PySem.Str.ofString "most"]
def q24 : String := "is_between"
abbrev s25 : Stmt := top 18
def n25 : List Str := [PySem.Str.ofString "thing"]
def p25 : List Str := [PySem.Str.ofString "thing"]
def q25 : String := "marks_of"
abbrev s26 : Stmt := top 4
def n26 : List Str := [PySem.Str.ofString "thing"]
def p26 : List Str := [PySem.Str.ofString "thing"]
def q26 : String := "is_listed"
abbrev s27 : Stmt := top 28
def n27 : List Str := [PySem.Str.ofString "thing", PySem.Str.ofString "arity", PySem.Str.ofString "least", PySem.Str.ofString "row"]
def p27 : List Str := [PySem.Str.ofString "thing", PySem.Str.ofString "arity", PySem.Str.ofString "least"]
def q27 : String := "_is_rows"
abbrev s28 : Stmt := top 53
def n28 : List Str := [PySem.Str.ofString "word", PySem.Str.ofString "bits", PySem.Str.ofString "size"]
def p28 : List Str := [PySem.Str.ofString "word", PySem.Str.ofString "bits", PySem.Str.ofString "size"]
def q28 : String := "_answer_of_one"
abbrev s29 : Stmt := top 55
def n29 : List Str := [PySem.Str.ofString "word", PySem.Str.ofString "one", PySem.Str.ofString "other"]
def p29 : List Str := [PySem.Str.ofString "word", PySem.Str.ofString "one", PySem.Str.ofString "other"]
def q29 : String := "_signed_answer"
abbrev s30 : Stmt := top 36
def n30 : List Str := [PySem.Str.ofString "bits", PySem.Str.ofString "size"]
def p30 : List Str := [PySem.Str.ofString "bits", PySem.Str.ofString "size"]
def q30 : String := "signed_number"
abbrev s31 : Stmt := top 54
def n31 : List Str := [PySem.Str.ofString "word", PySem.Str.ofString "one", PySem.Str.ofString "other"]
def p31 : List Str := [PySem.Str.ofString "word", PySem.Str.ofString "one", PySem.Str.ofString "other"]
def q31 : String := "_plain_answer"
abbrev s32 : Stmt := top 17
def n32 : List Str := [PySem.Str.ofString "thing"]
def p32 : List Str := [PySem.Str.ofString "thing"]
def q32 : String := "ordered_marks"
abbrev s33 : Stmt := (inCls (top 20)).getD 1 (.Pass ⟨0, 0, 0, 0⟩)
def n33 : List Str := [PySem.Str.ofString "self"]
def p33 : List Str := [PySem.Str.ofString "self"]
def q33 : String := "Dress.marks"
abbrev s34 : Stmt := top 27
def n34 : List Str := [PySem.Str.ofString "thing", PySem.Str.ofString "arity", PySem.Str.ofString "want"]
def p34 : List Str := [PySem.Str.ofString "thing", PySem.Str.ofString "arity"]
def q34 : String := "_is_wants"
abbrev s35 : Stmt := top 56
def n35 : List Str := [PySem.Str.ofString "one", PySem.Str.ofString "other", PySem.Str.ofString "size"]
def p35 : List Str := [PySem.Str.ofString "one", PySem.Str.ofString "other"]
def q35 : String := "_quotient"
structure Calls (X : Cx) (L : Pl) (cf : Nat → List D → Store → Res D) : Prop where
  k0 : CallOk X L cf "_law_right" 1 2 [.arg 0, .arg 1]
  k1 : CallOk X L cf "_law_take" 2 2 [.arg 0, .arg 1]
  k2 : CallOk X L cf "_law_pool" 3 2 [.arg 0, .arg 1]
  k3 : CallOk X L cf "_law_rows" 4 1 [.arg 0]
  k4 : CallK X L cf "difference" 7 2 [PySem.Str.ofString "narrow", PySem.Str.ofString "wide"] [.arg 0, .arg 1, .arg 2, .arg 3]
  k5 : CallOk X L cf "known" 8 1 [.arg 0]
  k6 : CallOk X L cf "one_holds" 9 2 [.arg 0, .arg 1]
  k7 : CallOk X L cf "_operand_marks" 10 2 [.arg 0, .arg 1]
  k8 : CallOk X L cf "_differs" 11 4 [.arg 0, .arg 1, .arg 2, .arg 3]
  k9 : MkK X L cf "Wide" 10 12 1 [PySem.Str.ofString "narrow", PySem.Str.ofString "wide"] [.arg 0, .arg 1, .arg 2, .arg 3]
  k10 : CallOk X L cf "_dressed_bits" 13 3 [.arg 0, .arg 1, .arg 2]
  k11 : CallOk X L cf "check_sizes" 14 3 [.arg 0, .arg 1, .arg 2]
  k12 : CallOk X L cf "all_marks" 15 2 [.arg 0, .arg 1]
  k13 : CallOk X L cf "_reckoned_operation" 16 1 [.arg 0]
  k14 : MkK X L cf "Operation" 9 17 2 [PySem.Str.ofString "z", PySem.Str.ofString "s"] [.arg 0, .arg 1, .arg 2, .arg 3, .arg 4]
  k15 : CallOk X L cf "is_known" 18 1 [.arg 0]
  k16 : CallOk X L cf "wants_hold" 19 2 [.arg 0, .arg 1]
  k17 : CallOk X L cf "_answer" 20 3 [.arg 0, .arg 1, .arg 2]
  k18 : CallOk X L cf "ones" 21 1 [.arg 0]
  k19 : CallOk X L cf "check_sizes" 14 2 [.arg 0, .arg 1, .lit (.int (32))]
  k20 : CallOk X L cf "is_whole" 22 1 [.arg 0]
  k21 : CallOk X L cf "true_marks" 23 3 [.arg 0, .arg 1, .arg 2]
  k22 : CallOk X L cf "is_between" 24 3 [.arg 0, .arg 1, .arg 2]
  k23 : CallOk X L cf "marks_of" 25 1 [.arg 0]
  k24 : CallOk X L cf "is_listed" 26 1 [.arg 0]
  k25 : CallOk X L cf "_is_rows" 27 3 [.arg 0, .arg 1, .arg 2]
  k26 : CallOk X L cf "_answer_of_one" 28 3 [.arg 0, .arg 1, .arg 2]
  k27 : CallOk X L cf "_signed_answer" 29 3 [.arg 0, .arg 1, .arg 2]
  k28 : CallOk X L cf "signed_number" 30 2 [.arg 0, .arg 1]
  k29 : CallOk X L cf "_plain_answer" 31 3 [.arg 0, .arg 1, .arg 2]
  k30 : CallOk X L cf "ordered_marks" 32 1 [.arg 0]
  k31 : CallOk X L cf "_is_wants" 34 2 [.arg 0, .arg 1]
  k32 : CallOk X L cf "_quotient" 35 2 [.arg 0, .arg 1]
theorem Calls.blk {X : Cx} {L : Pl} {cf : Nat → List D → Store → Res D} {s : Shared} {H : Hp} {sc : Scope} {e : Env} {fp : List Addr} (h : Calls X L cf) : Calls (X.blk s H sc e fp) L cf := ⟨h.k0.blk, h.k1.blk, h.k2.blk, h.k3.blk, h.k4.blk, h.k5.blk, h.k6.blk, h.k7.blk, h.k8.blk, h.k9.blk, h.k10.blk, h.k11.blk, h.k12.blk, h.k13.blk, h.k14.blk, h.k15.blk, h.k16.blk, h.k17.blk, h.k18.blk, h.k19.blk, h.k20.blk, h.k21.blk, h.k22.blk, h.k23.blk, h.k24.blk, h.k25.blk, h.k26.blk, h.k27.blk, h.k28.blk, h.k29.blk, h.k30.blk, h.k31.blk, h.k32.blk⟩
structure Mg (X : Cx) (L : Pl) : Prop where
  b_abs : X.mg "abs" = none
  b_all : X.mg "all" = none
  b_any : X.mg "any" = none
  b_bool : X.mg "bool" = none
  b_int : X.mg "int" = none
  b_isinstance : X.mg "isinstance" = none
  b_len : X.mg "len" = none
  b_list : X.mg "list" = none
  b_range : X.mg "range" = none
  b_str : X.mg "str" = none
  b_tuple : X.mg "tuple" = none
  b_zip : X.mg "zip" = none
  g0 : GvOk X L "TEXTS" (.tup [.str ⟨#[]⟩, .str ⟨#[122]⟩, .str ⟨#[115]⟩, .str ⟨#[122, 115]⟩])
  g1 : GvOk X L "MOST_ROWS" (.int (4))
  g3 : GvOk X L "MOST_SEARCHED" (.int (7))
  g4 : GvOk X L "ORDERED" (.kd 0)
  g5 : GvOk X L "KNOWN" (.kd 1)
  c_Dress : X.mg "Dress" = some (.ref (L.cla 8))
theorem b0 {P : Program} {w : World} {K : PySem.W.Frag} {mg : Str → Option Value} {base : Heap} {f : Addr} {cdv : Value} {A : Around} {outer : List Env} {s : Shared} {H : Hp} {EX : XK} {L : Pl} {cf : Nat → List D → Store → Res D} (X : Cx) (hX : X = cxOf CX0 P w K mg base n0 q0 (defScope s0) f cdv A outer s H EX)
    (E : EnvOk X L G cf) (Ca : Calls X L cf) (M : Mg X L) : SimSs X L G cf (defBody s0) c0 := by
  have hp : PassesOwn (model X.prog X.w) X.A X.env X.xe := by subst hX; exact passes_of rfl
  subst hX
  exact (sss_cons (ss_if (st_not (st_val (si_call Ca.k0 (by unfold Gl; kernel_rfl) (sa_cons si_int (sa_cons si_int sa_nil))))) (sss_cons (ss_ret si_bl) sss_nil) sss_nil) (sss_cons (ss_if (st_cmp (cd_eq E.hu) (si_var rfl (by walk_at "pd_vis")) (si_lst sa_nil) (nomark _)) (sss_cons (ss_ret si_bl) sss_nil) sss_nil) (sss_cons (ss_set E rfl (by walk_at "pd_loc") (Or.inl rfl) (si_call Ca.k2 (by unfold Gl; kernel_rfl) (sa_cons (si_var rfl (by walk_at "pd_vis")) (sa_cons si_int sa_nil)))) (sss_cons (ss_set E rfl (by walk_at "pd_loc") (Or.inl rfl) (si_bin od_add si_int (si_call Ca.k1 (by unfold Gl; kernel_rfl) (sa_cons (si_var rfl (by walk_at "pd_vis")) (sa_cons si_int sa_nil))))) (sss_cons (ss_ret (si_call Ca.k0 (by unfold Gl; kernel_rfl) (sa_cons (si_var rfl (by walk_at "pd_vis")) (sa_cons (si_bin od_add (si_bin od_add (si_var rfl (by walk_at "pd_vis")) si_int) (si_call Ca.k1 (by unfold Gl; kernel_rfl) (sa_cons (si_var rfl (by walk_at "pd_vis")) (sa_cons (si_bin od_sub si_int (si_var rfl (by walk_at "pd_vis"))) sa_nil)))) sa_nil)))) sss_nil)))))
theorem b1 {P : Program} {w : World} {K : PySem.W.Frag} {mg : Str → Option Value} {base : Heap} {f : Addr} {cdv : Value} {A : Around} {outer : List Env} {s : Shared} {H : Hp} {EX : XK} {L : Pl} {cf : Nat → List D → Store → Res D} (X : Cx) (hX : X = cxOf CX0 P w K mg base n1 q1 (defScope s1) f cdv A outer s H EX)
    (E : EnvOk X L G cf) (Ca : Calls X L cf) (M : Mg X L) : SimSs X L G cf (defBody s1) c1 := by
  have hp : PassesOwn (model X.prog X.w) X.A X.env X.xe := by subst hX; exact passes_of rfl
  subst hX
  exact (sss_cons (ss_for hp E (ii_seq (si_lst (sa_cons (si_strE (by kernel_rfl)) (sa_cons (si_strE (by kernel_rfl)) (sa_cons (si_strE (by kernel_rfl)) (sa_cons (si_strE (by kernel_rfl)) (sa_cons (si_strE (by kernel_rfl)) sa_nil))))))) (sg_name E.nd rfl (by walk_at "pd_loc") (by walk_at "pd_fnl")) (sss_cons (ss_set E rfl (by walk_at "pd_loc") (Or.inl rfl) (si_call Ca.k5 (by unfold Gl; kernel_rfl) (sa_cons (si_var rfl (by walk_at "pd_vis")) sa_nil))) (sss_cons (ss_for hp E (ii_seq (si_call Ca.k3 (by unfold Gl; kernel_rfl) (sa_cons (si_attrE E (by kernel_rfl) (si_var rfl (by walk_at "pd_vis"))) sa_nil))) (sg_name E.nd rfl (by walk_at "pd_loc") (by walk_at "pd_fnl")) (sss_cons (ss_set E rfl (by walk_at "pd_loc") (Or.inl rfl) (si_callK Ca.k4 (by unfold Gl; kernel_rfl) (sa_cons (si_var rfl (by walk_at "pd_vis")) (sa_cons (si_var rfl (by walk_at "pd_vis")) sa_nil)) (sk_cons (si_var rfl (by walk_at "pd_vis")) (sk_cons (si_var rfl (by walk_at "pd_vis")) sk_nil)) rfl)) (sss_cons (ss_if (st_cmp (cd_ne E.hu) (si_cmp (cd_isN) (si_var rfl (by walk_at "pd_vis")) si_non (nomark _)) (si_methE E (by kernel_rfl) (si_var rfl (by walk_at "pd_vis")) (sa_cons (si_var rfl (by walk_at "pd_vis")) sa_nil)) (nomark _)) (sss_cons (ss_ret si_bl) sss_nil) sss_nil) sss_nil))) sss_nil))) (sss_cons (ss_ret si_bl) sss_nil))
theorem b2 {P : Program} {w : World} {K : PySem.W.Frag} {mg : Str → Option Value} {base : Heap} {f : Addr} {cdv : Value} {A : Around} {outer : List Env} {s : Shared} {H : Hp} {EX : XK} {L : Pl} {cf : Nat → List D → Store → Res D} (X : Cx) (hX : X = cxOf CX0 P w K mg base n2 q2 (defScope s2) f cdv A outer s H EX)
    (E : EnvOk X L G cf) (Ca : Calls X L cf) (M : Mg X L) : SimSs X L G cf (defBody s2) c2 := by
  have hp : PassesOwn (model X.prog X.w) X.A X.env X.xe := by subst hX; exact passes_of rfl
  subst hX
  exact (sss_cons (ss_if (st_cmp (cd_gt) (si_sub E (si_var rfl (by walk_at "pd_vis")) si_int) si_int (nomark _)) (sss_cons (ss_set E rfl (by walk_at "pd_loc") (Or.inl rfl) (si_bin od_mod (si_int1 (by unfold Gl; kernel_rfl) (M.b_int) (sa_cons (si_sub E (si_var rfl (by walk_at "pd_vis")) si_int) sa_nil)) (si_var rfl (by walk_at "pd_vis")))) (sss_cons (ss_setI (si_bin od_fdiv (si_sub E (si_var rfl (by walk_at "pd_vis")) si_int) (si_var rfl (by walk_at "pd_vis"))) (si_var rfl (by walk_at "pd_vis")) si_int) (sss_cons (ss_ret (si_var rfl (by walk_at "pd_vis"))) sss_nil))) sss_nil) (sss_cons (ss_setI (si_bin od_mod (si_int1 (by unfold Gl; kernel_rfl) (M.b_int) (sa_cons (si_bin od_add (si_bin od_mul (si_sub E (si_var rfl (by walk_at "pd_vis")) si_int) si_int) si_int) sa_nil)) si_int) (si_var rfl (by walk_at "pd_vis")) si_int) (sss_cons (ss_ret (si_bin od_mod (si_bin od_fdiv (si_bin od_mod (si_int1 (by unfold Gl; kernel_rfl) (M.b_int) (sa_cons (si_bin od_mul (si_sub E (si_var rfl (by walk_at "pd_vis")) si_int) (si_sub E (si_var rfl (by walk_at "pd_vis")) si_int)) sa_nil)) si_int) si_int) (si_var rfl (by walk_at "pd_vis")))) sss_nil)))
theorem b3 {P : Program} {w : World} {K : PySem.W.Frag} {mg : Str → Option Value} {base : Heap} {f : Addr} {cdv : Value} {A : Around} {outer : List Env} {s : Shared} {H : Hp} {EX : XK} {L : Pl} {cf : Nat → List D → Store → Res D} (X : Cx) (hX : X = cxOf CX0 P w K mg base n3 q3 (defScope s3) f cdv A outer s H EX)
    (E : EnvOk X L G cf) (Ca : Calls X L cf) (M : Mg X L) : SimSs X L G cf (defBody s3) c3 := by
  have hp : PassesOwn (model X.prog X.w) X.A X.env X.xe := by subst hX; exact passes_of rfl
  subst hX
  exact (sss_cons (ss_set E rfl (by walk_at "pd_loc") (Or.inl rfl) (si_ite (st_cmp (cd_lt) (si_var rfl (by walk_at "pd_vis")) (si_len (by unfold Gl; kernel_rfl) (M.b_len) (sa_cons (si_var rfl (by walk_at "pd_vis")) sa_nil)) (nomark _)) (si_sub E (si_var rfl (by walk_at "pd_vis")) (si_var rfl (by walk_at "pd_vis"))) si_int)) (sss_cons (ss_set E rfl (by walk_at "pd_loc") (Or.inl rfl) (si_bin od_mul (si_int1 (by unfold Gl; kernel_rfl) (M.b_int) (sa_cons (si_bin od_add (si_bin od_add (si_bin od_mod (si_int1 (by unfold Gl; kernel_rfl) (M.b_int) (sa_cons (si_var rfl (by walk_at "pd_vis")) sa_nil)) si_int) (si_bin od_mul (si_bin od_mul si_int (si_var rfl (by walk_at "pd_vis"))) (si_var rfl (by walk_at "pd_vis")))) si_int) sa_nil)) si_int)) (sss_cons (ss_ret (si_lst (sa_cons (si_ite (st_cmp (cd_ge) (si_var rfl (by walk_at "pd_vis")) (si_bin od_pow si_int si_int) (nomark _)) (si_var rfl (by walk_at "pd_vis")) si_int) (sa_cons (si_bin od_add (si_bin od_mod (si_int1 (by unfold Gl; kernel_rfl) (M.b_int) (sa_cons (si_var rfl (by walk_at "pd_vis")) sa_nil)) si_int) si_int) sa_nil)))) sss_nil)))
theorem b4 {P : Program} {w : World} {K : PySem.W.Frag} {mg : Str → Option Value} {base : Heap} {f : Addr} {cdv : Value} {A : Around} {outer : List Env} {s : Shared} {H : Hp} {EX : XK} {L : Pl} {cf : Nat → List D → Store → Res D} (X : Cx) (hX : X = cxOf CX0 P w K mg base n4 q4 (defScope s4) f cdv A outer s H EX)
    (E : EnvOk X L G cf) (Ca : Calls X L cf) (M : Mg X L) : SimSs X L G cf (defBody s4) c4 := by
  have hp : PassesOwn (model X.prog X.w) X.A X.env X.xe := by subst hX; exact passes_of rfl
  subst hX
  exact (sss_cons (ss_set E rfl (by walk_at "pd_loc") (Or.inl rfl) (si_lst (sa_cons (si_lst sa_nil) sa_nil))) (sss_cons (ss_for hp E (ii_range1 (by unfold Gl; kernel_rfl) (M.b_range) (si_var rfl (by walk_at "pd_vis"))) (sg_name E.nd rfl (by walk_at "pd_loc") (by walk_at "pd_fnl")) (sss_cons (ss_set E rfl (by walk_at "pd_loc") (Or.inl rfl) (si_lst sa_nil)) (sss_cons (ss_for hp E (ii_seq (si_var rfl (by walk_at "pd_vis"))) (sg_name E.nd rfl (by walk_at "pd_loc") (by walk_at "pd_fnl")) (sss_cons (ss_set E rfl (by walk_at "pd_loc") (Or.inl rfl) (si_bin od_add (si_var rfl (by walk_at "pd_vis")) (si_lc (own := [(PySem.Str.ofString "marks", 5)]) E (ii_seq (si_lst (sa_cons (si_strE (by kernel_rfl)) (sa_cons (si_strE (by kernel_rfl)) (sa_cons (si_strE (by kernel_rfl)) (sa_cons (si_strE (by kernel_rfl)) sa_nil)))))) (fun _ _ _ _ _ => (sg_name ((E).blk).nd rfl (by walk_at "pd_loc") (by walk_at "pd_fnl"))) (fun _ _ _ _ _ => sts_nil) (fun _ _ _ _ _ => (si_bin od_add (si_var rfl (by walk_at "pd_vis")) (si_lst (sa_cons (si_var rfl (by walk_at "pd_vis")) sa_nil)))) (blkOk_by (by kernel_rfl)) (by decide)))) sss_nil)) (sss_cons (ss_set E rfl (by walk_at "pd_loc") (Or.inl rfl) (si_var rfl (by walk_at "pd_vis"))) sss_nil)))) (sss_cons (ss_ret (si_var rfl (by walk_at "pd_vis"))) sss_nil)))
theorem b5 {P : Program} {w : World} {K : PySem.W.Frag} {mg : Str → Option Value} {base : Heap} {f : Addr} {cdv : Value} {A : Around} {outer : List Env} {s : Shared} {H : Hp} {EX : XK} {L : Pl} {cf : Nat → List D → Store → Res D} (X : Cx) (hX : X = cxOf CX0 P w K mg base n5 q5 (defScope s5) f cdv A outer s H EX)
    (E : EnvOk X L G cf) (Ca : Calls X L cf) (M : Mg X L) : SimSs X L G cf (defBody s5) c5 := by
  have hp : PassesOwn (model X.prog X.w) X.A X.env X.xe := by subst hX; exact passes_of rfl
  subst hX
  exact (sss_cons (ss_ret (si_attrE E (by kernel_rfl) (si_var rfl (by walk_at "pd_vis")))) sss_nil)
theorem b6 {P : Program} {w : World} {K : PySem.W.Frag} {mg : Str → Option Value} {base : Heap} {f : Addr} {cdv : Value} {A : Around} {outer : List Env} {s : Shared} {H : Hp} {EX : XK} {L : Pl} {cf : Nat → List D → Store → Res D} (X : Cx) (hX : X = cxOf CX0 P w K mg base n6 q6 (defScope s6) f cdv A outer s H EX)
    (E : EnvOk X L G cf) (Ca : Calls X L cf) (M : Mg X L) : SimSs X L G cf (defBody s6) c6 := by
  have hp : PassesOwn (model X.prog X.w) X.A X.env X.xe := by subst hX; exact passes_of rfl
  subst hX
  exact (sss_cons (ss_ret (si_call Ca.k6 (by unfold Gl; kernel_rfl) (sa_cons (si_attrE E (by kernel_rfl) (si_var rfl (by walk_at "pd_vis"))) (sa_cons (si_call Ca.k7 (by unfold Gl; kernel_rfl) (sa_cons (si_var rfl (by walk_at "pd_vis")) (sa_cons (si_var rfl (by walk_at "pd_vis")) sa_nil))) sa_nil)))) sss_nil)
theorem b7 {P : Program} {w : World} {K : PySem.W.Frag} {mg : Str → Option Value} {base : Heap} {f : Addr} {cdv : Value} {A : Around} {outer : List Env} {s : Shared} {H : Hp} {EX : XK} {L : Pl} {cf : Nat → List D → Store → Res D} (X : Cx) (hX : X = cxOf CX0 P w K mg base n7 q7 (defScope s7) f cdv A outer s H EX)
    (E : EnvOk X L G cf) (Ca : Calls X L cf) (M : Mg X L) : SimSs X L G cf (defBody s7) c7 := by
  have hp : PassesOwn (model X.prog X.w) X.A X.env X.xe := by subst hX; exact passes_of rfl
  subst hX
  exact (sss_cons (ss_set E rfl (by walk_at "pd_loc") (Or.inl rfl) (si_call Ca.k12 (by unfold Gl; kernel_rfl) (sa_cons (si_var rfl (by walk_at "pd_vis")) (sa_cons (si_attrE E (by kernel_rfl) (si_call Ca.k13 (by unfold Gl; kernel_rfl) (sa_cons (si_var rfl (by walk_at "pd_vis")) sa_nil))) sa_nil)))) (sss_cons (ss_if (st_cmp (cd_isN) (si_var rfl (by walk_at "pd_vis")) si_non (nomark _)) (sss_cons ss_never sss_nil) sss_nil) (sss_cons (ss_expr (si_call Ca.k11 (by unfold Gl; kernel_rfl) (sa_cons (si_var rfl (by walk_at "pd_vis")) (sa_cons (si_var rfl (by walk_at "pd_vis")) (sa_cons (si_glb (by unfold Gl; kernel_rfl) rfl M.g3) sa_nil))))) (sss_cons (ss_set E rfl (by walk_at "pd_loc") (Or.inl rfl) (si_lst (sa_cons (si_tup sa_nil) sa_nil))) (sss_cons (ss_for hp E (ii_seq (si_var rfl (by walk_at "pd_vis"))) (sg_name E.nd rfl (by walk_at "pd_loc") (by walk_at "pd_fnl")) (sss_cons (ss_set E rfl (by walk_at "pd_loc") (Or.inl rfl) (si_call Ca.k10 (by unfold Gl; kernel_rfl) (sa_cons (si_var rfl (by walk_at "pd_vis")) (sa_cons (si_var rfl (by walk_at "pd_vis")) (sa_cons (si_var rfl (by walk_at "pd_vis")) sa_nil))))) (sss_cons (ss_setLc2 (own := [(PySem.Str.ofString "row", 7), (PySem.Str.ofString "bits", 9)]) E rfl rfl (sw_lc rfl rfl (by decide) (by rfl)) (ii_seq (si_var rfl (by walk_at "pd_vis"))) (fun _ _ _ _ _ => (sg_name ((E).blk).nd rfl (by walk_at "pd_loc") (by walk_at "pd_fnl"))) (fun _ _ _ _ _ => (ii_seq (si_var rfl (by walk_at "pd_vis")))) (fun _ _ _ _ _ => (sg_name ((E).blk).nd rfl (by walk_at "pd_loc") (by walk_at "pd_fnl"))) (fun _ _ _ _ _ => (si_bin od_add (si_var rfl (by walk_at "pd_vis")) (si_tup (sa_cons (si_var rfl (by walk_at "pd_vis")) sa_nil)))) (blkOk_by (by kernel_rfl)) (by decide) (by decide) (by decide)) sss_nil))) (sss_cons (ss_for hp E (ii_seq (si_var rfl (by walk_at "pd_vis"))) (sg_name E.nd rfl (by walk_at "pd_loc") (by walk_at "pd_fnl")) (sss_cons (ss_if (st_val (si_call Ca.k8 (by unfold Gl; kernel_rfl) (sa_cons (si_var rfl (by walk_at "pd_vis")) (sa_cons (si_var rfl (by walk_at "pd_vis")) (sa_cons (si_var rfl (by walk_at "pd_vis")) (sa_cons (si_var rfl (by walk_at "pd_vis")) sa_nil)))))) (sss_cons (ss_ret (si_scope (si_tuple1 (by unfold Gl; kernel_rfl) (M.b_tuple) (sa_cons (si_lc (own := [(PySem.Str.ofString "bits", 9)]) E (ii_seq (si_var rfl (by walk_at "pd_vis"))) (fun _ _ _ _ _ => (sg_name ((E).blk).nd rfl (by walk_at "pd_loc") (by walk_at "pd_fnl"))) (fun _ _ _ _ _ => sts_nil) (fun _ _ _ _ _ => (si_mkK ((Ca).blk).k9 (by unfold Gl; kernel_rfl) (sa_cons (si_var rfl (by walk_at "pd_vis")) sa_nil) (sk_cons (si_var rfl (by walk_at "pd_vis")) (sk_cons (si_var rfl (by walk_at "pd_vis")) sk_nil)) rfl)) (blkOk_by (by kernel_rfl)) (by decide)) sa_nil)))) sss_nil) sss_nil) sss_nil)) (sss_cons (ss_ret si_non) sss_nil)))))))
theorem b8 {P : Program} {w : World} {K : PySem.W.Frag} {mg : Str → Option Value} {base : Heap} {f : Addr} {cdv : Value} {A : Around} {outer : List Env} {s : Shared} {H : Hp} {EX : XK} {L : Pl} {cf : Nat → List D → Store → Res D} (X : Cx) (hX : X = cxOf CX0 P w K mg base n8 q8 (defScope s8) f cdv A outer s H EX)
    (E : EnvOk X L G cf) (Ca : Calls X L cf) (M : Mg X L) : SimSs X L G cf (defBody s8) c8 := by
  have hp : PassesOwn (model X.prog X.w) X.A X.env X.xe := by subst hX; exact passes_of rfl
  subst hX
  exact (sss_cons (ss_if (st_not (st_val (si_call Ca.k15 (by unfold Gl; kernel_rfl) (sa_cons (si_var rfl (by walk_at "pd_vis")) sa_nil)))) (sss_cons ss_never sss_nil) sss_nil) (sss_cons (ss_asgT (si_sub E (si_glb (by unfold Gl; kernel_rfl) rfl M.g5) (si_var rfl (by walk_at "pd_vis"))) (sg_tup E.calm (sgs_cons E.nd rfl (by walk_at "pd_loc") (by walk_at "pd_fnl") (sgs_cons E.nd rfl (by walk_at "pd_loc") (by walk_at "pd_fnl") (sgs_cons E.nd rfl (by walk_at "pd_loc") (by walk_at "pd_fnl") (sgs_cons E.nd rfl (by walk_at "pd_loc") (by walk_at "pd_fnl") sgs_nil)))))) (sss_cons (ss_ret (si_mkK Ca.k14 (by unfold Gl; kernel_rfl) (sa_cons (si_var rfl (by walk_at "pd_vis")) (sa_cons (si_var rfl (by walk_at "pd_vis")) sa_nil)) (sk_cons (si_var rfl (by walk_at "pd_vis")) (sk_cons (si_var rfl (by walk_at "pd_vis")) sk_nil)) rfl)) sss_nil)))
theorem b9 {P : Program} {w : World} {K : PySem.W.Frag} {mg : Str → Option Value} {base : Heap} {f : Addr} {cdv : Value} {A : Around} {outer : List Env} {s : Shared} {H : Hp} {EX : XK} {L : Pl} {cf : Nat → List D → Store → Res D} (X : Cx) (hX : X = cxOf CX0 P w K mg base n9 q9 (defScope s9) f cdv A outer s H EX)
    (E : EnvOk X L G cf) (Ca : Calls X L cf) (M : Mg X L) : SimSs X L G cf (defBody s9) c9 := by
  have hp : PassesOwn (model X.prog X.w) X.A X.env X.xe := by subst hX; exact passes_of rfl
  subst hX
  exact (sss_cons (ss_ret (si_scope (si_any E (by unfold Gl; kernel_rfl) (M.b_any) (sa_cons (si_lc (own := [(PySem.Str.ofString "wants", 2)]) E (ii_seq (si_var rfl (by walk_at "pd_vis"))) (fun _ _ _ _ _ => (sg_name ((E).blk).nd rfl (by walk_at "pd_loc") (by walk_at "pd_fnl"))) (fun _ _ _ _ _ => sts_nil) (fun _ _ _ _ _ => (si_call ((Ca).blk).k16 (by unfold Gl; kernel_rfl) (sa_cons (si_var rfl (by walk_at "pd_vis")) (sa_cons (si_var rfl (by walk_at "pd_vis")) sa_nil)))) (blkOk_by (by kernel_rfl)) (by decide)) sa_nil)))) sss_nil)
theorem b10 {P : Program} {w : World} {K : PySem.W.Frag} {mg : Str → Option Value} {base : Heap} {f : Addr} {cdv : Value} {A : Around} {outer : List Env} {s : Shared} {H : Hp} {EX : XK} {L : Pl} {cf : Nat → List D → Store → Res D} (X : Cx) (hX : X = cxOf CX0 P w K mg base n10 q10 (defScope s10) f cdv A outer s H EX)
    (E : EnvOk X L G cf) (Ca : Calls X L cf) (M : Mg X L) : SimSs X L G cf (defBody s10) c10 := by
  have hp : PassesOwn (model X.prog X.w) X.A X.env X.xe := by subst hX; exact passes_of rfl
  subst hX
  exact (sss_cons (ss_set E rfl (by walk_at "pd_loc") (Or.inl rfl) (si_call Ca.k12 (by unfold Gl; kernel_rfl) (sa_cons (si_var rfl (by walk_at "pd_vis")) (sa_cons (si_attrE E (by kernel_rfl) (si_var rfl (by walk_at "pd_vis"))) sa_nil)))) (sss_cons (ss_if (st_cmp (cd_isN) (si_var rfl (by walk_at "pd_vis")) si_non (nomark _)) (sss_cons ss_never sss_nil) sss_nil) (sss_cons (ss_ret (si_var rfl (by walk_at "pd_vis"))) sss_nil)))
theorem b11 {P : Program} {w : World} {K : PySem.W.Frag} {mg : Str → Option Value} {base : Heap} {f : Addr} {cdv : Value} {A : Around} {outer : List Env} {s : Shared} {H : Hp} {EX : XK} {L : Pl} {cf : Nat → List D → Store → Res D} (X : Cx) (hX : X = cxOf CX0 P w K mg base n11 q11 (defScope s11) f cdv A outer s H EX)
    (E : EnvOk X L G cf) (Ca : Calls X L cf) (M : Mg X L) : SimSs X L G cf (defBody s11) c11 := by
  have hp : PassesOwn (model X.prog X.w) X.A X.env X.xe := by subst hX; exact passes_of rfl
  subst hX
  exact (sss_cons (ss_set E rfl (by walk_at "pd_loc") (Or.inl rfl) (si_call Ca.k18 (by unfold Gl; kernel_rfl) (sa_cons (si_var rfl (by walk_at "pd_vis")) sa_nil))) (sss_cons (ss_set E rfl (by walk_at "pd_loc") (Or.inl rfl) (si_bin od_band (si_call Ca.k17 (by unfold Gl; kernel_rfl) (sa_cons (si_var rfl (by walk_at "pd_vis")) (sa_cons (si_var rfl (by walk_at "pd_vis")) (sa_cons (si_var rfl (by walk_at "pd_vis")) sa_nil)))) (si_var rfl (by walk_at "pd_vis")))) (sss_cons (ss_ret (si_cmp (cd_ne E.hu) (si_var rfl (by walk_at "pd_vis")) (si_call Ca.k17 (by unfold Gl; kernel_rfl) (sa_cons (si_var rfl (by walk_at "pd_vis")) (sa_cons (si_lc (own := [(PySem.Str.ofString "bits", 6)]) E (ii_seq (si_var rfl (by walk_at "pd_vis"))) (fun _ _ _ _ _ => (sg_name ((E).blk).nd rfl (by walk_at "pd_loc") (by walk_at "pd_fnl"))) (fun _ _ _ _ _ => sts_nil) (fun _ _ _ _ _ => (si_bin od_band (si_var rfl (by walk_at "pd_vis")) (si_var rfl (by walk_at "pd_vis")))) (blkOk_by (by kernel_rfl)) (by decide)) (sa_cons (si_var rfl (by walk_at "pd_vis")) sa_nil)))) (nomark _))) sss_nil)))
theorem b12 {P : Program} {w : World} {K : PySem.W.Frag} {mg : Str → Option Value} {base : Heap} {f : Addr} {cdv : Value} {A : Around} {outer : List Env} {s : Shared} {H : Hp} {EX : XK} {L : Pl} {cf : Nat → List D → Store → Res D} (X : Cx) (hX : X = cxOf CX0 P w K mg base n12 q12 (defScope s12) f cdv A outer s H EX)
    (E : EnvOk X L G cf) (Ca : Calls X L cf) (M : Mg X L) : SimSs X L G cf (defBody s12) c12 := by
  have hp : PassesOwn (model X.prog X.w) X.A X.env X.xe := by subst hX; exact passes_of rfl
  subst hX
  exact (sss_cons (ss_if (st_not (st_val (si_call Ca.k20 (by unfold Gl; kernel_rfl) (sa_cons (si_var rfl (by walk_at "pd_vis")) sa_nil)))) (sss_cons ss_never sss_nil) sss_nil) (sss_cons (ss_expr (si_call Ca.k19 (by unfold Gl; kernel_rfl) (sa_cons (si_var rfl (by walk_at "pd_vis")) (sa_cons (si_var rfl (by walk_at "pd_vis")) sa_nil)))) (sss_cons (ss_setFE E (by kernel_rfl) (si_bin od_band (si_var rfl (by walk_at "pd_vis")) (si_call Ca.k18 (by unfold Gl; kernel_rfl) (sa_cons (si_var rfl (by walk_at "pd_vis")) sa_nil))) (si_var rfl (by walk_at "pd_vis"))) (sss_cons (ss_setFE E (by kernel_rfl) (si_var rfl (by walk_at "pd_vis")) (si_var rfl (by walk_at "pd_vis"))) (sss_cons (ss_setFE E (by kernel_rfl) (si_var rfl (by walk_at "pd_vis")) (si_var rfl (by walk_at "pd_vis"))) sss_nil)))))
theorem b13 {P : Program} {w : World} {K : PySem.W.Frag} {mg : Str → Option Value} {base : Heap} {f : Addr} {cdv : Value} {A : Around} {outer : List Env} {s : Shared} {H : Hp} {EX : XK} {L : Pl} {cf : Nat → List D → Store → Res D} (X : Cx) (hX : X = cxOf CX0 P w K mg base n13 q13 (defScope s13) f cdv A outer s H EX)
    (E : EnvOk X L G cf) (Ca : Calls X L cf) (M : Mg X L) : SimSs X L G cf (defBody s13) c13 := by
  have hp : PassesOwn (model X.prog X.w) X.A X.env X.xe := by subst hX; exact passes_of rfl
  subst hX
  exact (sss_cons (ss_set E rfl (by walk_at "pd_loc") (Or.inl rfl) (si_lst sa_nil)) (sss_cons (ss_for hp E (ii_range1 (by unfold Gl; kernel_rfl) (M.b_range) (si_bin od_shl si_int (si_var rfl (by walk_at "pd_vis")))) (sg_name E.nd rfl (by walk_at "pd_loc") (by walk_at "pd_fnl")) (sss_cons (ss_set E rfl (by walk_at "pd_loc") (Or.inl rfl) (si_call Ca.k21 (by unfold Gl; kernel_rfl) (sa_cons (si_var rfl (by walk_at "pd_vis")) (sa_cons (si_var rfl (by walk_at "pd_vis")) (sa_cons (si_var rfl (by walk_at "pd_vis")) sa_nil))))) (sss_cons (ss_if (st_val (si_scope (si_all E (by unfold Gl; kernel_rfl) (M.b_all) (sa_cons (si_lc (own := [(PySem.Str.ofString "mark", 6)]) E (ii_seq (si_var rfl (by walk_at "pd_vis"))) (fun _ _ _ _ _ => (sg_name ((E).blk).nd rfl (by walk_at "pd_loc") (by walk_at "pd_fnl"))) (fun _ _ _ _ _ => sts_nil) (fun _ _ _ _ _ => (si_cmp (cd_in ((E).blk).kd) (si_var rfl (by walk_at "pd_vis")) (si_var rfl (by walk_at "pd_vis")) (by rfl))) (blkOk_by (by kernel_rfl)) (by decide)) sa_nil)))) (sss_cons (ss_expr (si_app (si_var rfl (by walk_at "pd_vis")) (si_var rfl (by walk_at "pd_vis")))) sss_nil) sss_nil) sss_nil))) (sss_cons (ss_ret (si_var rfl (by walk_at "pd_vis"))) sss_nil)))
theorem b14 {P : Program} {w : World} {K : PySem.W.Frag} {mg : Str → Option Value} {base : Heap} {f : Addr} {cdv : Value} {A : Around} {outer : List Env} {s : Shared} {H : Hp} {EX : XK} {L : Pl} {cf : Nat → List D → Store → Res D} (X : Cx) (hX : X = cxOf CX0 P w K mg base n14 q14 (defScope s14) f cdv A outer s H EX)
    (E : EnvOk X L G cf) (Ca : Calls X L cf) (M : Mg X L) : SimSs X L G cf (defBody s14) c14 := by
  have hp : PassesOwn (model X.prog X.w) X.A X.env X.xe := by subst hX; exact passes_of rfl
  subst hX
  exact (sss_cons (ss_if (st_not (st_val (si_call Ca.k22 (by unfold Gl; kernel_rfl) (sa_cons (si_var rfl (by walk_at "pd_vis")) (sa_cons si_int (sa_cons si_int sa_nil)))))) (sss_cons ss_never sss_nil) sss_nil) (sss_cons (ss_if (st_not (st_val (si_call Ca.k22 (by unfold Gl; kernel_rfl) (sa_cons (si_var rfl (by walk_at "pd_vis")) (sa_cons (si_bin od_add (si_var rfl (by walk_at "pd_vis")) si_int) (sa_cons (si_var rfl (by walk_at "pd_vis")) sa_nil)))))) (sss_cons ss_never sss_nil) sss_nil) sss_nil))
theorem b15 {P : Program} {w : World} {K : PySem.W.Frag} {mg : Str → Option Value} {base : Heap} {f : Addr} {cdv : Value} {A : Around} {outer : List Env} {s : Shared} {H : Hp} {EX : XK} {L : Pl} {cf : Nat → List D → Store → Res D} (X : Cx) (hX : X = cxOf CX0 P w K mg base n15 q15 (defScope s15) f cdv A outer s H EX)
    (E : EnvOk X L G cf) (Ca : Calls X L cf) (M : Mg X L) : SimSs X L G cf (defBody s15) c15 := by
  have hp : PassesOwn (model X.prog X.w) X.A X.env X.xe := by subst hX; exact passes_of rfl
  subst hX
  exact (sss_cons (ss_if (st_w (sw_or (st_not (st_val (si_call Ca.k24 (by unfold Gl; kernel_rfl) (sa_cons (si_var rfl (by walk_at "pd_vis")) sa_nil)))) (sw_or1 (st_cmp (cd_ne E.hu) (si_len (by unfold Gl; kernel_rfl) (M.b_len) (sa_cons (si_var rfl (by walk_at "pd_vis")) sa_nil)) (si_var rfl (by walk_at "pd_vis")) (nomark _))))) (sss_cons (ss_ret si_non) sss_nil) sss_nil) (sss_cons (ss_set E rfl (by walk_at "pd_loc") (Or.inl rfl) (si_scope (si_tuple1 (by unfold Gl; kernel_rfl) (M.b_tuple) (sa_cons (si_lc (own := [(PySem.Str.ofString "thing", 3)]) E (ii_seq (si_var rfl (by walk_at "pd_vis"))) (fun _ _ _ _ _ => (sg_name ((E).blk).nd rfl (by walk_at "pd_loc") (by walk_at "pd_fnl"))) (fun _ _ _ _ _ => sts_nil) (fun _ _ _ _ _ => (si_call ((Ca).blk).k23 (by unfold Gl; kernel_rfl) (sa_cons (si_var rfl (by walk_at "pd_vis")) sa_nil))) (blkOk_by (by kernel_rfl)) (by decide)) sa_nil)))) (sss_cons (ss_if (st_cmp (cd_in E.kd) si_non (si_var rfl (by walk_at "pd_vis")) (by rfl)) (sss_cons (ss_ret si_non) sss_nil) sss_nil) (sss_cons (ss_ret (si_var rfl (by walk_at "pd_vis"))) sss_nil))))
theorem b16 {P : Program} {w : World} {K : PySem.W.Frag} {mg : Str → Option Value} {base : Heap} {f : Addr} {cdv : Value} {A : Around} {outer : List Env} {s : Shared} {H : Hp} {EX : XK} {L : Pl} {cf : Nat → List D → Store → Res D} (X : Cx) (hX : X = cxOf CX0 P w K mg base n16 q16 (defScope s16) f cdv A outer s H EX)
    (E : EnvOk X L G cf) (Ca : Calls X L cf) (M : Mg X L) : SimSs X L G cf (defBody s16) c16 := by
  have hp : PassesOwn (model X.prog X.w) X.A X.env X.xe := by subst hX; exact passes_of rfl
  subst hX
  exact (sss_cons (ss_set E rfl (by walk_at "pd_loc") (Or.inl rfl) (si_call Ca.k5 (by unfold Gl; kernel_rfl) (sa_cons (si_var rfl (by walk_at "pd_vis")) sa_nil))) (sss_cons (ss_if (st_w (sw_or (st_cmp (cd_eq E.hu) (si_attrE E (by kernel_rfl) (si_var rfl (by walk_at "pd_vis"))) si_int (nomark _)) (sw_or1 (st_cmp (cd_eq E.hu) (si_var rfl (by walk_at "pd_vis")) (si_strE (by kernel_rfl)) (nomark _))))) (sss_cons ss_never sss_nil) sss_nil) (sss_cons (ss_ret (si_var rfl (by walk_at "pd_vis"))) sss_nil)))
theorem b17 {P : Program} {w : World} {K : PySem.W.Frag} {mg : Str → Option Value} {base : Heap} {f : Addr} {cdv : Value} {A : Around} {outer : List Env} {s : Shared} {H : Hp} {EX : XK} {L : Pl} {cf : Nat → List D → Store → Res D} (X : Cx) (hX : X = cxOf CX0 P w K mg base n17 q17 (defScope s17) f cdv A outer s H EX)
    (E : EnvOk X L G cf) (Ca : Calls X L cf) (M : Mg X L) : SimSs X L G cf (defBody s17) c17 := by
  have hp : PassesOwn (model X.prog X.w) X.A X.env X.xe := by subst hX; exact passes_of rfl
  subst hX
  exact (sss_cons (ss_if (st_not (st_val (si_call Ca.k22 (by unfold Gl; kernel_rfl) (sa_cons (si_var rfl (by walk_at "pd_vis")) (sa_cons si_int (sa_cons si_int sa_nil)))))) (sss_cons ss_never sss_nil) sss_nil) (sss_cons (ss_if (st_w (sw_and (st_cmp (cd_notN) (si_var rfl (by walk_at "pd_vis")) si_non (nomark _)) (sw_and1 (st_not (st_val (si_call Ca.k25 (by unfold Gl; kernel_rfl) (sa_cons (si_var rfl (by walk_at "pd_vis")) (sa_cons (si_var rfl (by walk_at "pd_vis")) (sa_cons si_int sa_nil))))))))) (sss_cons ss_never sss_nil) sss_nil) (sss_cons (ss_if (st_not (st_val (si_call Ca.k25 (by unfold Gl; kernel_rfl) (sa_cons (si_var rfl (by walk_at "pd_vis")) (sa_cons (si_var rfl (by walk_at "pd_vis")) (sa_cons si_int sa_nil)))))) (sss_cons ss_never sss_nil) sss_nil) (sss_cons (ss_if (st_not (st_val (si_call Ca.k25 (by unfold Gl; kernel_rfl) (sa_cons (si_var rfl (by walk_at "pd_vis")) (sa_cons (si_var rfl (by walk_at "pd_vis")) (sa_cons si_int sa_nil)))))) (sss_cons ss_never sss_nil) sss_nil) (sss_cons (ss_setFE E (by kernel_rfl) (si_var rfl (by walk_at "pd_vis")) (si_var rfl (by walk_at "pd_vis"))) (sss_cons (ss_setFE E (by kernel_rfl) (si_ite (st_cmp (cd_isN) (si_var rfl (by walk_at "pd_vis")) si_non (nomark _)) (si_tup (sa_cons (si_bin od_mul (si_tup (sa_cons (si_strE (by kernel_rfl)) sa_nil)) (si_var rfl (by walk_at "pd_vis"))) sa_nil)) (si_var rfl (by walk_at "pd_vis"))) (si_var rfl (by walk_at "pd_vis"))) (sss_cons (ss_setFE E (by kernel_rfl) (si_var rfl (by walk_at "pd_vis")) (si_var rfl (by walk_at "pd_vis"))) (sss_cons (ss_setFE E (by kernel_rfl) (si_var rfl (by walk_at "pd_vis")) (si_var rfl (by walk_at "pd_vis"))) sss_nil))))))))
theorem b18 {P : Program} {w : World} {K : PySem.W.Frag} {mg : Str → Option Value} {base : Heap} {f : Addr} {cdv : Value} {A : Around} {outer : List Env} {s : Shared} {H : Hp} {EX : XK} {L : Pl} {cf : Nat → List D → Store → Res D} (X : Cx) (hX : X = cxOf CX0 P w K mg base n18 q18 (defScope s18) f cdv A outer s H EX)
    (E : EnvOk X L G cf) (Ca : Calls X L cf) (M : Mg X L) : SimSs X L G cf (defBody s18) c18 := by
  have hp : PassesOwn (model X.prog X.w) X.A X.env X.xe := by subst hX; exact passes_of rfl
  subst hX
  exact (sss_cons (ss_ret (si_and (si_isi E (by unfold Gl; kernel_rfl) (M.b_isinstance) (si_var rfl (by walk_at "pd_vis")) (tk_name rfl (by unfold Gl; kernel_rfl) (M.b_str) (by rfl))) (si_one (si_cmp (cd_in E.kd) (si_var rfl (by walk_at "pd_vis")) (si_glb (by unfold Gl; kernel_rfl) rfl M.g5) (by rfl))))) sss_nil)
theorem b19 {P : Program} {w : World} {K : PySem.W.Frag} {mg : Str → Option Value} {base : Heap} {f : Addr} {cdv : Value} {A : Around} {outer : List Env} {s : Shared} {H : Hp} {EX : XK} {L : Pl} {cf : Nat → List D → Store → Res D} (X : Cx) (hX : X = cxOf CX0 P w K mg base n19 q19 (defScope s19) f cdv A outer s H EX)
    (E : EnvOk X L G cf) (Ca : Calls X L cf) (M : Mg X L) : SimSs X L G cf (defBody s19) c19 := by
  have hp : PassesOwn (model X.prog X.w) X.A X.env X.xe := by subst hX; exact passes_of rfl
  subst hX
  exact (sss_cons (ss_ret (si_scope (si_all E (by unfold Gl; kernel_rfl) (M.b_all) (sa_cons (si_lc (own := [(PySem.Str.ofString "want", 2), (PySem.Str.ofString "have", 3)]) E (ii_zip (by unfold Gl; kernel_rfl) (M.b_zip) (si_var rfl (by walk_at "pd_vis")) (si_var rfl (by walk_at "pd_vis"))) (fun _ _ _ _ _ => (sg_tup ((E).blk).calm (sgs_cons ((E).blk).nd rfl (by walk_at "pd_loc") (by walk_at "pd_fnl") (sgs_cons ((E).blk).nd rfl (by walk_at "pd_loc") (by walk_at "pd_fnl") sgs_nil)))) (fun _ _ _ _ _ => sts_nil) (fun _ _ _ _ _ => (si_or (si_cmp (cd_in ((E).blk).kd) (si_var rfl (by walk_at "pd_vis")) (si_tup (sa_cons (si_strE (by kernel_rfl)) (sa_cons (si_var rfl (by walk_at "pd_vis")) sa_nil))) (by rfl)) (si_one (si_cmp (cd_eq ((E).blk).hu) (si_var rfl (by walk_at "pd_vis")) (si_strE (by kernel_rfl)) (nomark _))))) (blkOk_by (by kernel_rfl)) (by decide)) sa_nil)))) sss_nil)
theorem b20 {P : Program} {w : World} {K : PySem.W.Frag} {mg : Str → Option Value} {base : Heap} {f : Addr} {cdv : Value} {A : Around} {outer : List Env} {s : Shared} {H : Hp} {EX : XK} {L : Pl} {cf : Nat → List D → Store → Res D} (X : Cx) (hX : X = cxOf CX0 P w K mg base n20 q20 (defScope s20) f cdv A outer s H EX)
    (E : EnvOk X L G cf) (Ca : Calls X L cf) (M : Mg X L) : SimSs X L G cf (defBody s20) c20 := by
  have hp : PassesOwn (model X.prog X.w) X.A X.env X.xe := by subst hX; exact passes_of rfl
  subst hX
  exact (sss_cons (ss_if (st_cmp (cd_eq E.hu) (si_len (by unfold Gl; kernel_rfl) (M.b_len) (sa_cons (si_var rfl (by walk_at "pd_vis")) sa_nil)) si_int (nomark _)) (sss_cons (ss_set E rfl (by walk_at "pd_loc") (Or.inl rfl) (si_call Ca.k26 (by unfold Gl; kernel_rfl) (sa_cons (si_var rfl (by walk_at "pd_vis")) (sa_cons (si_sub E (si_var rfl (by walk_at "pd_vis")) si_int) (sa_cons (si_var rfl (by walk_at "pd_vis")) sa_nil))))) sss_nil) (sss_cons (ss_if (st_cmp (cd_in E.kd) (si_var rfl (by walk_at "pd_vis")) (si_tup (sa_cons (si_strE (by kernel_rfl)) (sa_cons (si_strE (by kernel_rfl)) (sa_cons (si_strE (by kernel_rfl)) sa_nil)))) (by rfl)) (sss_cons (ss_set E rfl (by walk_at "pd_loc") (Or.inl rfl) (si_call Ca.k27 (by unfold Gl; kernel_rfl) (sa_cons (si_var rfl (by walk_at "pd_vis")) (sa_cons (si_call Ca.k28 (by unfold Gl; kernel_rfl) (sa_cons (si_sub E (si_var rfl (by walk_at "pd_vis")) si_int) (sa_cons (si_var rfl (by walk_at "pd_vis")) sa_nil))) (sa_cons (si_call Ca.k28 (by unfold Gl; kernel_rfl) (sa_cons (si_sub E (si_var rfl (by walk_at "pd_vis")) si_int) (sa_cons (si_var rfl (by walk_at "pd_vis")) sa_nil))) sa_nil))))) sss_nil) (sss_cons (ss_set E rfl (by walk_at "pd_loc") (Or.inl rfl) (si_call Ca.k29 (by unfold Gl; kernel_rfl) (sa_cons (si_var rfl (by walk_at "pd_vis")) (sa_cons (si_sub E (si_var rfl (by walk_at "pd_vis")) si_int) (sa_cons (si_sub E (si_var rfl (by walk_at "pd_vis")) si_int) sa_nil))))) sss_nil)) sss_nil)) (sss_cons (ss_ret (si_bin od_band (si_var rfl (by walk_at "pd_vis")) (si_call Ca.k18 (by unfold Gl; kernel_rfl) (sa_cons (si_var rfl (by walk_at "pd_vis")) sa_nil)))) sss_nil))
theorem b21 {P : Program} {w : World} {K : PySem.W.Frag} {mg : Str → Option Value} {base : Heap} {f : Addr} {cdv : Value} {A : Around} {outer : List Env} {s : Shared} {H : Hp} {EX : XK} {L : Pl} {cf : Nat → List D → Store → Res D} (X : Cx) (hX : X = cxOf CX0 P w K mg base n21 q21 (defScope s21) f cdv A outer s H EX)
    (E : EnvOk X L G cf) (Ca : Calls X L cf) (M : Mg X L) : SimSs X L G cf (defBody s21) c21 := by
  have hp : PassesOwn (model X.prog X.w) X.A X.env X.xe := by subst hX; exact passes_of rfl
  subst hX
  exact (sss_cons (ss_ret (si_bin od_sub (si_bin od_shl si_int (si_var rfl (by walk_at "pd_vis"))) si_int)) sss_nil)
theorem b22 {P : Program} {w : World} {K : PySem.W.Frag} {mg : Str → Option Value} {base : Heap} {f : Addr} {cdv : Value} {A : Around} {outer : List Env} {s : Shared} {H : Hp} {EX : XK} {L : Pl} {cf : Nat → List D → Store → Res D} (X : Cx) (hX : X = cxOf CX0 P w K mg base n22 q22 (defScope s22) f cdv A outer s H EX)
    (E : EnvOk X L G cf) (Ca : Calls X L cf) (M : Mg X L) : SimSs X L G cf (defBody s22) c22 := by
  have hp : PassesOwn (model X.prog X.w) X.A X.env X.xe := by subst hX; exact passes_of rfl
  subst hX
  exact (sss_cons (ss_ret (si_and (si_isi E (by unfold Gl; kernel_rfl) (M.b_isinstance) (si_var rfl (by walk_at "pd_vis")) (tk_name rfl (by unfold Gl; kernel_rfl) (M.b_int) (by rfl))) (si_one (si_not (si_isi E (by unfold Gl; kernel_rfl) (M.b_isinstance) (si_var rfl (by walk_at "pd_vis")) (tk_name rfl (by unfold Gl; kernel_rfl) (M.b_bool) (by rfl))))))) sss_nil)
theorem b23 {P : Program} {w : World} {K : PySem.W.Frag} {mg : Str → Option Value} {base : Heap} {f : Addr} {cdv : Value} {A : Around} {outer : List Env} {s : Shared} {H : Hp} {EX : XK} {L : Pl} {cf : Nat → List D → Store → Res D} (X : Cx) (hX : X = cxOf CX0 P w K mg base n23 q23 (defScope s23) f cdv A outer s H EX)
    (E : EnvOk X L G cf) (Ca : Calls X L cf) (M : Mg X L) : SimSs X L G cf (defBody s23) c23 := by
  have hp : PassesOwn (model X.prog X.w) X.A X.env X.xe := by subst hX; exact passes_of rfl
  subst hX
  exact (sss_cons (ss_set E rfl (by walk_at "pd_loc") (Or.inl rfl) (si_bin od_shr (si_var rfl (by walk_at "pd_vis")) (si_var rfl (by walk_at "pd_vis")))) (sss_cons (ss_set E rfl (by walk_at "pd_loc") (Or.inl rfl) (si_bin od_band (si_bin od_shr (si_var rfl (by walk_at "pd_vis")) (si_bin od_sub (si_var rfl (by walk_at "pd_vis")) si_int)) si_int)) (sss_cons (ss_set E rfl (by walk_at "pd_loc") (Or.inl rfl) (si_strE (by kernel_rfl))) (sss_cons (ss_if (st_cmp (cd_eq E.hu) (si_var rfl (by walk_at "pd_vis")) si_int (nomark _)) (sss_cons (ss_set E rfl (by walk_at "pd_loc") (Or.inl rfl) (si_strE (by kernel_rfl))) sss_nil) sss_nil) (sss_cons (ss_if (st_cmp (cd_eq E.hu) (si_var rfl (by walk_at "pd_vis")) (si_bin od_mul (si_var rfl (by walk_at "pd_vis")) (si_call Ca.k18 (by unfold Gl; kernel_rfl) (sa_cons (si_bin od_sub (si_var rfl (by walk_at "pd_vis")) (si_var rfl (by walk_at "pd_vis"))) sa_nil))) (nomark _)) (sss_cons (ss_set E rfl (by walk_at "pd_loc") (Or.inl rfl) (si_bin od_add (si_var rfl (by walk_at "pd_vis")) (si_strE (by kernel_rfl)))) sss_nil) sss_nil) (sss_cons (ss_ret (si_var rfl (by walk_at "pd_vis"))) sss_nil))))))
theorem b24 {P : Program} {w : World} {K : PySem.W.Frag} {mg : Str → Option Value} {base : Heap} {f : Addr} {cdv : Value} {A : Around} {outer : List Env} {s : Shared} {H : Hp} {EX : XK} {L : Pl} {cf : Nat → List D → Store → Res D} (X : Cx) (hX : X = cxOf CX0 P w K mg base n24 q24 (defScope s24) f cdv A outer s H EX)
    (E : EnvOk X L G cf) (Ca : Calls X L cf) (M : Mg X L) : SimSs X L G cf (defBody s24) c24 := by
  have hp : PassesOwn (model X.prog X.w) X.A X.env X.xe := by subst hX; exact passes_of rfl
  subst hX
  exact (sss_cons (ss_ret (si_and (si_call Ca.k20 (by unfold Gl; kernel_rfl) (sa_cons (si_var rfl (by walk_at "pd_vis")) sa_nil)) (si_one (si_chain (cd_le) (cd_le) (si_var rfl (by walk_at "pd_vis")) (si_var rfl (by walk_at "pd_vis")) (si_var rfl (by walk_at "pd_vis")))))) sss_nil)
theorem b25 {P : Program} {w : World} {K : PySem.W.Frag} {mg : Str → Option Value} {base : Heap} {f : Addr} {cdv : Value} {A : Around} {outer : List Env} {s : Shared} {H : Hp} {EX : XK} {L : Pl} {cf : Nat → List D → Store → Res D} (X : Cx) (hX : X = cxOf CX0 P w K mg base n25 q25 (defScope s25) f cdv A outer s H EX)
    (E : EnvOk X L G cf) (Ca : Calls X L cf) (M : Mg X L) : SimSs X L G cf (defBody s25) c25 := by
  have hp : PassesOwn (model X.prog X.w) X.A X.env X.xe := by subst hX; exact passes_of rfl
  subst hX
  exact (sss_cons (ss_if (st_val (si_isi E (by unfold Gl; kernel_rfl) (M.b_isinstance) (si_var rfl (by walk_at "pd_vis")) (tk_own (by unfold Gl; kernel_rfl) M.c_Dress))) (sss_cons (ss_ret (si_attrE E (by kernel_rfl) (si_var rfl (by walk_at "pd_vis")))) sss_nil) sss_nil) (sss_cons (ss_ret (si_call Ca.k30 (by unfold Gl; kernel_rfl) (sa_cons (si_var rfl (by walk_at "pd_vis")) sa_nil))) sss_nil))
theorem b26 {P : Program} {w : World} {K : PySem.W.Frag} {mg : Str → Option Value} {base : Heap} {f : Addr} {cdv : Value} {A : Around} {outer : List Env} {s : Shared} {H : Hp} {EX : XK} {L : Pl} {cf : Nat → List D → Store → Res D} (X : Cx) (hX : X = cxOf CX0 P w K mg base n26 q26 (defScope s26) f cdv A outer s H EX)
    (E : EnvOk X L G cf) (Ca : Calls X L cf) (M : Mg X L) : SimSs X L G cf (defBody s26) c26 := by
  have hp : PassesOwn (model X.prog X.w) X.A X.env X.xe := by subst hX; exact passes_of rfl
  subst hX
  exact (sss_cons (ss_ret (si_isi2 E (by unfold Gl; kernel_rfl) (M.b_isinstance) (si_var rfl (by walk_at "pd_vis")) (tk_name rfl (by unfold Gl; kernel_rfl) (M.b_list) (by rfl)) (tk_name rfl (by unfold Gl; kernel_rfl) (M.b_tuple) (by rfl)))) sss_nil)
theorem b27 {P : Program} {w : World} {K : PySem.W.Frag} {mg : Str → Option Value} {base : Heap} {f : Addr} {cdv : Value} {A : Around} {outer : List Env} {s : Shared} {H : Hp} {EX : XK} {L : Pl} {cf : Nat → List D → Store → Res D} (X : Cx) (hX : X = cxOf CX0 P w K mg base n27 q27 (defScope s27) f cdv A outer s H EX)
    (E : EnvOk X L G cf) (Ca : Calls X L cf) (M : Mg X L) : SimSs X L G cf (defBody s27) c27 := by
  have hp : PassesOwn (model X.prog X.w) X.A X.env X.xe := by subst hX; exact passes_of rfl
  subst hX
  exact (sss_cons (ss_if (st_w (sw_or (st_not (st_val (si_isi E (by unfold Gl; kernel_rfl) (M.b_isinstance) (si_var rfl (by walk_at "pd_vis")) (tk_name rfl (by unfold Gl; kernel_rfl) (M.b_tuple) (by rfl))))) (sw_or1 (st_not (st_chain (cd_le) (cd_le) (si_var rfl (by walk_at "pd_vis")) (si_len (by unfold Gl; kernel_rfl) (M.b_len) (sa_cons (si_var rfl (by walk_at "pd_vis")) sa_nil)) (si_glb (by unfold Gl; kernel_rfl) rfl M.g1)))))) (sss_cons (ss_ret si_bl) sss_nil) sss_nil) (sss_cons (ss_ret (si_scope (si_all E (by unfold Gl; kernel_rfl) (M.b_all) (sa_cons (si_lc (own := [(PySem.Str.ofString "row", 3)]) E (ii_seq (si_var rfl (by walk_at "pd_vis"))) (fun _ _ _ _ _ => (sg_name ((E).blk).nd rfl (by walk_at "pd_loc") (by walk_at "pd_fnl"))) (fun _ _ _ _ _ => sts_nil) (fun _ _ _ _ _ => (si_call ((Ca).blk).k31 (by unfold Gl; kernel_rfl) (sa_cons (si_var rfl (by walk_at "pd_vis")) (sa_cons (si_var rfl (by walk_at "pd_vis")) sa_nil)))) (blkOk_by (by kernel_rfl)) (by decide)) sa_nil)))) sss_nil))
theorem b28 {P : Program} {w : World} {K : PySem.W.Frag} {mg : Str → Option Value} {base : Heap} {f : Addr} {cdv : Value} {A : Around} {outer : List Env} {s : Shared} {H : Hp} {EX : XK} {L : Pl} {cf : Nat → List D → Store → Res D} (X : Cx) (hX : X = cxOf CX0 P w K mg base n28 q28 (defScope s28) f cdv A outer s H EX)
    (E : EnvOk X L G cf) (Ca : Calls X L cf) (M : Mg X L) : SimSs X L G cf (defBody s28) c28 := by
  have hp : PassesOwn (model X.prog X.w) X.A X.env X.xe := by subst hX; exact passes_of rfl
  subst hX
  exact (sss_cons (ss_if (st_cmp (cd_eq E.hu) (si_var rfl (by walk_at "pd_vis")) (si_strE (by kernel_rfl)) (nomark _)) (sss_cons (ss_ret (si_un un_neg un_neg_d (si_var rfl (by walk_at "pd_vis")))) sss_nil) sss_nil) (sss_cons (ss_if (st_cmp (cd_eq E.hu) (si_var rfl (by walk_at "pd_vis")) (si_strE (by kernel_rfl)) (nomark _)) (sss_cons (ss_ret (si_un un_inv un_inv_d (si_var rfl (by walk_at "pd_vis")))) sss_nil) sss_nil) (sss_cons (ss_if (st_cmp (cd_eq E.hu) (si_var rfl (by walk_at "pd_vis")) (si_strE (by kernel_rfl)) (nomark _)) (sss_cons (ss_ret (si_bin od_shl (si_var rfl (by walk_at "pd_vis")) si_int)) sss_nil) sss_nil) (sss_cons (ss_if (st_cmp (cd_eq E.hu) (si_var rfl (by walk_at "pd_vis")) (si_strE (by kernel_rfl)) (nomark _)) (sss_cons (ss_ret (si_bin od_shr (si_var rfl (by walk_at "pd_vis")) si_int)) sss_nil) sss_nil) (sss_cons (ss_ret (si_bin od_shr (si_call Ca.k28 (by unfold Gl; kernel_rfl) (sa_cons (si_var rfl (by walk_at "pd_vis")) (sa_cons (si_var rfl (by walk_at "pd_vis")) sa_nil))) si_int)) sss_nil)))))
theorem b29 {P : Program} {w : World} {K : PySem.W.Frag} {mg : Str → Option Value} {base : Heap} {f : Addr} {cdv : Value} {A : Around} {outer : List Env} {s : Shared} {H : Hp} {EX : XK} {L : Pl} {cf : Nat → List D → Store → Res D} (X : Cx) (hX : X = cxOf CX0 P w K mg base n29 q29 (defScope s29) f cdv A outer s H EX)
    (E : EnvOk X L G cf) (Ca : Calls X L cf) (M : Mg X L) : SimSs X L G cf (defBody s29) c29 := by
  have hp : PassesOwn (model X.prog X.w) X.A X.env X.xe := by subst hX; exact passes_of rfl
  subst hX
  exact (sss_cons (ss_if (st_cmp (cd_eq E.hu) (si_var rfl (by walk_at "pd_vis")) (si_strE (by kernel_rfl)) (nomark _)) (sss_cons (ss_ret (si_call Ca.k32 (by unfold Gl; kernel_rfl) (sa_cons (si_var rfl (by walk_at "pd_vis")) (sa_cons (si_var rfl (by walk_at "pd_vis")) sa_nil)))) sss_nil) sss_nil) (sss_cons (ss_if (st_cmp (cd_eq E.hu) (si_var rfl (by walk_at "pd_vis")) (si_strE (by kernel_rfl)) (nomark _)) (sss_cons (ss_ret (si_bin od_sub (si_var rfl (by walk_at "pd_vis")) (si_bin od_mul (si_var rfl (by walk_at "pd_vis")) (si_call Ca.k32 (by unfold Gl; kernel_rfl) (sa_cons (si_var rfl (by walk_at "pd_vis")) (sa_cons (si_var rfl (by walk_at "pd_vis")) sa_nil)))))) sss_nil) sss_nil) (sss_cons (ss_ret (si_int1 (by unfold Gl; kernel_rfl) (M.b_int) (sa_cons (si_cmp (cd_lt) (si_var rfl (by walk_at "pd_vis")) (si_var rfl (by walk_at "pd_vis")) (nomark _)) sa_nil))) sss_nil)))
theorem b30 {P : Program} {w : World} {K : PySem.W.Frag} {mg : Str → Option Value} {base : Heap} {f : Addr} {cdv : Value} {A : Around} {outer : List Env} {s : Shared} {H : Hp} {EX : XK} {L : Pl} {cf : Nat → List D → Store → Res D} (X : Cx) (hX : X = cxOf CX0 P w K mg base n30 q30 (defScope s30) f cdv A outer s H EX)
    (E : EnvOk X L G cf) (Ca : Calls X L cf) (M : Mg X L) : SimSs X L G cf (defBody s30) c30 := by
  have hp : PassesOwn (model X.prog X.w) X.A X.env X.xe := by subst hX; exact passes_of rfl
  subst hX
  exact (sss_cons (ss_if (st_val (si_bin od_shr (si_var rfl (by walk_at "pd_vis")) (si_bin od_sub (si_var rfl (by walk_at "pd_vis")) si_int))) (sss_cons (ss_ret (si_bin od_sub (si_var rfl (by walk_at "pd_vis")) (si_bin od_shl si_int (si_var rfl (by walk_at "pd_vis"))))) sss_nil) sss_nil) (sss_cons (ss_ret (si_var rfl (by walk_at "pd_vis"))) sss_nil))
theorem b31 {P : Program} {w : World} {K : PySem.W.Frag} {mg : Str → Option Value} {base : Heap} {f : Addr} {cdv : Value} {A : Around} {outer : List Env} {s : Shared} {H : Hp} {EX : XK} {L : Pl} {cf : Nat → List D → Store → Res D} (X : Cx) (hX : X = cxOf CX0 P w K mg base n31 q31 (defScope s31) f cdv A outer s H EX)
    (E : EnvOk X L G cf) (Ca : Calls X L cf) (M : Mg X L) : SimSs X L G cf (defBody s31) c31 := by
  have hp : PassesOwn (model X.prog X.w) X.A X.env X.xe := by subst hX; exact passes_of rfl
  subst hX
  exact (sss_cons (ss_mat (si_var rfl (by walk_at "pd_vis")) (sms_consE E (by kernel_rfl) (sss_cons (ss_ret (si_bin od_add (si_var rfl (by walk_at "pd_vis")) (si_var rfl (by walk_at "pd_vis")))) sss_nil) (sms_consE E (by kernel_rfl) (sss_cons (ss_ret (si_bin od_sub (si_var rfl (by walk_at "pd_vis")) (si_var rfl (by walk_at "pd_vis")))) sss_nil) (sms_consE E (by kernel_rfl) (sss_cons (ss_ret (si_bin od_mul (si_var rfl (by walk_at "pd_vis")) (si_var rfl (by walk_at "pd_vis")))) sss_nil) (sms_consE E (by kernel_rfl) (sss_cons (ss_ret (si_bin od_band (si_var rfl (by walk_at "pd_vis")) (si_var rfl (by walk_at "pd_vis")))) sss_nil) (sms_consE E (by kernel_rfl) (sss_cons (ss_ret (si_bin od_bor (si_var rfl (by walk_at "pd_vis")) (si_var rfl (by walk_at "pd_vis")))) sss_nil) (sms_consE E (by kernel_rfl) (sss_cons (ss_ret (si_bin od_bxor (si_var rfl (by walk_at "pd_vis")) (si_var rfl (by walk_at "pd_vis")))) sss_nil) (sms_consE E (by kernel_rfl) (sss_cons (ss_ret (si_call Ca.k32 (by unfold Gl; kernel_rfl) (sa_cons (si_var rfl (by walk_at "pd_vis")) (sa_cons (si_var rfl (by walk_at "pd_vis")) sa_nil)))) sss_nil) (sms_consE E (by kernel_rfl) (sss_cons (ss_ret (si_bin od_sub (si_var rfl (by walk_at "pd_vis")) (si_bin od_mul (si_var rfl (by walk_at "pd_vis")) (si_call Ca.k32 (by unfold Gl; kernel_rfl) (sa_cons (si_var rfl (by walk_at "pd_vis")) (sa_cons (si_var rfl (by walk_at "pd_vis")) sa_nil)))))) sss_nil) (sms_consE E (by kernel_rfl) (sss_cons (ss_ret (si_int1 (by unfold Gl; kernel_rfl) (M.b_int) (sa_cons (si_cmp (cd_lt) (si_var rfl (by walk_at "pd_vis")) (si_var rfl (by walk_at "pd_vis")) (nomark _)) sa_nil))) sss_nil) sms_nil)))))))))) (sss_cons (ss_ret (si_int1 (by unfold Gl; kernel_rfl) (M.b_int) (sa_cons (si_cmp (cd_eq E.hu) (si_var rfl (by walk_at "pd_vis")) (si_var rfl (by walk_at "pd_vis")) (nomark _)) sa_nil))) sss_nil))
theorem b32 {P : Program} {w : World} {K : PySem.W.Frag} {mg : Str → Option Value} {base : Heap} {f : Addr} {cdv : Value} {A : Around} {outer : List Env} {s : Shared} {H : Hp} {EX : XK} {L : Pl} {cf : Nat → List D → Store → Res D} (X : Cx) (hX : X = cxOf CX0 P w K mg base n32 q32 (defScope s32) f cdv A outer s H EX)
    (E : EnvOk X L G cf) (Ca : Calls X L cf) (M : Mg X L) : SimSs X L G cf (defBody s32) c32 := by
  have hp : PassesOwn (model X.prog X.w) X.A X.env X.xe := by subst hX; exact passes_of rfl
  subst hX
  exact (sss_cons (ss_if (st_not (st_val (si_isi E (by unfold Gl; kernel_rfl) (M.b_isinstance) (si_var rfl (by walk_at "pd_vis")) (tk_name rfl (by unfold Gl; kernel_rfl) (M.b_str) (by rfl))))) (sss_cons (ss_ret si_non) sss_nil) sss_nil) (sss_cons (ss_ret (si_dget E (si_glb (by unfold Gl; kernel_rfl) rfl M.g4) (si_var rfl (by walk_at "pd_vis")))) sss_nil))
theorem b33 {P : Program} {w : World} {K : PySem.W.Frag} {mg : Str → Option Value} {base : Heap} {f : Addr} {cdv : Value} {A : Around} {outer : List Env} {s : Shared} {H : Hp} {EX : XK} {L : Pl} {cf : Nat → List D → Store → Res D} (X : Cx) (hX : X = cxOf CX0 P w K mg base n33 q33 (defScope s33) f cdv A outer s H EX)
    (E : EnvOk X L G cf) (Ca : Calls X L cf) (M : Mg X L) : SimSs X L G cf (defBody s33) c33 := by
  have hp : PassesOwn (model X.prog X.w) X.A X.env X.xe := by subst hX; exact passes_of rfl
  subst hX
  exact (sss_cons (ss_ret (si_attrE E (by kernel_rfl) (si_var rfl (by walk_at "pd_vis")))) sss_nil)
theorem b34 {P : Program} {w : World} {K : PySem.W.Frag} {mg : Str → Option Value} {base : Heap} {f : Addr} {cdv : Value} {A : Around} {outer : List Env} {s : Shared} {H : Hp} {EX : XK} {L : Pl} {cf : Nat → List D → Store → Res D} (X : Cx) (hX : X = cxOf CX0 P w K mg base n34 q34 (defScope s34) f cdv A outer s H EX)
    (E : EnvOk X L G cf) (Ca : Calls X L cf) (M : Mg X L) : SimSs X L G cf (defBody s34) c34 := by
  have hp : PassesOwn (model X.prog X.w) X.A X.env X.xe := by subst hX; exact passes_of rfl
  subst hX
  exact (sss_cons (ss_if (st_w (sw_or (st_not (st_val (si_isi E (by unfold Gl; kernel_rfl) (M.b_isinstance) (si_var rfl (by walk_at "pd_vis")) (tk_name rfl (by unfold Gl; kernel_rfl) (M.b_tuple) (by rfl))))) (sw_or1 (st_cmp (cd_ne E.hu) (si_len (by unfold Gl; kernel_rfl) (M.b_len) (sa_cons (si_var rfl (by walk_at "pd_vis")) sa_nil)) (si_var rfl (by walk_at "pd_vis")) (nomark _))))) (sss_cons (ss_ret si_bl) sss_nil) sss_nil) (sss_cons (ss_ret (si_scope (si_all E (by unfold Gl; kernel_rfl) (M.b_all) (sa_cons (si_lc (own := [(PySem.Str.ofString "want", 2)]) E (ii_seq (si_var rfl (by walk_at "pd_vis"))) (fun _ _ _ _ _ => (sg_name ((E).blk).nd rfl (by walk_at "pd_loc") (by walk_at "pd_fnl"))) (fun _ _ _ _ _ => sts_nil) (fun _ _ _ _ _ => (si_and (si_isi ((E).blk) (by unfold Gl; kernel_rfl) (M.b_isinstance) (si_var rfl (by walk_at "pd_vis")) (tk_name rfl (by unfold Gl; kernel_rfl) (M.b_str) (by rfl))) (si_one (si_cmp (cd_in ((E).blk).kd) (si_var rfl (by walk_at "pd_vis")) (si_glb (by unfold Gl; kernel_rfl) rfl M.g0) (by rfl))))) (blkOk_by (by kernel_rfl)) (by decide)) sa_nil)))) sss_nil))
theorem b35 {P : Program} {w : World} {K : PySem.W.Frag} {mg : Str → Option Value} {base : Heap} {f : Addr} {cdv : Value} {A : Around} {outer : List Env} {s : Shared} {H : Hp} {EX : XK} {L : Pl} {cf : Nat → List D → Store → Res D} (X : Cx) (hX : X = cxOf CX0 P w K mg base n35 q35 (defScope s35) f cdv A outer s H EX)
    (E : EnvOk X L G cf) (Ca : Calls X L cf) (M : Mg X L) : SimSs X L G cf (defBody s35) c35 := by
  have hp : PassesOwn (model X.prog X.w) X.A X.env X.xe := by subst hX; exact passes_of rfl
  subst hX
  exact (sss_cons (ss_if (st_cmp (cd_eq E.hu) (si_var rfl (by walk_at "pd_vis")) si_int (nomark _)) (sss_cons (ss_ret si_int) sss_nil) sss_nil) (sss_cons (ss_set E rfl (by walk_at "pd_loc") (Or.inl rfl) (si_bin od_fdiv (si_abs (by unfold Gl; kernel_rfl) (M.b_abs) (sa_cons (si_var rfl (by walk_at "pd_vis")) sa_nil)) (si_abs (by unfold Gl; kernel_rfl) (M.b_abs) (sa_cons (si_var rfl (by walk_at "pd_vis")) sa_nil)))) (sss_cons (ss_if (st_cmp (cd_ne E.hu) (si_cmp (cd_lt) (si_var rfl (by walk_at "pd_vis")) si_int (nomark _)) (si_cmp (cd_lt) (si_var rfl (by walk_at "pd_vis")) si_int (nomark _)) (nomark _)) (sss_cons (ss_ret (si_un un_neg un_neg_d (si_var rfl (by walk_at "pd_vis")))) sss_nil) sss_nil) (sss_cons (ss_ret (si_var rfl (by walk_at "pd_vis"))) sss_nil))))
end Cd

namespace Cd
open PySem PySem.Spec PyProof.Rows L2 PD
def f0 : FD := ⟨fun K => He.ga K (PySem.Str.ofString "law"), ⟨(PySem.Str.ofString "law", none), PySem.Str.ofString "law", q0, defArgs s0, defBody s0, defScope s0, [], []⟩⟩
def j0 : FJ := ⟨f0, n0, p0, c0⟩
def f1 : FD := ⟨fun K => He.ga K (PySem.Str.ofString "_law_right"), ⟨(PySem.Str.ofString "_law_right", none), PySem.Str.ofString "_law_right", q1, defArgs s1, defBody s1, defScope s1, [], []⟩⟩
def j1 : FJ := ⟨f1, n1, p1, c1⟩
def f2 : FD := ⟨fun K => He.ga K (PySem.Str.ofString "_law_take"), ⟨(PySem.Str.ofString "_law_take", none), PySem.Str.ofString "_law_take", q2, defArgs s2, defBody s2, defScope s2, [], []⟩⟩
def j2 : FJ := ⟨f2, n2, p2, c2⟩
def f3 : FD := ⟨fun K => He.ga K (PySem.Str.ofString "_law_pool"), ⟨(PySem.Str.ofString "_law_pool", none), PySem.Str.ofString "_law_pool", q3, defArgs s3, defBody s3, defScope s3, [], []⟩⟩
def j3 : FJ := ⟨f3, n3, p3, c3⟩
def f4 : FD := ⟨fun K => He.ga K (PySem.Str.ofString "_law_rows"), ⟨(PySem.Str.ofString "_law_rows", none), PySem.Str.ofString "_law_rows", q4, defArgs s4, defBody s4, defScope s4, [], []⟩⟩
def j4 : FJ := ⟨f4, n4, p4, c4⟩
def f5 : FD := ⟨fun K => getter K (PySem.Str.ofString "Operation") (PySem.Str.ofString "arity"), ⟨(PySem.Str.ofString "arity", none), PySem.Str.ofString "arity", q5, defArgs s5, defBody s5, defScope s5, [], []⟩⟩
def j5 : FJ := ⟨f5, n5, p5, c5⟩
def f6 : FD := ⟨fun K => He.ma K (He.ga K (PySem.Str.ofString "Operation")) (PySem.Str.ofString "holds"), ⟨(PySem.Str.ofString "holds", none), PySem.Str.ofString "holds", q6, defArgs s6, defBody s6, defScope s6, [], []⟩⟩
def j6 : FJ := ⟨f6, n6, p6, c6⟩
def f7 : FD := ⟨fun K => He.ga K (PySem.Str.ofString "difference"), ⟨(PySem.Str.ofString "difference", none), PySem.Str.ofString "difference", q7, defArgs s7, defBody s7, defScope s7, [], []⟩⟩
def j7 : FJ := ⟨f7, n7, p7, c7⟩
def f8 : FD := ⟨fun K => He.ga K (PySem.Str.ofString "known"), ⟨(PySem.Str.ofString "known", none), PySem.Str.ofString "known", q8, defArgs s8, defBody s8, defScope s8, [], []⟩⟩
def j8 : FJ := ⟨f8, n8, p8, c8⟩
def f9 : FD := ⟨fun K => He.ga K (PySem.Str.ofString "one_holds"), ⟨(PySem.Str.ofString "one_holds", none), PySem.Str.ofString "one_holds", q9, defArgs s9, defBody s9, defScope s9, [], []⟩⟩
def j9 : FJ := ⟨f9, n9, p9, c9⟩
def f10 : FD := ⟨fun K => He.ga K (PySem.Str.ofString "_operand_marks"), ⟨(PySem.Str.ofString "_operand_marks", none), PySem.Str.ofString "_operand_marks", q10, defArgs s10, defBody s10, defScope s10, [], []⟩⟩
def j10 : FJ := ⟨f10, n10, p10, c10⟩
def f11 : FD := ⟨fun K => He.ga K (PySem.Str.ofString "_differs"), ⟨(PySem.Str.ofString "_differs", none), PySem.Str.ofString "_differs", q11, defArgs s11, defBody s11, defScope s11, [], []⟩⟩
def j11 : FJ := ⟨f11, n11, p11, c11⟩
def f12 : FD := ⟨fun K => He.ma K (He.ga K (PySem.Str.ofString "Wide")) (PySem.Str.ofString "__init__"), ⟨(PySem.Str.ofString "__init__", none), PySem.Str.ofString "__init__", q12, defArgs s12, defBody s12, defScope s12, [], []⟩⟩
def j12 : FJ := ⟨f12, n12, p12, c12⟩
def f13 : FD := ⟨fun K => He.ga K (PySem.Str.ofString "_dressed_bits"), ⟨(PySem.Str.ofString "_dressed_bits", none), PySem.Str.ofString "_dressed_bits", q13, defArgs s13, defBody s13, defScope s13, [], []⟩⟩
def j13 : FJ := ⟨f13, n13, p13, c13⟩
def f14 : FD := ⟨fun K => He.ga K (PySem.Str.ofString "check_sizes"), ⟨(PySem.Str.ofString "check_sizes", none), PySem.Str.ofString "check_sizes", q14, defArgs s14, defBody s14, defScope s14, [.int (32)], []⟩⟩
def j14 : FJ := ⟨f14, n14, p14, c14⟩
def f15 : FD := ⟨fun K => He.ga K (PySem.Str.ofString "all_marks"), ⟨(PySem.Str.ofString "all_marks", none), PySem.Str.ofString "all_marks", q15, defArgs s15, defBody s15, defScope s15, [], []⟩⟩
def j15 : FJ := ⟨f15, n15, p15, c15⟩
def f16 : FD := ⟨fun K => He.ga K (PySem.Str.ofString "_reckoned_operation"), ⟨(PySem.Str.ofString "_reckoned_operation", none), PySem.Str.ofString "_reckoned_operation", q16, defArgs s16, defBody s16, defScope s16, [], []⟩⟩
def j16 : FJ := ⟨f16, n16, p16, c16⟩
def f17 : FD := ⟨fun K => He.ma K (He.ga K (PySem.Str.ofString "Operation")) (PySem.Str.ofString "__init__"), ⟨(PySem.Str.ofString "__init__", none), PySem.Str.ofString "__init__", q17, defArgs s17, defBody s17, defScope s17, [.non], []⟩⟩
def j17 : FJ := ⟨f17, n17, p17, c17⟩
def f18 : FD := ⟨fun K => He.ga K (PySem.Str.ofString "is_known"), ⟨(PySem.Str.ofString "is_known", none), PySem.Str.ofString "is_known", q18, defArgs s18, defBody s18, defScope s18, [], []⟩⟩
def j18 : FJ := ⟨f18, n18, p18, c18⟩
def f19 : FD := ⟨fun K => He.ga K (PySem.Str.ofString "wants_hold"), ⟨(PySem.Str.ofString "wants_hold", none), PySem.Str.ofString "wants_hold", q19, defArgs s19, defBody s19, defScope s19, [], []⟩⟩
def j19 : FJ := ⟨f19, n19, p19, c19⟩
def f20 : FD := ⟨fun K => He.ga K (PySem.Str.ofString "_answer"), ⟨(PySem.Str.ofString "_answer", none), PySem.Str.ofString "_answer", q20, defArgs s20, defBody s20, defScope s20, [], []⟩⟩
def j20 : FJ := ⟨f20, n20, p20, c20⟩
def f21 : FD := ⟨fun K => He.ga K (PySem.Str.ofString "ones"), ⟨(PySem.Str.ofString "ones", none), PySem.Str.ofString "ones", q21, defArgs s21, defBody s21, defScope s21, [], []⟩⟩
def j21 : FJ := ⟨f21, n21, p21, c21⟩
def f22 : FD := ⟨fun K => He.ga K (PySem.Str.ofString "is_whole"), ⟨(PySem.Str.ofString "is_whole", none), PySem.Str.ofString "is_whole", q22, defArgs s22, defBody s22, defScope s22, [], []⟩⟩
def j22 : FJ := ⟨f22, n22, p22, c22⟩
def f23 : FD := ⟨fun K => He.ga K (PySem.Str.ofString "true_marks"), ⟨(PySem.Str.ofString "true_marks", none), PySem.Str.ofString "true_marks", q23, defArgs s23, defBody s23, defScope s23, [], []⟩⟩
def j23 : FJ := ⟨f23, n23, p23, c23⟩
def f24 : FD := ⟨fun K => He.ga K (PySem.Str.ofString "is_between"), ⟨(PySem.Str.ofString "is_between", none), PySem.Str.ofString "is_between", q24, defArgs s24, defBody s24, defScope s24, [], []⟩⟩
def j24 : FJ := ⟨f24, n24, p24, c24⟩
def f25 : FD := ⟨fun K => He.ga K (PySem.Str.ofString "marks_of"), ⟨(PySem.Str.ofString "marks_of", none), PySem.Str.ofString "marks_of", q25, defArgs s25, defBody s25, defScope s25, [], []⟩⟩
def j25 : FJ := ⟨f25, n25, p25, c25⟩
def f26 : FD := ⟨fun K => He.ga K (PySem.Str.ofString "is_listed"), ⟨(PySem.Str.ofString "is_listed", none), PySem.Str.ofString "is_listed", q26, defArgs s26, defBody s26, defScope s26, [], []⟩⟩
def j26 : FJ := ⟨f26, n26, p26, c26⟩
def f27 : FD := ⟨fun K => He.ga K (PySem.Str.ofString "_is_rows"), ⟨(PySem.Str.ofString "_is_rows", none), PySem.Str.ofString "_is_rows", q27, defArgs s27, defBody s27, defScope s27, [], []⟩⟩
def j27 : FJ := ⟨f27, n27, p27, c27⟩
def f28 : FD := ⟨fun K => He.ga K (PySem.Str.ofString "_answer_of_one"), ⟨(PySem.Str.ofString "_answer_of_one", none), PySem.Str.ofString "_answer_of_one", q28, defArgs s28, defBody s28, defScope s28, [], []⟩⟩
def j28 : FJ := ⟨f28, n28, p28, c28⟩
def f29 : FD := ⟨fun K => He.ga K (PySem.Str.ofString "_signed_answer"), ⟨(PySem.Str.ofString "_signed_answer", none), PySem.Str.ofString "_signed_answer", q29, defArgs s29, defBody s29, defScope s29, [], []⟩⟩
def j29 : FJ := ⟨f29, n29, p29, c29⟩
def f30 : FD := ⟨fun K => He.ga K (PySem.Str.ofString "signed_number"), ⟨(PySem.Str.ofString "signed_number", none), PySem.Str.ofString "signed_number", q30, defArgs s30, defBody s30, defScope s30, [], []⟩⟩
def j30 : FJ := ⟨f30, n30, p30, c30⟩
def f31 : FD := ⟨fun K => He.ga K (PySem.Str.ofString "_plain_answer"), ⟨(PySem.Str.ofString "_plain_answer", none), PySem.Str.ofString "_plain_answer", q31, defArgs s31, defBody s31, defScope s31, [], []⟩⟩
def j31 : FJ := ⟨f31, n31, p31, c31⟩
def f32 : FD := ⟨fun K => He.ga K (PySem.Str.ofString "ordered_marks"), ⟨(PySem.Str.ofString "ordered_marks", none), PySem.Str.ofString "ordered_marks", q32, defArgs s32, defBody s32, defScope s32, [], []⟩⟩
def j32 : FJ := ⟨f32, n32, p32, c32⟩
def f33 : FD := ⟨fun K => getter K (PySem.Str.ofString "Dress") (PySem.Str.ofString "marks"), ⟨(PySem.Str.ofString "marks", none), PySem.Str.ofString "marks", q33, defArgs s33, defBody s33, defScope s33, [], []⟩⟩
def j33 : FJ := ⟨f33, n33, p33, c33⟩
def f34 : FD := ⟨fun K => He.ga K (PySem.Str.ofString "_is_wants"), ⟨(PySem.Str.ofString "_is_wants", none), PySem.Str.ofString "_is_wants", q34, defArgs s34, defBody s34, defScope s34, [], []⟩⟩
def j34 : FJ := ⟨f34, n34, p34, c34⟩
def f35 : FD := ⟨fun K => He.ga K (PySem.Str.ofString "_quotient"), ⟨(PySem.Str.ofString "_quotient", none), PySem.Str.ofString "_quotient", q35, defArgs s35, defBody s35, defScope s35, [], []⟩⟩
def j35 : FJ := ⟨f35, n35, p35, c35⟩
def T : List FJ := [j0, j1, j2, j3, j4, j5, j6, j7, j8, j9, j10, j11, j12, j13, j14, j15, j16, j17, j18, j19, j20, j21, j22, j23, j24, j25, j26, j27, j28, j29, j30, j31, j32, j33, j34, j35]
def fds : List FD := [f0, f1, f2, f3, f4, f5, f6, f7, f8, f9, f10, f11, f12, f13, f14, f15, f16, f17, f18, f19, f20, f21, f22, f23, f24, f25, f26, f27, f28, f29, f30, f31, f32, f33, f34, f35]
def fa : List He.Fa := [.glo (PySem.Str.ofString "law"), .glo (PySem.Str.ofString "_law_right"), .glo (PySem.Str.ofString "_law_take"), .glo (PySem.Str.ofString "_law_pool"), .glo (PySem.Str.ofString "_law_rows"), .glo (PySem.Str.ofString "difference"), .glo (PySem.Str.ofString "known"), .glo (PySem.Str.ofString "one_holds"), .glo (PySem.Str.ofString "_operand_marks"), .glo (PySem.Str.ofString "_differs"), .glo (PySem.Str.ofString "_dressed_bits"), .glo (PySem.Str.ofString "check_sizes"), .glo (PySem.Str.ofString "all_marks"), .glo (PySem.Str.ofString "_reckoned_operation"), .glo (PySem.Str.ofString "is_known"), .glo (PySem.Str.ofString "wants_hold"), .glo (PySem.Str.ofString "_answer"), .glo (PySem.Str.ofString "ones"), .glo (PySem.Str.ofString "is_whole"), .glo (PySem.Str.ofString "true_marks"), .glo (PySem.Str.ofString "is_between"), .glo (PySem.Str.ofString "marks_of"), .glo (PySem.Str.ofString "is_listed"), .glo (PySem.Str.ofString "_is_rows"), .glo (PySem.Str.ofString "_answer_of_one"), .glo (PySem.Str.ofString "_signed_answer"), .glo (PySem.Str.ofString "signed_number"), .glo (PySem.Str.ofString "_plain_answer"), .glo (PySem.Str.ofString "ordered_marks"), .glo (PySem.Str.ofString "_is_wants"), .glo (PySem.Str.ofString "_quotient"), .glo (PySem.Str.ofString "Dress"), .cls (PySem.Str.ofString "Dress"), .glo (PySem.Str.ofString "Operation"), .cls (PySem.Str.ofString "Operation"), .glo (PySem.Str.ofString "Wide"), .cls (PySem.Str.ofString "Wide"), .glo (PySem.Str.ofString "ORDERED"), .glo (PySem.Str.ofString "KNOWN"), .free (PySem.Str.ofString "abs"), .free (PySem.Str.ofString "all"), .free (PySem.Str.ofString "any"), .free (PySem.Str.ofString "bool"), .free (PySem.Str.ofString "int"), .free (PySem.Str.ofString "isinstance"), .free (PySem.Str.ofString "len"), .free (PySem.Str.ofString "list"), .free (PySem.Str.ofString "range"), .free (PySem.Str.ofString "str"), .free (PySem.Str.ofString "tuple"), .free (PySem.Str.ofString "zip"), .noat (PySem.Str.ofString "Operation") (PySem.Str.ofString "_arity"), .noat (PySem.Str.ofString "Operation") (PySem.Str.ofString "_needs"), .noat (PySem.Str.ofString "Operation") (PySem.Str.ofString "_z"), .noat (PySem.Str.ofString "Operation") (PySem.Str.ofString "_s"), .noat (PySem.Str.ofString "Wide") (PySem.Str.ofString "_bits"), .noat (PySem.Str.ofString "Wide") (PySem.Str.ofString "_narrow"), .noat (PySem.Str.ofString "Wide") (PySem.Str.ofString "_wide"), .meth (PySem.Str.ofString "Operation") (PySem.Str.ofString "holds"), .mkr (PySem.Str.ofString "Operation"), .mkr (PySem.Str.ofString "Wide")]
def ts : List He.Tab := [(fun K => He.ga K (PySem.Str.ofString "ORDERED"), [PySem.Str.ofString "", PySem.Str.ofString "z", PySem.Str.ofString "s", PySem.Str.ofString "zs", PySem.Str.ofString "sz"]), (fun K => He.ga K (PySem.Str.ofString "KNOWN"), [PySem.Str.ofString "load", PySem.Str.ofString "loadz", PySem.Str.ofString "loads", PySem.Str.ofString "one", PySem.Str.ofString "add", PySem.Str.ofString "sub", PySem.Str.ofString "mul", PySem.Str.ofString "neg", PySem.Str.ofString "shl", PySem.Str.ofString "and", PySem.Str.ofString "or", PySem.Str.ofString "xor", PySem.Str.ofString "not", PySem.Str.ofString "shr", PySem.Str.ofString "sar", PySem.Str.ofString "udiv", PySem.Str.ofString "urem", PySem.Str.ofString "sdiv", PySem.Str.ofString "srem", PySem.Str.ofString "ult", PySem.Str.ofString "equ", PySem.Str.ofString "slt", PySem.Str.ofString "store"])]
def Lk (K : PySem.W.Frag) : Pl := ⟨fun i => (([He.ga K (PySem.Str.ofString "ORDERED"), He.ga K (PySem.Str.ofString "KNOWN")] : List Addr)[i]?).getD 0, fun c => (([0, 0, 0, 0, 0, 0, 0, 0, He.ga K (PySem.Str.ofString "Dress"), He.ga K (PySem.Str.ofString "Operation"), He.ga K (PySem.Str.ofString "Wide")] : List Addr)[c]?).getD 0⟩
def ex (K : PySem.W.Frag) : Bool := gvB K (PySem.Str.ofString "TEXTS") (.tup [.str ⟨#[]⟩, .str ⟨#[122]⟩, .str ⟨#[115]⟩, .str ⟨#[122, 115]⟩]) && gvB K (PySem.Str.ofString "MOST_ROWS") (.int (4)) && gvB K (PySem.Str.ofString "MOST_SEARCHED") (.int (7)) && kdB K ((Lk K).kda 0) ((kts[0]?).getD []) && kdB K ((Lk K).kda 1) ((kts[1]?).getD []) && propB K (PySem.Str.ofString "Operation") (PySem.Str.ofString "arity") && propB K (PySem.Str.ofString "Dress") (PySem.Str.ofString "marks") && isiB K ((Lk K).cla 8) && kitB1 K (Lk K) 8 && kitB2 K (Lk K) 8 8 && true
def names0 : List Str := [PySem.Str.ofString "_wall", PySem.Str.ofString "is_whole", PySem.Str.ofString "is_between", PySem.Str.ofString "is_listed", PySem.Str.ofString "SignsError", PySem.Str.ofString "BadDress", PySem.Str.ofString "BadNumber", PySem.Str.ofString "Unlike", PySem.Str.ofString "BadArity", PySem.Str.ofString "BadWants", PySem.Str.ofString "Absent", PySem.Str.ofString "NoOperation", PySem.Str.ofString "ORDERED", PySem.Str.ofString "TEXTS", PySem.Str.ofString "ordered_marks", PySem.Str.ofString "marks_of", PySem.Str.ofString "all_marks", PySem.Str.ofString "Dress", PySem.Str.ofString "_told", PySem.Str.ofString "_kept", PySem.Str.ofString "_joined", PySem.Str.ofString "_left", PySem.Str.ofString "MOST_ROWS", PySem.Str.ofString "_is_wants", PySem.Str.ofString "_is_rows", PySem.Str.ofString "wants_hold", PySem.Str.ofString "one_holds", PySem.Str.ofString "Operation", PySem.Str.ofString "_operand_marks", PySem.Str.ofString "MOST_WIDE", PySem.Str.ofString "ones", PySem.Str.ofString "signed_number", PySem.Str.ofString "true_marks", PySem.Str.ofString "check_sizes", PySem.Str.ofString "Wide"]
def names1 : List Str := [PySem.Str.ofString "_like", PySem.Str.ofString "_number", PySem.Str.ofString "_count", PySem.Str.ofString "MOST_SEARCHED", PySem.Str.ofString "KNOWN", PySem.Str.ofString "is_known", PySem.Str.ofString "known", PySem.Str.ofString "difference", PySem.Str.ofString "_reckoned_operation", PySem.Str.ofString "_dressed_bits", PySem.Str.ofString "_differs", PySem.Str.ofString "_answer", PySem.Str.ofString "_answer_of_one", PySem.Str.ofString "_plain_answer", PySem.Str.ofString "_signed_answer", PySem.Str.ofString "_quotient", PySem.Str.ofString "_law_pool", PySem.Str.ofString "_law_take", PySem.Str.ofString "_law_rows", PySem.Str.ofString "_law_right"]
def names : List Str := names0 ++ names1
abbrev R : PySem.W.OpenRow := PySem.W.OpenLaw.row PySem.Challenge.rw_signskept_k13_whole_needs_that_are_neede
abbrev hk : PySem.W.Hook := hookP 6 fa fds ts ex
def ob (s : PySem.W.SharedT) : AlP := obsPG 6 fa fds ts ex (HandSHeadRun.getT s)
theorem ob_eq (s : PySem.W.SharedT) : ob s = hk.obs s.abs := obsPG_eq (HandSHeadRun.getT_eq s)
noncomputable def ef (w : World) (os : OsState) := HandSHeadRun.endF (HandSHeadRun.stepQ (HandSHeadRun.denQ HandSHeadRun.tabQ) R.prog w) 20000 R.prog w os
def Ks (s : PySem.W.SharedT) : PySem.W.Frag := He.frG (HandSHeadRun.getT s) (asP (HandSHeadRun.getT s) 6 [mainGlobals])
theorem ra (w : World) : ∀ os : OsState, (ef w os).map (fun s => HandSHeadRun.looksF R.prog (PySem.W.boot_heap w.params) s.abs) = some (true) := by
  refine PySem.W.byRow2 "special-get-raises" (P := fun w => ∀ os : OsState, (ef w os).map (fun s => HandSHeadRun.looksF R.prog (PySem.W.boot_heap w.params) s.abs) = some (true)) (fun w => ?_) (fun w => ?_) w
  · intro os
    kernel_rfl
  · intro os
    kernel_rfl
theorem rb (w : World) : ∀ os : OsState, (ef w os).map (fun s => HandSHeadRun.seenQ (PySem.W.view R.prog [62]) names (importedModules R.prog.main.body) (fun s => PySem.W.xlAt (PySem.W.view R.prog [62]) [] s && PySem.W.recOk R.toRowW.records s) s.abs) = some (PySem.W.openGood (PySem.W.view R.prog [62]) names) := by
  refine PySem.W.byRow2 "special-get-raises" (P := fun w => ∀ os : OsState, (ef w os).map (fun s => HandSHeadRun.seenQ (PySem.W.view R.prog [62]) names (importedModules R.prog.main.body) (fun s => PySem.W.xlAt (PySem.W.view R.prog [62]) [] s && PySem.W.recOk R.toRowW.records s) s.abs) = some (PySem.W.openGood (PySem.W.view R.prog [62]) names)) (fun w => ?_) (fun w => ?_) w
  · intro os
    kernel_rfl
  · intro os
    kernel_rfl
theorem rc (w : World) : ∀ os : OsState, (ef w os).map (fun s => fa.all fun f => f.ok (Ks s)) = some (true) := by
  refine PySem.W.byRow2 "special-get-raises" (P := fun w => ∀ os : OsState, (ef w os).map (fun s => fa.all fun f => f.ok (Ks s)) = some (true)) (fun w => ?_) (fun w => ?_) w
  · intro os
    kernel_rfl
  · intro os
    kernel_rfl
theorem rd (w : World) : ∀ os : OsState, (ef w os).map (fun s => fds.all fun d => okAt (Ks s) (d.ad (Ks s)) d.d) = some (true) := by
  refine PySem.W.byRow2 "special-get-raises" (P := fun w => ∀ os : OsState, (ef w os).map (fun s => fds.all fun d => okAt (Ks s) (d.ad (Ks s)) d.d) = some (true)) (fun w => ?_) (fun w => ?_) w
  · intro os
    kernel_rfl
  · intro os
    kernel_rfl
theorem re (w : World) : ∀ os : OsState, (ef w os).map (fun s => ex (Ks s)) = some (true) := by
  refine PySem.W.byRow2 "special-get-raises" (P := fun w => ∀ os : OsState, (ef w os).map (fun s => ex (Ks s)) = some (true)) (fun w => ?_) (fun w => ?_) w
  · intro os
    kernel_rfl
  · intro os
    kernel_rfl
theorem rf (w : World) : ∀ os : OsState, (ef w os).map (fun s => fds.map fun d => fnAt (Ks s) (d.ad (Ks s))) = some (fds.map fun d => d.d.val) := by
  refine PySem.W.byRow2 "special-get-raises" (P := fun w => ∀ os : OsState, (ef w os).map (fun s => fds.map fun d => fnAt (Ks s) (d.ad (Ks s))) = some (fds.map fun d => d.d.val)) (fun w => ?_) (fun w => ?_) w
  · intro os
    kernel_rfl
  · intro os
    kernel_rfl
theorem rg (w : World) : ∀ os : OsState, (ef w os).map (fun s => ts.map fun t => He.dicW (Ks s) (t.1 (Ks s))) = some (ts.map fun t => some (He.keysIn w.params t.2)) := by
  refine PySem.W.byRow2 "special-get-raises" (P := fun w => ∀ os : OsState, (ef w os).map (fun s => ts.map fun t => He.dicW (Ks s) (t.1 (Ks s))) = some (ts.map fun t => some (He.keysIn w.params t.2))) (fun w => ?_) (fun w => ?_) w
  · intro os
    kernel_rfl
  · intro os
    kernel_rfl
theorem run (w : World) : HandSHeadRun.RunEq R (PySem.W.view R.prog [62]) hk ob 20000 names w := by
  intro os
  have a := ra w os
  have b := rb w os
  have c := rc w os
  have d := rd w os
  have e := re w os
  have f := rf w os
  have g := rg w os
  show (ef w os).map _ = _
  cases h : ef w os with
  | none => rw [h] at a; cases a
  | some s =>
    rw [h] at a b c d e f g
    have a1 := Option.some.inj a
    have b1 := Option.some.inj b
    have c1 : (fa.all fun f => f.ok (Ks s)) = true := Option.some.inj c
    have d1 : (fds.all fun d => okAt (Ks s) (d.ad (Ks s)) d.d) = true := Option.some.inj d
    have e1 : ex (Ks s) = true := Option.some.inj e
    have f1 : (fds.map fun d => fnAt (Ks s) (d.ad (Ks s))) = fds.map fun d => d.d.val := Option.some.inj f
    have g1 : (ts.map fun t => He.dicW (Ks s) (t.1 (Ks s))) = ts.map fun t => some (He.keysIn w.params t.2) := Option.some.inj g
    have o1 : ob s = hk.val w := by
      show (((fa.all fun f => f.ok (Ks s)) && ((fds.all fun d => okAt (Ks s) (d.ad (Ks s)) d.d) && ex (Ks s)), fds.map fun d => fnAt (Ks s) (d.ad (Ks s))), ts.map fun t => He.dicW (Ks s) (t.1 (Ks s))) = ((true, fds.map fun d => d.d.val), ts.map fun t => some (He.keysIn w.params t.2))
      rw [c1, d1, e1, f1, g1]
      rfl
    exact congrArg some (Prod.ext a1 (Prod.ext b1 o1))

section
variable {P : Program} {w : World} {K : PySem.W.Frag} {mg : Str → Option Value} {base : Heap} {l : Nat} {X : Cx}
theorem ck0 (HK : K.In base) (HG : base.Ns mainGlobals mg) (c : SaysP fa fds ts ex w K) (a : At P w K mg base l X) (AJ : AllJ P w K mg base (Lk K) G T l) : CallOk X (Lk K) (callD G (tabJ T) l) "_law_right" 1 2 [.arg 0, .arg 1] := by
  obtain ⟨fd, F⟩ := (c.def_ 1 (d := f1) rfl)
  exact a.call AJ (g := 1) (j := j1) rfl F  (He.glo_ok HK HG (c.fact 1 (f := .glo (PySem.Str.ofString "_law_right")) rfl)) (FunD.bindsN (ps := p1) F fun _ _ _ _ _ _ us hl => match us, hl with | [_, _], _ => rfl) .nil rfl (dl := []) (fun as h => match as, h with | [_, _], _ => rfl) (fun _ _ _ => RpL.nil)
theorem ck1 (HK : K.In base) (HG : base.Ns mainGlobals mg) (c : SaysP fa fds ts ex w K) (a : At P w K mg base l X) (AJ : AllJ P w K mg base (Lk K) G T l) : CallOk X (Lk K) (callD G (tabJ T) l) "_law_take" 2 2 [.arg 0, .arg 1] := by
  obtain ⟨fd, F⟩ := (c.def_ 2 (d := f2) rfl)
  exact a.call AJ (g := 2) (j := j2) rfl F  (He.glo_ok HK HG (c.fact 2 (f := .glo (PySem.Str.ofString "_law_take")) rfl)) (FunD.bindsN (ps := p2) F fun _ _ _ _ _ _ us hl => match us, hl with | [_, _], _ => rfl) .nil rfl (dl := []) (fun as h => match as, h with | [_, _], _ => rfl) (fun _ _ _ => RpL.nil)
theorem ck2 (HK : K.In base) (HG : base.Ns mainGlobals mg) (c : SaysP fa fds ts ex w K) (a : At P w K mg base l X) (AJ : AllJ P w K mg base (Lk K) G T l) : CallOk X (Lk K) (callD G (tabJ T) l) "_law_pool" 3 2 [.arg 0, .arg 1] := by
  obtain ⟨fd, F⟩ := (c.def_ 3 (d := f3) rfl)
  exact a.call AJ (g := 3) (j := j3) rfl F  (He.glo_ok HK HG (c.fact 3 (f := .glo (PySem.Str.ofString "_law_pool")) rfl)) (FunD.bindsN (ps := p3) F fun _ _ _ _ _ _ us hl => match us, hl with | [_, _], _ => rfl) .nil rfl (dl := []) (fun as h => match as, h with | [_, _], _ => rfl) (fun _ _ _ => RpL.nil)
theorem ck3 (HK : K.In base) (HG : base.Ns mainGlobals mg) (c : SaysP fa fds ts ex w K) (a : At P w K mg base l X) (AJ : AllJ P w K mg base (Lk K) G T l) : CallOk X (Lk K) (callD G (tabJ T) l) "_law_rows" 4 1 [.arg 0] := by
  obtain ⟨fd, F⟩ := (c.def_ 4 (d := f4) rfl)
  exact a.call AJ (g := 4) (j := j4) rfl F  (He.glo_ok HK HG (c.fact 4 (f := .glo (PySem.Str.ofString "_law_rows")) rfl)) (FunD.bindsN (ps := p4) F fun _ _ _ _ _ _ us hl => match us, hl with | [_], _ => rfl) .nil rfl (dl := []) (fun as h => match as, h with | [_], _ => rfl) (fun _ _ _ => RpL.nil)
theorem ck4 (HK : K.In base) (HG : base.Ns mainGlobals mg) (c : SaysP fa fds ts ex w K) (a : At P w K mg base l X) (AJ : AllJ P w K mg base (Lk K) G T l) : CallK X (Lk K) (callD G (tabJ T) l) "difference" 7 2 [PySem.Str.ofString "narrow", PySem.Str.ofString "wide"] [.arg 0, .arg 1, .arg 2, .arg 3] := by
  obtain ⟨fd, F⟩ := (c.def_ 7 (d := f7) rfl)
  have b : KBn K fd p7 2 [PySem.Str.ofString "narrow", PySem.Str.ofString "wide"] (fun us ws => us ++ ws) (fun vs zs => vs ++ zs) := kbindsN F 2 _ fun kV doc pm an cdv ct us ws h1 h2 => match us, ws, h1, h2 with | [_, _], [_, _], _, _ => rfl
  exact a.callK AJ (g := 7) (j := j7) rfl F  (He.glo_ok HK HG (c.fact 5 (f := .glo (PySem.Str.ofString "difference")) rfl)) b rfl (fun as es h1 h2 => match as, es, h1, h2 with | [_, _], [_, _], _, _ => rfl)
theorem ck5 (HK : K.In base) (HG : base.Ns mainGlobals mg) (c : SaysP fa fds ts ex w K) (a : At P w K mg base l X) (AJ : AllJ P w K mg base (Lk K) G T l) : CallOk X (Lk K) (callD G (tabJ T) l) "known" 8 1 [.arg 0] := by
  obtain ⟨fd, F⟩ := (c.def_ 8 (d := f8) rfl)
  exact a.call AJ (g := 8) (j := j8) rfl F  (He.glo_ok HK HG (c.fact 6 (f := .glo (PySem.Str.ofString "known")) rfl)) (FunD.bindsN (ps := p8) F fun _ _ _ _ _ _ us hl => match us, hl with | [_], _ => rfl) .nil rfl (dl := []) (fun as h => match as, h with | [_], _ => rfl) (fun _ _ _ => RpL.nil)
theorem ck6 (HK : K.In base) (HG : base.Ns mainGlobals mg) (c : SaysP fa fds ts ex w K) (a : At P w K mg base l X) (AJ : AllJ P w K mg base (Lk K) G T l) : CallOk X (Lk K) (callD G (tabJ T) l) "one_holds" 9 2 [.arg 0, .arg 1] := by
  obtain ⟨fd, F⟩ := (c.def_ 9 (d := f9) rfl)
  exact a.call AJ (g := 9) (j := j9) rfl F  (He.glo_ok HK HG (c.fact 7 (f := .glo (PySem.Str.ofString "one_holds")) rfl)) (FunD.bindsN (ps := p9) F fun _ _ _ _ _ _ us hl => match us, hl with | [_, _], _ => rfl) .nil rfl (dl := []) (fun as h => match as, h with | [_, _], _ => rfl) (fun _ _ _ => RpL.nil)
theorem ck7 (HK : K.In base) (HG : base.Ns mainGlobals mg) (c : SaysP fa fds ts ex w K) (a : At P w K mg base l X) (AJ : AllJ P w K mg base (Lk K) G T l) : CallOk X (Lk K) (callD G (tabJ T) l) "_operand_marks" 10 2 [.arg 0, .arg 1] := by
  obtain ⟨fd, F⟩ := (c.def_ 10 (d := f10) rfl)
  exact a.call AJ (g := 10) (j := j10) rfl F  (He.glo_ok HK HG (c.fact 8 (f := .glo (PySem.Str.ofString "_operand_marks")) rfl)) (FunD.bindsN (ps := p10) F fun _ _ _ _ _ _ us hl => match us, hl with | [_, _], _ => rfl) .nil rfl (dl := []) (fun as h => match as, h with | [_, _], _ => rfl) (fun _ _ _ => RpL.nil)
theorem ck8 (HK : K.In base) (HG : base.Ns mainGlobals mg) (c : SaysP fa fds ts ex w K) (a : At P w K mg base l X) (AJ : AllJ P w K mg base (Lk K) G T l) : CallOk X (Lk K) (callD G (tabJ T) l) "_differs" 11 4 [.arg 0, .arg 1, .arg 2, .arg 3] := by
  obtain ⟨fd, F⟩ := (c.def_ 11 (d := f11) rfl)
  exact a.call AJ (g := 11) (j := j11) rfl F  (He.glo_ok HK HG (c.fact 9 (f := .glo (PySem.Str.ofString "_differs")) rfl)) (FunD.bindsN (ps := p11) F fun _ _ _ _ _ _ us hl => match us, hl with | [_, _, _, _], _ => rfl) .nil rfl (dl := []) (fun as h => match as, h with | [_, _, _, _], _ => rfl) (fun _ _ _ => RpL.nil)
theorem ck9 (HK : K.In base) (HG : base.Ns mainGlobals mg) (c : SaysP fa fds ts ex w K) (a : At P w K mg base l X) (AJ : AllJ P w K mg base (Lk K) G T l) : MkK X (Lk K) (callD G (tabJ T) l) "Wide" 10 12 1 [PySem.Str.ofString "narrow", PySem.Str.ofString "wide"] [.arg 0, .arg 1, .arg 2, .arg 3] := by
  obtain ⟨fd, F⟩ := (c.def_ 12 (d := f12) rfl)
  have b : KBn K fd p12 2 [PySem.Str.ofString "narrow", PySem.Str.ofString "wide"] (fun us ws => us ++ ws) (fun vs zs => vs ++ zs) := kbindsN F 2 _ fun kV doc pm an cdv ct us ws h1 h2 => match us, ws, h1, h2 with | [_, _], [_, _], _, _ => rfl
  exact a.mkK AJ (g := 12) (j := j12) rfl F (He.mkr_ok (c.fact 60 (f := .mkr (PySem.Str.ofString "Wide")) rfl)) (He.glo_ok HK HG (c.fact 35 (f := .glo (PySem.Str.ofString "Wide")) rfl)) b rfl (fun as es h1 h2 => match as, es, h1, h2 with | [_, _], [_, _], _, _ => rfl)
theorem ck10 (HK : K.In base) (HG : base.Ns mainGlobals mg) (c : SaysP fa fds ts ex w K) (a : At P w K mg base l X) (AJ : AllJ P w K mg base (Lk K) G T l) : CallOk X (Lk K) (callD G (tabJ T) l) "_dressed_bits" 13 3 [.arg 0, .arg 1, .arg 2] := by
  obtain ⟨fd, F⟩ := (c.def_ 13 (d := f13) rfl)
  exact a.call AJ (g := 13) (j := j13) rfl F  (He.glo_ok HK HG (c.fact 10 (f := .glo (PySem.Str.ofString "_dressed_bits")) rfl)) (FunD.bindsN (ps := p13) F fun _ _ _ _ _ _ us hl => match us, hl with | [_, _, _], _ => rfl) .nil rfl (dl := []) (fun as h => match as, h with | [_, _, _], _ => rfl) (fun _ _ _ => RpL.nil)
theorem ck11 (HK : K.In base) (HG : base.Ns mainGlobals mg) (c : SaysP fa fds ts ex w K) (a : At P w K mg base l X) (AJ : AllJ P w K mg base (Lk K) G T l) : CallOk X (Lk K) (callD G (tabJ T) l) "check_sizes" 14 3 [.arg 0, .arg 1, .arg 2] := by
  obtain ⟨fd, F⟩ := (c.def_ 14 (d := f14) rfl)
  obtain ⟨ds, r, b⟩ := FunD.binds1 (ps := p14) F 3 1 (fun z => nomatch z) rfl fun T kV doc pm an cdv ct us its h1 h2 => match us, its, h1, h2 with | [_, _, _], [_], _, _ => ⟨_, rfl, rfl⟩
  exact a.call AJ (g := 14) (j := j14) rfl F  (He.glo_ok HK HG (c.fact 11 (f := .glo (PySem.Str.ofString "check_sizes")) rfl)) b r rfl (dl := []) (fun as h => match as, h with | [_, _, _], _ => rfl) (fun _ _ _ => RpL.nil)
theorem ck12 (HK : K.In base) (HG : base.Ns mainGlobals mg) (c : SaysP fa fds ts ex w K) (a : At P w K mg base l X) (AJ : AllJ P w K mg base (Lk K) G T l) : CallOk X (Lk K) (callD G (tabJ T) l) "all_marks" 15 2 [.arg 0, .arg 1] := by
  obtain ⟨fd, F⟩ := (c.def_ 15 (d := f15) rfl)
  exact a.call AJ (g := 15) (j := j15) rfl F  (He.glo_ok HK HG (c.fact 12 (f := .glo (PySem.Str.ofString "all_marks")) rfl)) (FunD.bindsN (ps := p15) F fun _ _ _ _ _ _ us hl => match us, hl with | [_, _], _ => rfl) .nil rfl (dl := []) (fun as h => match as, h with | [_, _], _ => rfl) (fun _ _ _ => RpL.nil)
theorem ck13 (HK : K.In base) (HG : base.Ns mainGlobals mg) (c : SaysP fa fds ts ex w K) (a : At P w K mg base l X) (AJ : AllJ P w K mg base (Lk K) G T l) : CallOk X (Lk K) (callD G (tabJ T) l) "_reckoned_operation" 16 1 [.arg 0] := by
  obtain ⟨fd, F⟩ := (c.def_ 16 (d := f16) rfl)
  exact a.call AJ (g := 16) (j := j16) rfl F  (He.glo_ok HK HG (c.fact 13 (f := .glo (PySem.Str.ofString "_reckoned_operation")) rfl)) (FunD.bindsN (ps := p16) F fun _ _ _ _ _ _ us hl => match us, hl with | [_], _ => rfl) .nil rfl (dl := []) (fun as h => match as, h with | [_], _ => rfl) (fun _ _ _ => RpL.nil)
theorem ck14 (HK : K.In base) (HG : base.Ns mainGlobals mg) (c : SaysP fa fds ts ex w K) (a : At P w K mg base l X) (AJ : AllJ P w K mg base (Lk K) G T l) : MkK X (Lk K) (callD G (tabJ T) l) "Operation" 9 17 2 [PySem.Str.ofString "z", PySem.Str.ofString "s"] [.arg 0, .arg 1, .arg 2, .arg 3, .arg 4] := by
  obtain ⟨fd, F⟩ := (c.def_ 17 (d := f17) rfl)
  obtain ⟨its, b⟩ := FunD.kbindsD (ps := p17) F 3 [PySem.Str.ofString "z", PySem.Str.ofString "s"] (fun us _ ws => us ++ ws) (fun z => nomatch z) (fun r1 _ r3 => r1.append r3) fun T kV doc pm an cdv ct us its ws h1 h2 h3 => match us, its, ws, h1, h2, h3 with | [_, _, _], [_], [_, _], _, _, _ => ⟨_, rfl, rfl⟩
  exact a.mkK AJ (g := 17) (j := j17) rfl F (He.mkr_ok (c.fact 59 (f := .mkr (PySem.Str.ofString "Operation")) rfl)) (He.glo_ok HK HG (c.fact 33 (f := .glo (PySem.Str.ofString "Operation")) rfl)) b rfl (fun as es h1 h2 => match as, es, h1, h2 with | [_, _, _], [_, _], _, _ => rfl)
theorem ck15 (HK : K.In base) (HG : base.Ns mainGlobals mg) (c : SaysP fa fds ts ex w K) (a : At P w K mg base l X) (AJ : AllJ P w K mg base (Lk K) G T l) : CallOk X (Lk K) (callD G (tabJ T) l) "is_known" 18 1 [.arg 0] := by
  obtain ⟨fd, F⟩ := (c.def_ 18 (d := f18) rfl)
  exact a.call AJ (g := 18) (j := j18) rfl F  (He.glo_ok HK HG (c.fact 14 (f := .glo (PySem.Str.ofString "is_known")) rfl)) (FunD.bindsN (ps := p18) F fun _ _ _ _ _ _ us hl => match us, hl with | [_], _ => rfl) .nil rfl (dl := []) (fun as h => match as, h with | [_], _ => rfl) (fun _ _ _ => RpL.nil)
theorem ck16 (HK : K.In base) (HG : base.Ns mainGlobals mg) (c : SaysP fa fds ts ex w K) (a : At P w K mg base l X) (AJ : AllJ P w K mg base (Lk K) G T l) : CallOk X (Lk K) (callD G (tabJ T) l) "wants_hold" 19 2 [.arg 0, .arg 1] := by
  obtain ⟨fd, F⟩ := (c.def_ 19 (d := f19) rfl)
  exact a.call AJ (g := 19) (j := j19) rfl F  (He.glo_ok HK HG (c.fact 15 (f := .glo (PySem.Str.ofString "wants_hold")) rfl)) (FunD.bindsN (ps := p19) F fun _ _ _ _ _ _ us hl => match us, hl with | [_, _], _ => rfl) .nil rfl (dl := []) (fun as h => match as, h with | [_, _], _ => rfl) (fun _ _ _ => RpL.nil)
theorem ck17 (HK : K.In base) (HG : base.Ns mainGlobals mg) (c : SaysP fa fds ts ex w K) (a : At P w K mg base l X) (AJ : AllJ P w K mg base (Lk K) G T l) : CallOk X (Lk K) (callD G (tabJ T) l) "_answer" 20 3 [.arg 0, .arg 1, .arg 2] := by
  obtain ⟨fd, F⟩ := (c.def_ 20 (d := f20) rfl)
  exact a.call AJ (g := 20) (j := j20) rfl F  (He.glo_ok HK HG (c.fact 16 (f := .glo (PySem.Str.ofString "_answer")) rfl)) (FunD.bindsN (ps := p20) F fun _ _ _ _ _ _ us hl => match us, hl with | [_, _, _], _ => rfl) .nil rfl (dl := []) (fun as h => match as, h with | [_, _, _], _ => rfl) (fun _ _ _ => RpL.nil)
theorem ck18 (HK : K.In base) (HG : base.Ns mainGlobals mg) (c : SaysP fa fds ts ex w K) (a : At P w K mg base l X) (AJ : AllJ P w K mg base (Lk K) G T l) : CallOk X (Lk K) (callD G (tabJ T) l) "ones" 21 1 [.arg 0] := by
  obtain ⟨fd, F⟩ := (c.def_ 21 (d := f21) rfl)
  exact a.call AJ (g := 21) (j := j21) rfl F  (He.glo_ok HK HG (c.fact 17 (f := .glo (PySem.Str.ofString "ones")) rfl)) (FunD.bindsN (ps := p21) F fun _ _ _ _ _ _ us hl => match us, hl with | [_], _ => rfl) .nil rfl (dl := []) (fun as h => match as, h with | [_], _ => rfl) (fun _ _ _ => RpL.nil)
theorem ck19 (HK : K.In base) (HG : base.Ns mainGlobals mg) (c : SaysP fa fds ts ex w K) (a : At P w K mg base l X) (AJ : AllJ P w K mg base (Lk K) G T l) : CallOk X (Lk K) (callD G (tabJ T) l) "check_sizes" 14 2 [.arg 0, .arg 1, .lit (.int (32))] := by
  obtain ⟨fd, F⟩ := (c.def_ 14 (d := f14) rfl)
  obtain ⟨ds, r, b⟩ := FunD.binds1 (ps := p14) F 2 0 (fun z => nomatch z) rfl fun T kV doc pm an cdv ct us its h1 h2 => match us, its, h1, h2 with | [_, _], [_], _, _ => ⟨_, rfl, rfl⟩
  exact a.call AJ (g := 14) (j := j14) rfl F  (He.glo_ok HK HG (c.fact 11 (f := .glo (PySem.Str.ofString "check_sizes")) rfl)) b r rfl (dl := [.int (32)]) (fun as h => match as, h with | [_, _], _ => rfl) (fun _ _ _ => RpL.cons rfl (RpL.nil))
theorem ck20 (HK : K.In base) (HG : base.Ns mainGlobals mg) (c : SaysP fa fds ts ex w K) (a : At P w K mg base l X) (AJ : AllJ P w K mg base (Lk K) G T l) : CallOk X (Lk K) (callD G (tabJ T) l) "is_whole" 22 1 [.arg 0] := by
  obtain ⟨fd, F⟩ := (c.def_ 22 (d := f22) rfl)
  exact a.call AJ (g := 22) (j := j22) rfl F  (He.glo_ok HK HG (c.fact 18 (f := .glo (PySem.Str.ofString "is_whole")) rfl)) (FunD.bindsN (ps := p22) F fun _ _ _ _ _ _ us hl => match us, hl with | [_], _ => rfl) .nil rfl (dl := []) (fun as h => match as, h with | [_], _ => rfl) (fun _ _ _ => RpL.nil)
theorem ck21 (HK : K.In base) (HG : base.Ns mainGlobals mg) (c : SaysP fa fds ts ex w K) (a : At P w K mg base l X) (AJ : AllJ P w K mg base (Lk K) G T l) : CallOk X (Lk K) (callD G (tabJ T) l) "true_marks" 23 3 [.arg 0, .arg 1, .arg 2] := by
  obtain ⟨fd, F⟩ := (c.def_ 23 (d := f23) rfl)
  exact a.call AJ (g := 23) (j := j23) rfl F  (He.glo_ok HK HG (c.fact 19 (f := .glo (PySem.Str.ofString "true_marks")) rfl)) (FunD.bindsN (ps := p23) F fun _ _ _ _ _ _ us hl => match us, hl with | [_, _, _], _ => rfl) .nil rfl (dl := []) (fun as h => match as, h with | [_, _, _], _ => rfl) (fun _ _ _ => RpL.nil)
theorem ck22 (HK : K.In base) (HG : base.Ns mainGlobals mg) (c : SaysP fa fds ts ex w K) (a : At P w K mg base l X) (AJ : AllJ P w K mg base (Lk K) G T l) : CallOk X (Lk K) (callD G (tabJ T) l) "is_between" 24 3 [.arg 0, .arg 1, .arg 2] := by
  obtain ⟨fd, F⟩ := (c.def_ 24 (d := f24) rfl)
  exact a.call AJ (g := 24) (j := j24) rfl F  (He.glo_ok HK HG (c.fact 20 (f := .glo (PySem.Str.ofString "is_between")) rfl)) (FunD.bindsN (ps := p24) F fun _ _ _ _ _ _ us hl => match us, hl with | [_, _, _], _ => rfl) .nil rfl (dl := []) (fun as h => match as, h with | [_, _, _], _ => rfl) (fun _ _ _ => RpL.nil)
theorem ck23 (HK : K.In base) (HG : base.Ns mainGlobals mg) (c : SaysP fa fds ts ex w K) (a : At P w K mg base l X) (AJ : AllJ P w K mg base (Lk K) G T l) : CallOk X (Lk K) (callD G (tabJ T) l) "marks_of" 25 1 [.arg 0] := by
  obtain ⟨fd, F⟩ := (c.def_ 25 (d := f25) rfl)
  exact a.call AJ (g := 25) (j := j25) rfl F  (He.glo_ok HK HG (c.fact 21 (f := .glo (PySem.Str.ofString "marks_of")) rfl)) (FunD.bindsN (ps := p25) F fun _ _ _ _ _ _ us hl => match us, hl with | [_], _ => rfl) .nil rfl (dl := []) (fun as h => match as, h with | [_], _ => rfl) (fun _ _ _ => RpL.nil)
theorem ck24 (HK : K.In base) (HG : base.Ns mainGlobals mg) (c : SaysP fa fds ts ex w K) (a : At P w K mg base l X) (AJ : AllJ P w K mg base (Lk K) G T l) : CallOk X (Lk K) (callD G (tabJ T) l) "is_listed" 26 1 [.arg 0] := by
  obtain ⟨fd, F⟩ := (c.def_ 26 (d := f26) rfl)
  exact a.call AJ (g := 26) (j := j26) rfl F  (He.glo_ok HK HG (c.fact 22 (f := .glo (PySem.Str.ofString "is_listed")) rfl)) (FunD.bindsN (ps := p26) F fun _ _ _ _ _ _ us hl => match us, hl with | [_], _ => rfl) .nil rfl (dl := []) (fun as h => match as, h with | [_], _ => rfl) (fun _ _ _ => RpL.nil)
theorem ck25 (HK : K.In base) (HG : base.Ns mainGlobals mg) (c : SaysP fa fds ts ex w K) (a : At P w K mg base l X) (AJ : AllJ P w K mg base (Lk K) G T l) : CallOk X (Lk K) (callD G (tabJ T) l) "_is_rows" 27 3 [.arg 0, .arg 1, .arg 2] := by
  obtain ⟨fd, F⟩ := (c.def_ 27 (d := f27) rfl)
  exact a.call AJ (g := 27) (j := j27) rfl F  (He.glo_ok HK HG (c.fact 23 (f := .glo (PySem.Str.ofString "_is_rows")) rfl)) (FunD.bindsN (ps := p27) F fun _ _ _ _ _ _ us hl => match us, hl with | [_, _, _], _ => rfl) .nil rfl (dl := []) (fun as h => match as, h with | [_, _, _], _ => rfl) (fun _ _ _ => RpL.nil)
theorem ck26 (HK : K.In base) (HG : base.Ns mainGlobals mg) (c : SaysP fa fds ts ex w K) (a : At P w K mg base l X) (AJ : AllJ P w K mg base (Lk K) G T l) : CallOk X (Lk K) (callD G (tabJ T) l) "_answer_of_one" 28 3 [.arg 0, .arg 1, .arg 2] := by
  obtain ⟨fd, F⟩ := (c.def_ 28 (d := f28) rfl)
  exact a.call AJ (g := 28) (j := j28) rfl F  (He.glo_ok HK HG (c.fact 24 (f := .glo (PySem.Str.ofString "_answer_of_one")) rfl)) (FunD.bindsN (ps := p28) F fun _ _ _ _ _ _ us hl => match us, hl with | [_, _, _], _ => rfl) .nil rfl (dl := []) (fun as h => match as, h with | [_, _, _], _ => rfl) (fun _ _ _ => RpL.nil)
theorem ck27 (HK : K.In base) (HG : base.Ns mainGlobals mg) (c : SaysP fa fds ts ex w K) (a : At P w K mg base l X) (AJ : AllJ P w K mg base (Lk K) G T l) : CallOk X (Lk K) (callD G (tabJ T) l) "_signed_answer" 29 3 [.arg 0, .arg 1, .arg 2] := by
  obtain ⟨fd, F⟩ := (c.def_ 29 (d := f29) rfl)
  exact a.call AJ (g := 29) (j := j29) rfl F  (He.glo_ok HK HG (c.fact 25 (f := .glo (PySem.Str.ofString "_signed_answer")) rfl)) (FunD.bindsN (ps := p29) F fun _ _ _ _ _ _ us hl => match us, hl with | [_, _, _], _ => rfl) .nil rfl (dl := []) (fun as h => match as, h with | [_, _, _], _ => rfl) (fun _ _ _ => RpL.nil)
theorem ck28 (HK : K.In base) (HG : base.Ns mainGlobals mg) (c : SaysP fa fds ts ex w K) (a : At P w K mg base l X) (AJ : AllJ P w K mg base (Lk K) G T l) : CallOk X (Lk K) (callD G (tabJ T) l) "signed_number" 30 2 [.arg 0, .arg 1] := by
  obtain ⟨fd, F⟩ := (c.def_ 30 (d := f30) rfl)
  exact a.call AJ (g := 30) (j := j30) rfl F  (He.glo_ok HK HG (c.fact 26 (f := .glo (PySem.Str.ofString "signed_number")) rfl)) (FunD.bindsN (ps := p30) F fun _ _ _ _ _ _ us hl => match us, hl with | [_, _], _ => rfl) .nil rfl (dl := []) (fun as h => match as, h with | [_, _], _ => rfl) (fun _ _ _ => RpL.nil)
theorem ck29 (HK : K.In base) (HG : base.Ns mainGlobals mg) (c : SaysP fa fds ts ex w K) (a : At P w K mg base l X) (AJ : AllJ P w K mg base (Lk K) G T l) : CallOk X (Lk K) (callD G (tabJ T) l) "_plain_answer" 31 3 [.arg 0, .arg 1, .arg 2] := by
  obtain ⟨fd, F⟩ := (c.def_ 31 (d := f31) rfl)
  exact a.call AJ (g := 31) (j := j31) rfl F  (He.glo_ok HK HG (c.fact 27 (f := .glo (PySem.Str.ofString "_plain_answer")) rfl)) (FunD.bindsN (ps := p31) F fun _ _ _ _ _ _ us hl => match us, hl with | [_, _, _], _ => rfl) .nil rfl (dl := []) (fun as h => match as, h with | [_, _, _], _ => rfl) (fun _ _ _ => RpL.nil)
theorem ck30 (HK : K.In base) (HG : base.Ns mainGlobals mg) (c : SaysP fa fds ts ex w K) (a : At P w K mg base l X) (AJ : AllJ P w K mg base (Lk K) G T l) : CallOk X (Lk K) (callD G (tabJ T) l) "ordered_marks" 32 1 [.arg 0] := by
  obtain ⟨fd, F⟩ := (c.def_ 32 (d := f32) rfl)
  exact a.call AJ (g := 32) (j := j32) rfl F  (He.glo_ok HK HG (c.fact 28 (f := .glo (PySem.Str.ofString "ordered_marks")) rfl)) (FunD.bindsN (ps := p32) F fun _ _ _ _ _ _ us hl => match us, hl with | [_], _ => rfl) .nil rfl (dl := []) (fun as h => match as, h with | [_], _ => rfl) (fun _ _ _ => RpL.nil)
theorem ck31 (HK : K.In base) (HG : base.Ns mainGlobals mg) (c : SaysP fa fds ts ex w K) (a : At P w K mg base l X) (AJ : AllJ P w K mg base (Lk K) G T l) : CallOk X (Lk K) (callD G (tabJ T) l) "_is_wants" 34 2 [.arg 0, .arg 1] := by
  obtain ⟨fd, F⟩ := (c.def_ 34 (d := f34) rfl)
  exact a.call AJ (g := 34) (j := j34) rfl F  (He.glo_ok HK HG (c.fact 29 (f := .glo (PySem.Str.ofString "_is_wants")) rfl)) (FunD.bindsN (ps := p34) F fun _ _ _ _ _ _ us hl => match us, hl with | [_, _], _ => rfl) .nil rfl (dl := []) (fun as h => match as, h with | [_, _], _ => rfl) (fun _ _ _ => RpL.nil)
theorem ck32 (HK : K.In base) (HG : base.Ns mainGlobals mg) (c : SaysP fa fds ts ex w K) (a : At P w K mg base l X) (AJ : AllJ P w K mg base (Lk K) G T l) : CallOk X (Lk K) (callD G (tabJ T) l) "_quotient" 35 2 [.arg 0, .arg 1] := by
  obtain ⟨fd, F⟩ := (c.def_ 35 (d := f35) rfl)
  exact a.call AJ (g := 35) (j := j35) rfl F  (He.glo_ok HK HG (c.fact 30 (f := .glo (PySem.Str.ofString "_quotient")) rfl)) (FunD.bindsN (ps := p35) F fun _ _ _ _ _ _ us hl => match us, hl with | [_, _], _ => rfl) .nil rfl (dl := []) (fun as h => match as, h with | [_, _], _ => rfl) (fun _ _ _ => RpL.nil)
theorem calls_ok (HK : K.In base) (HG : base.Ns mainGlobals mg) (c : SaysP fa fds ts ex w K) (a : At P w K mg base l X) (AJ : AllJ P w K mg base (Lk K) G T l) : Calls X (Lk K) (callD G (tabJ T) l) := ⟨ck0 HK HG c a AJ, ck1 HK HG c a AJ, ck2 HK HG c a AJ, ck3 HK HG c a AJ, ck4 HK HG c a AJ, ck5 HK HG c a AJ, ck6 HK HG c a AJ, ck7 HK HG c a AJ, ck8 HK HG c a AJ, ck9 HK HG c a AJ, ck10 HK HG c a AJ, ck11 HK HG c a AJ, ck12 HK HG c a AJ, ck13 HK HG c a AJ, ck14 HK HG c a AJ, ck15 HK HG c a AJ, ck16 HK HG c a AJ, ck17 HK HG c a AJ, ck18 HK HG c a AJ, ck19 HK HG c a AJ, ck20 HK HG c a AJ, ck21 HK HG c a AJ, ck22 HK HG c a AJ, ck23 HK HG c a AJ, ck24 HK HG c a AJ, ck25 HK HG c a AJ, ck26 HK HG c a AJ, ck27 HK HG c a AJ, ck28 HK HG c a AJ, ck29 HK HG c a AJ, ck30 HK HG c a AJ, ck31 HK HG c a AJ, ck32 HK HG c a AJ⟩
theorem ex_parts (h : ex K = true) : gvB K (PySem.Str.ofString "TEXTS") (.tup [.str ⟨#[]⟩, .str ⟨#[122]⟩, .str ⟨#[115]⟩, .str ⟨#[122, 115]⟩]) = true ∧ gvB K (PySem.Str.ofString "MOST_ROWS") (.int (4)) = true ∧ gvB K (PySem.Str.ofString "MOST_SEARCHED") (.int (7)) = true ∧ kdB K ((Lk K).kda 0) ((kts[0]?).getD []) = true ∧ kdB K ((Lk K).kda 1) ((kts[1]?).getD []) = true ∧ propB K (PySem.Str.ofString "Operation") (PySem.Str.ofString "arity") = true ∧ propB K (PySem.Str.ofString "Dress") (PySem.Str.ofString "marks") = true ∧ isiB K ((Lk K).cla 8) = true ∧ kitB1 K (Lk K) 8 = true ∧ kitB2 K (Lk K) 8 8 = true := by
  unfold ex at h
  simp only [Bool.and_eq_true, and_true, and_assoc] at h
  exact h
theorem mg_ok (HK : K.In base) (HG : base.Ns mainGlobals mg) (c : SaysP fa fds ts ex w K) (a : At P w K mg base l X) : Mg X (Lk K) := by
  obtain ⟨h1, h2, h3, h4, h5, h6, h7, h8⟩ := a
  subst h3 h4
  obtain ⟨e0, e1, e2, e3, e4, e5, e6, e7, e8, e9⟩ := ex_parts c.more
  exact ⟨He.free_ok HK HG (c.fact 39 (f := .free (PySem.Str.ofString "abs")) rfl), He.free_ok HK HG (c.fact 40 (f := .free (PySem.Str.ofString "all")) rfl), He.free_ok HK HG (c.fact 41 (f := .free (PySem.Str.ofString "any")) rfl), He.free_ok HK HG (c.fact 42 (f := .free (PySem.Str.ofString "bool")) rfl), He.free_ok HK HG (c.fact 43 (f := .free (PySem.Str.ofString "int")) rfl), He.free_ok HK HG (c.fact 44 (f := .free (PySem.Str.ofString "isinstance")) rfl), He.free_ok HK HG (c.fact 45 (f := .free (PySem.Str.ofString "len")) rfl), He.free_ok HK HG (c.fact 46 (f := .free (PySem.Str.ofString "list")) rfl), He.free_ok HK HG (c.fact 47 (f := .free (PySem.Str.ofString "range")) rfl), He.free_ok HK HG (c.fact 48 (f := .free (PySem.Str.ofString "str")) rfl), He.free_ok HK HG (c.fact 49 (f := .free (PySem.Str.ofString "tuple")) rfl), He.free_ok HK HG (c.fact 50 (f := .free (PySem.Str.ofString "zip")) rfl), gv_ok HK HG e0, gv_ok HK HG e1, gv_ok HK HG e2, ⟨_, .ref _, (He.glo_ok HK HG (c.fact 37 (f := .glo (PySem.Str.ofString "ORDERED")) rfl)), rfl, fun _ _ _ => rfl⟩, ⟨_, .ref _, (He.glo_ok HK HG (c.fact 38 (f := .glo (PySem.Str.ofString "KNOWN")) rfl)), rfl, fun _ _ _ => rfl⟩, (He.glo_ok HK HG (c.fact 31 (f := .glo (PySem.Str.ofString "Dress")) rfl))⟩
theorem env_ok (HK : K.In base) (HG : base.Ns mainGlobals mg) (c : SaysP fa fds ts ex w K) (a : At P w K mg base l X) (AJ : AllJ P w K mg base (Lk K) G T l) : EnvOk X (Lk K) G (callD G (tabJ T) l) := by
  obtain ⟨e0, e1, e2, e3, e4, e5, e6, e7, e8, e9⟩ := ex_parts c.more
  exact a.env AJ (List.forall_mem_cons.mpr ⟨(by
      obtain ⟨q, hq⟩ := prop_ok e5
      obtain ⟨fd, F⟩ := (c.def_ 5 (d := f5) rfl)
      exact ⟨(He.cls_ok (c.fact 34 (f := .cls (PySem.Str.ofString "Operation")) rfl)), q, j5, fd, hq, rfl, F, rfl, (FunD.bindsN (ps := p5) F fun _ _ _ _ _ _ us hl => match us, hl with | [_], _ => rfl)⟩), (List.forall_mem_cons.mpr ⟨(by
      obtain ⟨q, hq⟩ := prop_ok e6
      obtain ⟨fd, F⟩ := (c.def_ 33 (d := f33) rfl)
      exact ⟨(He.cls_ok (c.fact 32 (f := .cls (PySem.Str.ofString "Dress")) rfl)), q, j33, fd, hq, rfl, F, rfl, (FunD.bindsN (ps := p33) F fun _ _ _ _ _ _ us hl => match us, hl with | [_], _ => rfl)⟩), List.forall_mem_nil _⟩)⟩) (List.forall_mem_cons.mpr ⟨(by
      obtain ⟨fd, F⟩ := (c.def_ 6 (d := f6) rfl)
      exact ⟨(He.cls_ok (c.fact 34 (f := .cls (PySem.Str.ofString "Operation")) rfl)), j6, fd, He.meth_ok (c.fact 58 (f := .meth (PySem.Str.ofString "Operation") (PySem.Str.ofString "holds")) rfl), rfl, F, (FunD.bindsN (ps := p6) F fun _ _ _ _ _ _ us hl => match us, hl with | [_, _], _ => rfl)⟩), List.forall_mem_nil _⟩) (List.forall_mem_cons.mpr ⟨⟨(He.cls_ok (c.fact 34 (f := .cls (PySem.Str.ofString "Operation")) rfl)), He.noat_ok (c.fact 51 (f := .noat (PySem.Str.ofString "Operation") (PySem.Str.ofString "_arity")) rfl)⟩, (List.forall_mem_cons.mpr ⟨⟨(He.cls_ok (c.fact 34 (f := .cls (PySem.Str.ofString "Operation")) rfl)), He.noat_ok (c.fact 52 (f := .noat (PySem.Str.ofString "Operation") (PySem.Str.ofString "_needs")) rfl)⟩, (List.forall_mem_cons.mpr ⟨⟨(He.cls_ok (c.fact 34 (f := .cls (PySem.Str.ofString "Operation")) rfl)), He.noat_ok (c.fact 53 (f := .noat (PySem.Str.ofString "Operation") (PySem.Str.ofString "_z")) rfl)⟩, (List.forall_mem_cons.mpr ⟨⟨(He.cls_ok (c.fact 34 (f := .cls (PySem.Str.ofString "Operation")) rfl)), He.noat_ok (c.fact 54 (f := .noat (PySem.Str.ofString "Operation") (PySem.Str.ofString "_s")) rfl)⟩, (List.forall_mem_cons.mpr ⟨⟨(He.cls_ok (c.fact 36 (f := .cls (PySem.Str.ofString "Wide")) rfl)), He.noat_ok (c.fact 55 (f := .noat (PySem.Str.ofString "Wide") (PySem.Str.ofString "_bits")) rfl)⟩, (List.forall_mem_cons.mpr ⟨⟨(He.cls_ok (c.fact 36 (f := .cls (PySem.Str.ofString "Wide")) rfl)), He.noat_ok (c.fact 56 (f := .noat (PySem.Str.ofString "Wide") (PySem.Str.ofString "_narrow")) rfl)⟩, (List.forall_mem_cons.mpr ⟨⟨(He.cls_ok (c.fact 36 (f := .cls (PySem.Str.ofString "Wide")) rfl)), He.noat_ok (c.fact 57 (f := .noat (PySem.Str.ofString "Wide") (PySem.Str.ofString "_wide")) rfl)⟩, List.forall_mem_nil _⟩)⟩)⟩)⟩)⟩)⟩)⟩) (fun i t h => match i, h with
    | 0, h => by
      cases h
      exact ⟨c.tab 0 rfl, e3⟩
    | 1, h => by
      cases h
      exact ⟨c.tab 1 rfl, e4⟩
    | n + 2, h => by cases h) (List.forall_mem_cons.mpr ⟨⟨(He.cls_ok (c.fact 32 (f := .cls (PySem.Str.ofString "Dress")) rfl)), e7, e8, (List.forall_mem_cons.mpr ⟨e9, List.forall_mem_nil _⟩)⟩, List.forall_mem_nil _⟩)
theorem scopes : ∀ (f : Nat) (i : FJ), T[f]? = some i → FnScope i.N i.ps i.f.d.scope := fun f i h => match f, h with
  | 0, h => by cases h; exact ⟨rfl, rfl, rfl, by decide +kernel, by decide +kernel, by decide +kernel, by decide +kernel⟩
  | 1, h => by cases h; exact ⟨rfl, rfl, rfl, by decide +kernel, by decide +kernel, by decide +kernel, by decide +kernel⟩
  | 2, h => by cases h; exact ⟨rfl, rfl, rfl, by decide +kernel, by decide +kernel, by decide +kernel, by decide +kernel⟩
  | 3, h => by cases h; exact ⟨rfl, rfl, rfl, by decide +kernel, by decide +kernel, by decide +kernel, by decide +kernel⟩
  | 4, h => by cases h; exact ⟨rfl, rfl, rfl, by decide +kernel, by decide +kernel, by decide +kernel, by decide +kernel⟩
  | 5, h => by cases h; exact ⟨rfl, rfl, rfl, by decide +kernel, by decide +kernel, by decide +kernel, by decide +kernel⟩
  | 6, h => by cases h; exact ⟨rfl, rfl, rfl, by decide +kernel, by decide +kernel, by decide +kernel, by decide +kernel⟩
  | 7, h => by cases h; exact ⟨rfl, rfl, rfl, by decide +kernel, by decide +kernel, by decide +kernel, by decide +kernel⟩
  | 8, h => by cases h; exact ⟨rfl, rfl, rfl, by decide +kernel, by decide +kernel, by decide +kernel, by decide +kernel⟩
  | 9, h => by cases h; exact ⟨rfl, rfl, rfl, by decide +kernel, by decide +kernel, by decide +kernel, by decide +kernel⟩
  | 10, h => by cases h; exact ⟨rfl, rfl, rfl, by decide +kernel, by decide +kernel, by decide +kernel, by decide +kernel⟩
  | 11, h => by cases h; exact ⟨rfl, rfl, rfl, by decide +kernel, by decide +kernel, by decide +kernel, by decide +kernel⟩
  | 12, h => by cases h; exact ⟨rfl, rfl, rfl, by decide +kernel, by decide +kernel, by decide +kernel, by decide +kernel⟩
  | 13, h => by cases h; exact ⟨rfl, rfl, rfl, by decide +kernel, by decide +kernel, by decide +kernel, by decide +kernel⟩
  | 14, h => by cases h; exact ⟨rfl, rfl, rfl, by decide +kernel, by decide +kernel, by decide +kernel, by decide +kernel⟩
  | 15, h => by cases h; exact ⟨rfl, rfl, rfl, by decide +kernel, by decide +kernel, by decide +kernel, by decide +kernel⟩
  | 16, h => by cases h; exact ⟨rfl, rfl, rfl, by decide +kernel, by decide +kernel, by decide +kernel, by decide +kernel⟩
  | 17, h => by cases h; exact ⟨rfl, rfl, rfl, by decide +kernel, by decide +kernel, by decide +kernel, by decide +kernel⟩
  | 18, h => by cases h; exact ⟨rfl, rfl, rfl, by decide +kernel, by decide +kernel, by decide +kernel, by decide +kernel⟩
  | 19, h => by cases h; exact ⟨rfl, rfl, rfl, by decide +kernel, by decide +kernel, by decide +kernel, by decide +kernel⟩
  | 20, h => by cases h; exact ⟨rfl, rfl, rfl, by decide +kernel, by decide +kernel, by decide +kernel, by decide +kernel⟩
  | 21, h => by cases h; exact ⟨rfl, rfl, rfl, by decide +kernel, by decide +kernel, by decide +kernel, by decide +kernel⟩
  | 22, h => by cases h; exact ⟨rfl, rfl, rfl, by decide +kernel, by decide +kernel, by decide +kernel, by decide +kernel⟩
  | 23, h => by cases h; exact ⟨rfl, rfl, rfl, by decide +kernel, by decide +kernel, by decide +kernel, by decide +kernel⟩
  | 24, h => by cases h; exact ⟨rfl, rfl, rfl, by decide +kernel, by decide +kernel, by decide +kernel, by decide +kernel⟩
  | 25, h => by cases h; exact ⟨rfl, rfl, rfl, by decide +kernel, by decide +kernel, by decide +kernel, by decide +kernel⟩
  | 26, h => by cases h; exact ⟨rfl, rfl, rfl, by decide +kernel, by decide +kernel, by decide +kernel, by decide +kernel⟩
  | 27, h => by cases h; exact ⟨rfl, rfl, rfl, by decide +kernel, by decide +kernel, by decide +kernel, by decide +kernel⟩
  | 28, h => by cases h; exact ⟨rfl, rfl, rfl, by decide +kernel, by decide +kernel, by decide +kernel, by decide +kernel⟩
  | 29, h => by cases h; exact ⟨rfl, rfl, rfl, by decide +kernel, by decide +kernel, by decide +kernel, by decide +kernel⟩
  | 30, h => by cases h; exact ⟨rfl, rfl, rfl, by decide +kernel, by decide +kernel, by decide +kernel, by decide +kernel⟩
  | 31, h => by cases h; exact ⟨rfl, rfl, rfl, by decide +kernel, by decide +kernel, by decide +kernel, by decide +kernel⟩
  | 32, h => by cases h; exact ⟨rfl, rfl, rfl, by decide +kernel, by decide +kernel, by decide +kernel, by decide +kernel⟩
  | 33, h => by cases h; exact ⟨rfl, rfl, rfl, by decide +kernel, by decide +kernel, by decide +kernel, by decide +kernel⟩
  | 34, h => by cases h; exact ⟨rfl, rfl, rfl, by decide +kernel, by decide +kernel, by decide +kernel, by decide +kernel⟩
  | 35, h => by cases h; exact ⟨rfl, rfl, rfl, by decide +kernel, by decide +kernel, by decide +kernel, by decide +kernel⟩
  | m + 36, h => by cases h
theorem levels (HK : K.In base) (HG : base.Ns mainGlobals mg) (c : SaysP fa fds ts ex w K) : ∀ l, AllJ P w K mg base (Lk K) G T l := by
  refine all_j scopes fun f i fd hi hF l AJ cdv A outer s H E hr => ?_
  have sc := scopes f i hi
  have a : At P w K mg base l (cxOf CX0 P w K mg base i.N i.f.d.qual i.f.d.scope (i.f.ad K) cdv A outer s H E) := ⟨rfl, rfl, rfl, rfl, rfl, rfl, sc.nd, hr⟩
  have EE := env_ok HK HG c a AJ
  have CC := calls_ok HK HG c a AJ
  have MM := mg_ok HK HG c a
  match f, hi with
  | 0, hi => cases hi; exact b0 _ rfl EE CC MM
  | 1, hi => cases hi; exact b1 _ rfl EE CC MM
  | 2, hi => cases hi; exact b2 _ rfl EE CC MM
  | 3, hi => cases hi; exact b3 _ rfl EE CC MM
  | 4, hi => cases hi; exact b4 _ rfl EE CC MM
  | 5, hi => cases hi; exact b5 _ rfl EE CC MM
  | 6, hi => cases hi; exact b6 _ rfl EE CC MM
  | 7, hi => cases hi; exact b7 _ rfl EE CC MM
  | 8, hi => cases hi; exact b8 _ rfl EE CC MM
  | 9, hi => cases hi; exact b9 _ rfl EE CC MM
  | 10, hi => cases hi; exact b10 _ rfl EE CC MM
  | 11, hi => cases hi; exact b11 _ rfl EE CC MM
  | 12, hi => cases hi; exact b12 _ rfl EE CC MM
  | 13, hi => cases hi; exact b13 _ rfl EE CC MM
  | 14, hi => cases hi; exact b14 _ rfl EE CC MM
  | 15, hi => cases hi; exact b15 _ rfl EE CC MM
  | 16, hi => cases hi; exact b16 _ rfl EE CC MM
  | 17, hi => cases hi; exact b17 _ rfl EE CC MM
  | 18, hi => cases hi; exact b18 _ rfl EE CC MM
  | 19, hi => cases hi; exact b19 _ rfl EE CC MM
  | 20, hi => cases hi; exact b20 _ rfl EE CC MM
  | 21, hi => cases hi; exact b21 _ rfl EE CC MM
  | 22, hi => cases hi; exact b22 _ rfl EE CC MM
  | 23, hi => cases hi; exact b23 _ rfl EE CC MM
  | 24, hi => cases hi; exact b24 _ rfl EE CC MM
  | 25, hi => cases hi; exact b25 _ rfl EE CC MM
  | 26, hi => cases hi; exact b26 _ rfl EE CC MM
  | 27, hi => cases hi; exact b27 _ rfl EE CC MM
  | 28, hi => cases hi; exact b28 _ rfl EE CC MM
  | 29, hi => cases hi; exact b29 _ rfl EE CC MM
  | 30, hi => cases hi; exact b30 _ rfl EE CC MM
  | 31, hi => cases hi; exact b31 _ rfl EE CC MM
  | 32, hi => cases hi; exact b32 _ rfl EE CC MM
  | 33, hi => cases hi; exact b33 _ rfl EE CC MM
  | 34, hi => cases hi; exact b34 _ rfl EE CC MM
  | 35, hi => cases hi; exact b35 _ rfl EE CC MM
  | m + 36, hi => cases hi
end
end Cd
namespace Cd
open PySem PySem.Spec PyProof.Rows L2 PD
def k0 (cf : Nat → List D → Store → Res D) : SS := tCons (tIfs (sNot (sCall cf 1 [.arg 0, .arg 1] (sCons (sLit (.int (2))) (sCons (sLit (.int (4))) (sNil))))) (tCons (PD.tRet (sLit (.bl false))) (tNil)) (tNil)) (tCons (tIfs (sCmp G .eq (sVar 0) (sLst (sNil))) (tCons (PD.tRet (sLit (.bl true))) (tNil)) (tNil)) (tCons (PD.tAsg 1 (sCall cf 3 [.arg 0, .arg 1] (sCons (sVar 0) (sCons (sLit (.int (0))) (sNil))))) (tCons (PD.tAsg 2 (sOp .add (sLit (.int (2))) (sCall cf 2 [.arg 0, .arg 1] (sCons (sVar 1) (sCons (sLit (.int (2))) (sNil)))))) (tCons (PD.tRet (sCall cf 1 [.arg 0, .arg 1] (sCons (sVar 2) (sCons (sOp .add (sOp .add (sVar 2) (sLit (.int (2)))) (sCall cf 2 [.arg 0, .arg 1] (sCons (sVar 1) (sCons (sOp .sub (sLit (.int (5))) (sVar 2)) (sNil))))) (sNil))))) (tNil)))))
def k1 (cf : Nat → List D → Store → Res D) : SS := tCons (tFor1 (sSeq (sLst (sCons (sLit (.str ⟨#[115, 104, 114]⟩)) (sCons (sLit (.str ⟨#[115, 97, 114]⟩)) (sCons (sLit (.str ⟨#[117, 108, 116]⟩)) (sCons (sLit (.str ⟨#[101, 113, 117]⟩)) (sCons (sLit (.str ⟨#[115, 108, 116]⟩)) (sNil)))))))) [2] true (tCons (PD.tAsg 3 (sCall cf 8 [.arg 0] (sCons (sVar 2) (sNil)))) (tCons (tFor1 (sSeq (sCall cf 4 [.arg 0] (sCons (sAttr G cf (sVar 3) ⟨#[97, 114, 105, 116, 121]⟩) (sNil)))) [4] true (tCons (PD.tAsg 5 (sCall cf 7 [.arg 0, .arg 1, .arg 2, .arg 3] (sCons (sVar 2) (sCons (sVar 4) (sCons (sVar 0) (sCons (sVar 1) (sNil))))))) (tCons (tIfs (sCmp G .ne (sCmp G .isN (sVar 5) (sLit (.non))) (sMeth G cf (sVar 3) ⟨#[104, 111, 108, 100, 115]⟩ (sCons (sVar 4) (sNil)))) (tCons (PD.tRet (sLit (.bl false))) (tNil)) (tNil)) (tNil)))) (tNil)))) (tCons (PD.tRet (sLit (.bl true))) (tNil))
def k2 (cf : Nat → List D → Store → Res D) : SS := tCons (tIfs (sCmp G .gt (sSub G (sVar 0) (sLit (.int (0)))) (sLit (.int (0)))) (tCons (PD.tAsg 2 (sOp .mod (sBlt G .int1 (sCons (sSub G (sVar 0) (sLit (.int (0)))) (sNil))) (sVar 1))) (tCons (tSetI (sVar 0) (sLit (.int (0))) (sOp .fdiv (sSub G (sVar 0) (sLit (.int (0)))) (sVar 1))) (tCons (PD.tRet (sVar 2)) (tNil)))) (tNil)) (tCons (tSetI (sVar 0) (sLit (.int (1))) (sOp .mod (sBlt G .int1 (sCons (sOp .add (sOp .mul (sSub G (sVar 0) (sLit (.int (1)))) (sLit (.int (48271)))) (sLit (.int (11)))) (sNil))) (sLit (.int (2147483647))))) (tCons (PD.tRet (sOp .mod (sOp .fdiv (sOp .mod (sBlt G .int1 (sCons (sOp .mul (sSub G (sVar 0) (sLit (.int (1)))) (sSub G (sVar 0) (sLit (.int (1))))) (sNil))) (sLit (.int (2147483629)))) (sLit (.int (64)))) (sVar 1))) (tNil)))
def k3 (cf : Nat → List D → Store → Res D) : SS := tCons (PD.tAsg 2 (sIte (sCmp G .lt (sVar 1) (sBlt G .len (sCons (sVar 0) (sNil)))) (sSub G (sVar 0) (sVar 1)) (sLit (.int (0))))) (tCons (PD.tAsg 3 (sOp .mul (sBlt G .int1 (sCons (sOp .add (sOp .add (sOp .mod (sBlt G .int1 (sCons (sVar 2) (sNil))) (sLit (.int (2147483629)))) (sOp .mul (sOp .mul (sLit (.int (7919))) (sVar 1)) (sVar 1))) (sLit (.int (13)))) (sNil))) (sLit (.int (48271))))) (tCons (PD.tRet (sLst (sCons (sIte (sCmp G .ge (sVar 2) (sOp .pow (sLit (.int (10))) (sLit (.int (18))))) (sVar 2) (sLit (.int (0)))) (sCons (sOp .add (sOp .mod (sBlt G .int1 (sCons (sVar 3) (sNil))) (sLit (.int (2147483647)))) (sLit (.int (1)))) (sNil))))) (tNil)))
def k4 (cf : Nat → List D → Store → Res D) : SS := tCons (PD.tAsg 1 (sLst (sCons (sLst (sNil)) (sNil)))) (tCons (tFor1 (sRng1 (sVar 0)) [2] true (tCons (PD.tAsg 3 (sLst (sNil))) (tCons (tFor1 (sSeq (sVar 1)) [4] true (tCons (PD.tAsg 3 (sOp .add (sVar 3) (sComp (sSeq (sLst (sCons (sLit (.str ⟨#[]⟩)) (sCons (sLit (.str ⟨#[122]⟩)) (sCons (sLit (.str ⟨#[115]⟩)) (sCons (sLit (.str ⟨#[122, 115]⟩)) (sNil))))))) [5] true [5] (sIf0) (sOp .add (sVar 4) (sLst (sCons (sVar 5) (sNil))))))) (tNil))) (tCons (PD.tAsg 1 (sVar 3)) (tNil))))) (tCons (PD.tRet (sVar 1)) (tNil)))
def k5 (cf : Nat → List D → Store → Res D) : SS := tCons (PD.tRet (sAttr G cf (sVar 0) ⟨#[95, 97, 114, 105, 116, 121]⟩)) (tNil)
def k6 (cf : Nat → List D → Store → Res D) : SS := tCons (PD.tRet (sCall cf 9 [.arg 0, .arg 1] (sCons (sAttr G cf (sVar 0) ⟨#[95, 110, 101, 101, 100, 115]⟩) (sCons (sCall cf 10 [.arg 0, .arg 1] (sCons (sVar 0) (sCons (sVar 1) (sNil)))) (sNil))))) (tNil)
def k7 (cf : Nat → List D → Store → Res D) : SS := tCons (PD.tAsg 4 (sCall cf 15 [.arg 0, .arg 1] (sCons (sVar 1) (sCons (sAttr G cf (sCall cf 16 [.arg 0] (sCons (sVar 0) (sNil))) ⟨#[97, 114, 105, 116, 121]⟩) (sNil))))) (tCons (tIfs (sCmp G .isN (sVar 4) (sLit (.non))) (tCons (PD.tNever) (tNil)) (tNil)) (tCons (tExpr (sCall cf 14 [.arg 0, .arg 1, .arg 2] (sCons (sVar 2) (sCons (sVar 3) (sCons (sGlb G 3) (sNil)))))) (tCons (PD.tAsg 5 (sLst (sCons (sTup (sNil)) (sNil)))) (tCons (tFor1 (sSeq (sVar 4)) [6] true (tCons (PD.tAsg 8 (sCall cf 13 [.arg 0, .arg 1, .arg 2] (sCons (sVar 6) (sCons (sVar 2) (sCons (sVar 3) (sNil)))))) (tCons (PD.tAsg 5 (sComp2 (sSeq (sVar 5)) [7] true (sSeq (sVar 8)) [9] true [7, 9] [9] (sOp .add (sVar 7) (sTup (sCons (sVar 9) (sNil)))))) (tNil)))) (tCons (tFor1 (sSeq (sVar 5)) [7] true (tCons (tIfs (sCall cf 11 [.arg 0, .arg 1, .arg 2, .arg 3] (sCons (sVar 0) (sCons (sVar 7) (sCons (sVar 2) (sCons (sVar 3) (sNil)))))) (tCons (PD.tRet (sScope (sBlt G .tuple1 (sCons (sComp (sSeq (sVar 7)) [9] true [9] (sIf0) (sMk cf 10 12 [.arg 0, .arg 1, .arg 2, .arg 3] (sCons (sVar 9) (sCons (sVar 2) (sCons (sVar 3) (sNil)))))) (sNil))))) (tNil)) (tNil)) (tNil))) (tCons (PD.tRet (sLit (.non))) (tNil)))))))
def k8 (cf : Nat → List D → Store → Res D) : SS := tCons (tIfs (sNot (sCall cf 18 [.arg 0] (sCons (sVar 0) (sNil)))) (tCons (PD.tNever) (tNil)) (tNil)) (tCons (tAsgT [1, 2, 3, 4] (sSub G (sGlb G 5) (sVar 0))) (tCons (PD.tRet (sMk cf 9 17 [.arg 0, .arg 1, .arg 2, .arg 3, .arg 4] (sCons (sVar 1) (sCons (sVar 2) (sCons (sVar 3) (sCons (sVar 4) (sNil))))))) (tNil)))
def k9 (cf : Nat → List D → Store → Res D) : SS := tCons (PD.tRet (sScope (sBlt G .any (sCons (sComp (sSeq (sVar 0)) [2] true [2] (sIf0) (sCall cf 19 [.arg 0, .arg 1] (sCons (sVar 2) (sCons (sVar 1) (sNil))))) (sNil))))) (tNil)
def k10 (cf : Nat → List D → Store → Res D) : SS := tCons (PD.tAsg 2 (sCall cf 15 [.arg 0, .arg 1] (sCons (sVar 1) (sCons (sAttr G cf (sVar 0) ⟨#[97, 114, 105, 116, 121]⟩) (sNil))))) (tCons (tIfs (sCmp G .isN (sVar 2) (sLit (.non))) (tCons (PD.tNever) (tNil)) (tNil)) (tCons (PD.tRet (sVar 2)) (tNil)))
def k11 (cf : Nat → List D → Store → Res D) : SS := tCons (PD.tAsg 4 (sCall cf 21 [.arg 0] (sCons (sVar 2) (sNil)))) (tCons (PD.tAsg 5 (sOp .band (sCall cf 20 [.arg 0, .arg 1, .arg 2] (sCons (sVar 0) (sCons (sVar 1) (sCons (sVar 3) (sNil))))) (sVar 4))) (tCons (PD.tRet (sCmp G .ne (sVar 5) (sCall cf 20 [.arg 0, .arg 1, .arg 2] (sCons (sVar 0) (sCons (sComp (sSeq (sVar 1)) [6] true [6] (sIf0) (sOp .band (sVar 6) (sVar 4))) (sCons (sVar 2) (sNil))))))) (tNil)))
def k12 (cf : Nat → List D → Store → Res D) : SS := tCons (tIfs (sNot (sCall cf 22 [.arg 0] (sCons (sVar 1) (sNil)))) (tCons (PD.tNever) (tNil)) (tNil)) (tCons (tExpr (sCall cf 14 [.arg 0, .arg 1, .lit (.int (32))] (sCons (sVar 2) (sCons (sVar 3) (sNil))))) (tCons (tSetF G (sVar 0) ⟨#[95, 98, 105, 116, 115]⟩ (sOp .band (sVar 1) (sCall cf 21 [.arg 0] (sCons (sVar 3) (sNil))))) (tCons (tSetF G (sVar 0) ⟨#[95, 110, 97, 114, 114, 111, 119]⟩ (sVar 2)) (tCons (tSetF G (sVar 0) ⟨#[95, 119, 105, 100, 101]⟩ (sVar 3)) (tNil)))))
def k13 (cf : Nat → List D → Store → Res D) : SS := tCons (PD.tAsg 3 (sLst (sNil))) (tCons (tFor1 (sRng1 (sOp .shl (sLit (.int (1))) (sVar 2))) [4] true (tCons (PD.tAsg 5 (sCall cf 23 [.arg 0, .arg 1, .arg 2] (sCons (sVar 4) (sCons (sVar 1) (sCons (sVar 2) (sNil)))))) (tCons (tIfs (sScope (sBlt G .all (sCons (sComp (sSeq (sVar 0)) [6] true [6] (sIf0) (sCmp G .in_ (sVar 6) (sVar 5))) (sNil)))) (tCons (tExpr (sApp (sVar 3) (sVar 4))) (tNil)) (tNil)) (tNil)))) (tCons (PD.tRet (sVar 3)) (tNil)))
def k14 (cf : Nat → List D → Store → Res D) : SS := tCons (tIfs (sNot (sCall cf 24 [.arg 0, .arg 1, .arg 2] (sCons (sVar 0) (sCons (sLit (.int (2))) (sCons (sLit (.int (30))) (sNil)))))) (tCons (PD.tNever) (tNil)) (tNil)) (tCons (tIfs (sNot (sCall cf 24 [.arg 0, .arg 1, .arg 2] (sCons (sVar 1) (sCons (sOp .add (sVar 0) (sLit (.int (2)))) (sCons (sVar 2) (sNil)))))) (tCons (PD.tNever) (tNil)) (tNil)) (tNil))
def k15 (cf : Nat → List D → Store → Res D) : SS := tCons (tIfs (sOr (sNot (sCall cf 26 [.arg 0] (sCons (sVar 0) (sNil)))) (sCmp G .ne (sBlt G .len (sCons (sVar 0) (sNil))) (sVar 1))) (tCons (PD.tRet (sLit (.non))) (tNil)) (tNil)) (tCons (PD.tAsg 2 (sScope (sBlt G .tuple1 (sCons (sComp (sSeq (sVar 0)) [3] true [3] (sIf0) (sCall cf 25 [.arg 0] (sCons (sVar 3) (sNil)))) (sNil))))) (tCons (tIfs (sCmp G .in_ (sLit (.non)) (sVar 2)) (tCons (PD.tRet (sLit (.non))) (tNil)) (tNil)) (tCons (PD.tRet (sVar 2)) (tNil))))
def k16 (cf : Nat → List D → Store → Res D) : SS := tCons (PD.tAsg 1 (sCall cf 8 [.arg 0] (sCons (sVar 0) (sNil)))) (tCons (tIfs (sOr (sCmp G .eq (sAttr G cf (sVar 1) ⟨#[97, 114, 105, 116, 121]⟩) (sLit (.int (0)))) (sCmp G .eq (sVar 0) (sLit (.str ⟨#[115, 116, 111, 114, 101]⟩)))) (tCons (PD.tNever) (tNil)) (tNil)) (tCons (PD.tRet (sVar 1)) (tNil)))
def k17 (cf : Nat → List D → Store → Res D) : SS := tCons (tIfs (sNot (sCall cf 24 [.arg 0, .arg 1, .arg 2] (sCons (sVar 1) (sCons (sLit (.int (0))) (sCons (sLit (.int (3))) (sNil)))))) (tCons (PD.tNever) (tNil)) (tNil)) (tCons (tIfs (sAnd (sCmp G .notN (sVar 2) (sLit (.non))) (sNot (sCall cf 27 [.arg 0, .arg 1, .arg 2] (sCons (sVar 2) (sCons (sVar 1) (sCons (sLit (.int (1))) (sNil))))))) (tCons (PD.tNever) (tNil)) (tNil)) (tCons (tIfs (sNot (sCall cf 27 [.arg 0, .arg 1, .arg 2] (sCons (sVar 3) (sCons (sVar 1) (sCons (sLit (.int (0))) (sNil)))))) (tCons (PD.tNever) (tNil)) (tNil)) (tCons (tIfs (sNot (sCall cf 27 [.arg 0, .arg 1, .arg 2] (sCons (sVar 4) (sCons (sVar 1) (sCons (sLit (.int (0))) (sNil)))))) (tCons (PD.tNever) (tNil)) (tNil)) (tCons (tSetF G (sVar 0) ⟨#[95, 97, 114, 105, 116, 121]⟩ (sVar 1)) (tCons (tSetF G (sVar 0) ⟨#[95, 110, 101, 101, 100, 115]⟩ (sIte (sCmp G .isN (sVar 2) (sLit (.non))) (sTup (sCons (sOp .mul (sTup (sCons (sLit (.str ⟨#[]⟩)) (sNil))) (sVar 1)) (sNil))) (sVar 2))) (tCons (tSetF G (sVar 0) ⟨#[95, 122]⟩ (sVar 3)) (tCons (tSetF G (sVar 0) ⟨#[95, 115]⟩ (sVar 4)) (tNil))))))))
def k18 (cf : Nat → List D → Store → Res D) : SS := tCons (PD.tRet (sAnd (sBlt G (.isi [.str]) (sCons (sVar 0) (sNil))) (sCmp G .in_ (sVar 0) (sGlb G 5)))) (tNil)
def k19 (cf : Nat → List D → Store → Res D) : SS := tCons (PD.tRet (sScope (sBlt G .all (sCons (sComp (sZip (sVar 0) (sVar 1)) [2, 3] false [2, 3] (sIf0) (sOr (sCmp G .in_ (sVar 2) (sTup (sCons (sLit (.str ⟨#[]⟩)) (sCons (sVar 3) (sNil))))) (sCmp G .eq (sVar 3) (sLit (.str ⟨#[122, 115]⟩))))) (sNil))))) (tNil)
def k20 (cf : Nat → List D → Store → Res D) : SS := tCons (tIfs (sCmp G .eq (sBlt G .len (sCons (sVar 1) (sNil))) (sLit (.int (1)))) (tCons (PD.tAsg 3 (sCall cf 28 [.arg 0, .arg 1, .arg 2] (sCons (sVar 0) (sCons (sSub G (sVar 1) (sLit (.int (0)))) (sCons (sVar 2) (sNil)))))) (tNil)) (tCons (tIfs (sCmp G .in_ (sVar 0) (sTup (sCons (sLit (.str ⟨#[115, 100, 105, 118]⟩)) (sCons (sLit (.str ⟨#[115, 114, 101, 109]⟩)) (sCons (sLit (.str ⟨#[115, 108, 116]⟩)) (sNil)))))) (tCons (PD.tAsg 3 (sCall cf 29 [.arg 0, .arg 1, .arg 2] (sCons (sVar 0) (sCons (sCall cf 30 [.arg 0, .arg 1] (sCons (sSub G (sVar 1) (sLit (.int (0)))) (sCons (sVar 2) (sNil)))) (sCons (sCall cf 30 [.arg 0, .arg 1] (sCons (sSub G (sVar 1) (sLit (.int (1)))) (sCons (sVar 2) (sNil)))) (sNil)))))) (tNil)) (tCons (PD.tAsg 3 (sCall cf 31 [.arg 0, .arg 1, .arg 2] (sCons (sVar 0) (sCons (sSub G (sVar 1) (sLit (.int (0)))) (sCons (sSub G (sVar 1) (sLit (.int (1)))) (sNil)))))) (tNil))) (tNil))) (tCons (PD.tRet (sOp .band (sVar 3) (sCall cf 21 [.arg 0] (sCons (sVar 2) (sNil))))) (tNil))
def k21 (cf : Nat → List D → Store → Res D) : SS := tCons (PD.tRet (sOp .sub (sOp .shl (sLit (.int (1))) (sVar 0)) (sLit (.int (1))))) (tNil)
def k22 (cf : Nat → List D → Store → Res D) : SS := tCons (PD.tRet (sAnd (sBlt G (.isi [.int]) (sCons (sVar 0) (sNil))) (sNot (sBlt G (.isi [.bool]) (sCons (sVar 0) (sNil)))))) (tNil)
def k23 (cf : Nat → List D → Store → Res D) : SS := tCons (PD.tAsg 3 (sOp .shr (sVar 0) (sVar 1))) (tCons (PD.tAsg 4 (sOp .band (sOp .shr (sVar 0) (sOp .sub (sVar 1) (sLit (.int (1))))) (sLit (.int (1))))) (tCons (PD.tAsg 5 (sLit (.str ⟨#[]⟩))) (tCons (tIfs (sCmp G .eq (sVar 3) (sLit (.int (0)))) (tCons (PD.tAsg 5 (sLit (.str ⟨#[122]⟩))) (tNil)) (tNil)) (tCons (tIfs (sCmp G .eq (sVar 3) (sOp .mul (sVar 4) (sCall cf 21 [.arg 0] (sCons (sOp .sub (sVar 2) (sVar 1)) (sNil))))) (tCons (PD.tAsg 5 (sOp .add (sVar 5) (sLit (.str ⟨#[115]⟩)))) (tNil)) (tNil)) (tCons (PD.tRet (sVar 5)) (tNil))))))
def k24 (cf : Nat → List D → Store → Res D) : SS := tCons (PD.tRet (sAnd (sCall cf 22 [.arg 0] (sCons (sVar 0) (sNil))) (sCmp2 G .le .le (sVar 1) (sVar 0) (sVar 2)))) (tNil)
def k25 (cf : Nat → List D → Store → Res D) : SS := tCons (tIfs (sBlt G (.isi [.cls 8]) (sCons (sVar 0) (sNil))) (tCons (PD.tRet (sAttr G cf (sVar 0) ⟨#[109, 97, 114, 107, 115]⟩)) (tNil)) (tNil)) (tCons (PD.tRet (sCall cf 32 [.arg 0] (sCons (sVar 0) (sNil)))) (tNil))
def k26 (cf : Nat → List D → Store → Res D) : SS := tCons (PD.tRet (sBlt G (.isi [.list, .tuple]) (sCons (sVar 0) (sNil)))) (tNil)
def k27 (cf : Nat → List D → Store → Res D) : SS := tCons (tIfs (sOr (sNot (sBlt G (.isi [.tuple]) (sCons (sVar 0) (sNil)))) (sNot (sCmp2 G .le .le (sVar 2) (sBlt G .len (sCons (sVar 0) (sNil))) (sGlb G 1)))) (tCons (PD.tRet (sLit (.bl false))) (tNil)) (tNil)) (tCons (PD.tRet (sScope (sBlt G .all (sCons (sComp (sSeq (sVar 0)) [3] true [3] (sIf0) (sCall cf 34 [.arg 0, .arg 1] (sCons (sVar 3) (sCons (sVar 1) (sNil))))) (sNil))))) (tNil))
def k28 (cf : Nat → List D → Store → Res D) : SS := tCons (tIfs (sCmp G .eq (sVar 0) (sLit (.str ⟨#[110, 101, 103]⟩))) (tCons (PD.tRet (sUn .neg (sVar 1))) (tNil)) (tNil)) (tCons (tIfs (sCmp G .eq (sVar 0) (sLit (.str ⟨#[110, 111, 116]⟩))) (tCons (PD.tRet (sUn .inv (sVar 1))) (tNil)) (tNil)) (tCons (tIfs (sCmp G .eq (sVar 0) (sLit (.str ⟨#[115, 104, 108]⟩))) (tCons (PD.tRet (sOp .shl (sVar 1) (sLit (.int (1))))) (tNil)) (tNil)) (tCons (tIfs (sCmp G .eq (sVar 0) (sLit (.str ⟨#[115, 104, 114]⟩))) (tCons (PD.tRet (sOp .shr (sVar 1) (sLit (.int (1))))) (tNil)) (tNil)) (tCons (PD.tRet (sOp .shr (sCall cf 30 [.arg 0, .arg 1] (sCons (sVar 1) (sCons (sVar 2) (sNil)))) (sLit (.int (1))))) (tNil)))))
def k29 (cf : Nat → List D → Store → Res D) : SS := tCons (tIfs (sCmp G .eq (sVar 0) (sLit (.str ⟨#[115, 100, 105, 118]⟩))) (tCons (PD.tRet (sCall cf 35 [.arg 0, .arg 1] (sCons (sVar 1) (sCons (sVar 2) (sNil))))) (tNil)) (tNil)) (tCons (tIfs (sCmp G .eq (sVar 0) (sLit (.str ⟨#[115, 114, 101, 109]⟩))) (tCons (PD.tRet (sOp .sub (sVar 1) (sOp .mul (sVar 2) (sCall cf 35 [.arg 0, .arg 1] (sCons (sVar 1) (sCons (sVar 2) (sNil))))))) (tNil)) (tNil)) (tCons (PD.tRet (sBlt G .int1 (sCons (sCmp G .lt (sVar 1) (sVar 2)) (sNil)))) (tNil)))
def k30 (cf : Nat → List D → Store → Res D) : SS := tCons (tIfs (sOp .shr (sVar 0) (sOp .sub (sVar 1) (sLit (.int (1))))) (tCons (PD.tRet (sOp .sub (sVar 0) (sOp .shl (sLit (.int (1))) (sVar 1)))) (tNil)) (tNil)) (tCons (PD.tRet (sVar 0)) (tNil))
def k31 (cf : Nat → List D → Store → Res D) : SS := tCons (tMat (sVar 0) (tMs ⟨#[97, 100, 100]⟩ (tCons (PD.tRet (sOp .add (sVar 1) (sVar 2))) (tNil)) (tMs ⟨#[115, 117, 98]⟩ (tCons (PD.tRet (sOp .sub (sVar 1) (sVar 2))) (tNil)) (tMs ⟨#[109, 117, 108]⟩ (tCons (PD.tRet (sOp .mul (sVar 1) (sVar 2))) (tNil)) (tMs ⟨#[97, 110, 100]⟩ (tCons (PD.tRet (sOp .band (sVar 1) (sVar 2))) (tNil)) (tMs ⟨#[111, 114]⟩ (tCons (PD.tRet (sOp .bor (sVar 1) (sVar 2))) (tNil)) (tMs ⟨#[120, 111, 114]⟩ (tCons (PD.tRet (sOp .bxor (sVar 1) (sVar 2))) (tNil)) (tMs ⟨#[117, 100, 105, 118]⟩ (tCons (PD.tRet (sCall cf 35 [.arg 0, .arg 1] (sCons (sVar 1) (sCons (sVar 2) (sNil))))) (tNil)) (tMs ⟨#[117, 114, 101, 109]⟩ (tCons (PD.tRet (sOp .sub (sVar 1) (sOp .mul (sVar 2) (sCall cf 35 [.arg 0, .arg 1] (sCons (sVar 1) (sCons (sVar 2) (sNil))))))) (tNil)) (tMs ⟨#[117, 108, 116]⟩ (tCons (PD.tRet (sBlt G .int1 (sCons (sCmp G .lt (sVar 1) (sVar 2)) (sNil)))) (tNil)) (tMs0))))))))))) (tCons (PD.tRet (sBlt G .int1 (sCons (sCmp G .eq (sVar 1) (sVar 2)) (sNil)))) (tNil))
def k32 (cf : Nat → List D → Store → Res D) : SS := tCons (tIfs (sNot (sBlt G (.isi [.str]) (sCons (sVar 0) (sNil)))) (tCons (PD.tRet (sLit (.non))) (tNil)) (tNil)) (tCons (PD.tRet (sDget G (sGlb G 4) (sVar 0))) (tNil))
def k33 (cf : Nat → List D → Store → Res D) : SS := tCons (PD.tRet (sAttr G cf (sVar 0) ⟨#[95, 109, 97, 114, 107, 115]⟩)) (tNil)
def k34 (cf : Nat → List D → Store → Res D) : SS := tCons (tIfs (sOr (sNot (sBlt G (.isi [.tuple]) (sCons (sVar 0) (sNil)))) (sCmp G .ne (sBlt G .len (sCons (sVar 0) (sNil))) (sVar 1))) (tCons (PD.tRet (sLit (.bl false))) (tNil)) (tNil)) (tCons (PD.tRet (sScope (sBlt G .all (sCons (sComp (sSeq (sVar 0)) [2] true [2] (sIf0) (sAnd (sBlt G (.isi [.str]) (sCons (sVar 2) (sNil))) (sCmp G .in_ (sVar 2) (sGlb G 0)))) (sNil))))) (tNil))
def k35 (cf : Nat → List D → Store → Res D) : SS := tCons (tIfs (sCmp G .eq (sVar 1) (sLit (.int (0)))) (tCons (PD.tRet (sLit (.int (0)))) (tNil)) (tNil)) (tCons (PD.tAsg 2 (sOp .fdiv (sBlt G .abs (sCons (sVar 0) (sNil))) (sBlt G .abs (sCons (sVar 1) (sNil))))) (tCons (tIfs (sCmp G .ne (sCmp G .lt (sVar 0) (sLit (.int (0)))) (sCmp G .lt (sVar 1) (sLit (.int (0))))) (tCons (PD.tRet (sUn .neg (sVar 2))) (tNil)) (tNil)) (tCons (PD.tRet (sVar 2)) (tNil))))
theorem k_is (cf : Nat → List D → Store → Res D) : exSs G cf c0 = k0 cf ∧ exSs G cf c1 = k1 cf ∧ exSs G cf c2 = k2 cf ∧ exSs G cf c3 = k3 cf ∧ exSs G cf c4 = k4 cf ∧ exSs G cf c5 = k5 cf ∧ exSs G cf c6 = k6 cf ∧ exSs G cf c7 = k7 cf ∧ exSs G cf c8 = k8 cf ∧ exSs G cf c9 = k9 cf ∧ exSs G cf c10 = k10 cf ∧ exSs G cf c11 = k11 cf ∧ exSs G cf c12 = k12 cf ∧ exSs G cf c13 = k13 cf ∧ exSs G cf c14 = k14 cf ∧ exSs G cf c15 = k15 cf ∧ exSs G cf c16 = k16 cf ∧ exSs G cf c17 = k17 cf ∧ exSs G cf c18 = k18 cf ∧ exSs G cf c19 = k19 cf ∧ exSs G cf c20 = k20 cf ∧ exSs G cf c21 = k21 cf ∧ exSs G cf c22 = k22 cf ∧ exSs G cf c23 = k23 cf ∧ exSs G cf c24 = k24 cf ∧ exSs G cf c25 = k25 cf ∧ exSs G cf c26 = k26 cf ∧ exSs G cf c27 = k27 cf ∧ exSs G cf c28 = k28 cf ∧ exSs G cf c29 = k29 cf ∧ exSs G cf c30 = k30 cf ∧ exSs G cf c31 = k31 cf ∧ exSs G cf c32 = k32 cf ∧ exSs G cf c33 = k33 cf ∧ exSs G cf c34 = k34 cf ∧ exSs G cf c35 = k35 cf := ⟨by kernel_rfl, by kernel_rfl, by kernel_rfl, by kernel_rfl, by kernel_rfl, by kernel_rfl, by kernel_rfl, by kernel_rfl, by kernel_rfl, by kernel_rfl, by kernel_rfl, by kernel_rfl, by kernel_rfl, by kernel_rfl, by kernel_rfl, by kernel_rfl, by kernel_rfl, by kernel_rfl, by kernel_rfl, by kernel_rfl, by kernel_rfl, by kernel_rfl, by kernel_rfl, by kernel_rfl, by kernel_rfl, by kernel_rfl, by kernel_rfl, by kernel_rfl, by kernel_rfl, by kernel_rfl, by kernel_rfl, by kernel_rfl, by kernel_rfl, by kernel_rfl, by kernel_rfl, by kernel_rfl⟩
end Cd

namespace Cd
open PySem PySem.Spec PyProof.Rows L2 PD
theorem ev_call {l f : Nat} {fn : Fn} {as : List D} {S : Store} (h : tabJ T f = some fn) (ha : as.length = fn.ar) : callD G (tabJ T) (l + 1) f as S = (exSs G (callD G (tabJ T) l) fn.body (PD.start fn.k as) ⟨S.n, S.l, S.n⟩).bind (fun r S1 => match r with
      | .rt d => leave S d S1
      | .nx _ => leave S .non S1
      | _ => .stuck) := by
  show (match tabJ T f with
    | none => Res.stuck
    | some fn => if as.length = fn.ar then (exSs G (callD G (tabJ T) l) fn.body (PD.start fn.k as) ⟨S.n, S.l, S.n⟩).bind (fun r S1 => match r with
      | .rt d => leave S d S1
      | .nx _ => leave S .non S1
      | _ => .stuck) else .stuck) = _
  rw [h]
  dsimp only
  rw [if_pos ha]
theorem ones_ev {l : Nat} {k : Int} {S : Store} (h0 : 0 ≤ k) (h1 : k ≤ 1000000) : callD G (tabJ T) (l + 1) 21 [.int k] S = .ok (.int (2 ^ k.toNat - 1)) S := by
  rw [ev_call (fn := ⟨1, 1, c21⟩) rfl rfl]
  simp [c21, exSs, exS, evC, evCs, Res.bind, PD.start, evOp, h0, h1, leave, refless]
def tm (b n w : Int) : Str :=
  if b / 2 ^ n.toNat = Builtin.bitAnd (b / 2 ^ (n.toNat - 1)) 1 * (2 ^ (w - n).toNat - 1) then (if b / 2 ^ n.toNat = 0 then ⟨#[122, 115]⟩ else ⟨#[115]⟩) else (if b / 2 ^ n.toNat = 0 then ⟨#[122]⟩ else ⟨#[]⟩)
theorem tm_ev {l : Nat} {b n w : Int} {S : Store} (hn : n = 2 ∨ n = 3) (hw : w = 4 ∨ w = 5 ∨ w = 6) : callD G (tabJ T) (l + 2) 23 [.int b, .int n, .int w] S = .ok (.str (tm b n w)) S := by
  rw [ev_call (fn := ⟨3, 6, c23⟩) rfl rfl]
  have hl : (1 : Nat) ≤ sizeLine := by decide
  have hl2 : (2 : Nat) ≤ sizeLine := by decide
  have h1 : 0 ≤ n := by omega
  have h2 : 0 ≤ n - 1 := by omega
  have h2' : 1 ≤ n := by omega
  have hb : -18446744073709551616 < (2 : Int) ^ (w - n).toNat - 1 ∧ (2 : Int) ^ (w - n).toNat - 1 < 18446744073709551616 := by
    rcases hn with rfl | rfl <;> rcases hw with rfl | rfl | rfl <;> decide
  have e1 : (⟨#[122]⟩ : Str) ++ (⟨#[115]⟩ : Str) = ⟨#[122, 115]⟩ := by rfl
  have e2 : (⟨#[]⟩ : Str) ++ (⟨#[115]⟩ : Str) = ⟨#[115]⟩ := by rfl
  unfold tm
  obtain ⟨A, hA⟩ : ∃ A, A = b / 2 ^ n.toNat := ⟨_, rfl⟩
  obtain ⟨B, hB⟩ : ∃ B, B = Builtin.bitAnd (b / 2 ^ (n.toNat - 1)) 1 := ⟨_, rfl⟩
  obtain ⟨C, hC⟩ : ∃ C, C = (2 : Int) ^ (w - n).toNat - 1 := ⟨_, rfl⟩
  rw [← hA, ← hB, ← hC]
  obtain ⟨M, hM⟩ : ∃ M, M = B * C := ⟨_, rfl⟩
  rw [← hM]
  rw [← hC] at hb
  have o1 : ∀ (S : Store), callD G (tabJ T) (l + 1) 21 [.int (w - n)] S = .ok (.int C) S := fun S => by rw [hC]; exact ones_ev (by omega) (by omega)
  by_cases z : A = 0
  · subst z
    by_cases s : 0 = M
    · subst s
      simp [c23, exSs, exS, evC, evCs, Res.bind, PD.start, evOp, evCm, srcs, Res.of, eqD, flat, eqF, truth, h1, h2, h2', o1, hb, ← hA, ← hB, ← hM, hl, hl2, leave, refless, Str.length, e1, e2]
    · simp [c23, exSs, exS, evC, evCs, Res.bind, PD.start, evOp, evCm, srcs, Res.of, eqD, flat, eqF, truth, h1, h2, h2', o1, hb, ← hA, ← hB, ← hM, hl, hl2, leave, refless, Str.length, e1, e2, s]
  · by_cases s : A = M
    · subst s
      simp [c23, exSs, exS, evC, evCs, Res.bind, PD.start, evOp, evCm, srcs, Res.of, eqD, flat, eqF, truth, h1, h2, h2', o1, hb, ← hA, ← hB, ← hM, hl, hl2, leave, refless, Str.length, e1, e2, z]
    · simp [c23, exSs, exS, evC, evCs, Res.bind, PD.start, evOp, evCm, srcs, Res.of, eqD, flat, eqF, truth, h1, h2, h2', o1, hb, ← hA, ← hB, ← hM, hl, hl2, leave, refless, Str.length, e1, e2, z, s]
end Cd

namespace Cd
open PySem PySem.Spec PyProof.Rows L2 PD
def lb13 : Ss := .cons (.asg 5 (.call 23 [.arg 0, .arg 1, .arg 2] (.cons (.var 4) (.cons (.var 1) (.cons (.var 2) (.nil)))))) (.cons (.ifs (.scope (.blt .all (.cons (.comp (.seq (.var 0)) [6] true [6] (.nil) (.cmp .in_ (.var 6) (.var 5))) (.nil)))) (.cons (.expr (.app (.var 3) (.var 4))) (.nil)) (.nil)) (.nil))
def okP (t m : Str) : Bool := (t.cps.toList.map fun c => inS ⟨#[c]⟩ m).all id
def texts : List Str := [⟨#[]⟩, ⟨#[122]⟩, ⟨#[115]⟩, ⟨#[122, 115]⟩]
theorem step13 {l k : Nat} {t : Str} {b n w : Int} {L : List Cell} {acc : List D} {x5 x6 : Option D} (ht : t = ⟨#[]⟩ ∨ t = ⟨#[122]⟩ ∨ t = ⟨#[115]⟩ ∨ t = ⟨#[122, 115]⟩) (hn : n = 2 ∨ n = 3) (hw : w = 4 ∨ w = 5 ∨ w = 6) (ha : acc.length < sizeLine) :
    exSs G (callD G (tabJ T) (l + 2)) lb13 [some (.str t), some (.int n), some (.int w), some (.ref k), some (.int b), x5, x6] ⟨k + 1, .lst true acc :: L, k⟩ =
      .ok (.nx [some (.str t), some (.int n), some (.int w), some (.ref k), some (.int b), some (.str (tm b n w)), x6]) ⟨k + 1, .lst true (if okP t (tm b n w) = true then acc ++ [.int b] else acc) :: L, k⟩ := by
  have h1 : Nat.blt 0 sizeLine = true := by decide
  have h2 : Nat.blt 1 sizeLine = true := by decide
  have z : ∀ S b, callD G (tabJ T) (l + 2) 23 [.int b, .int n, .int w] S = .ok (.str (tm b n w)) S := fun S b => tm_ev hn hw
  obtain ⟨m, hm⟩ : ∃ m, m = tm b n w := ⟨_, rfl⟩
  rw [← hm]
  have z2 : ∀ S, callD G (tabJ T) (l + 2) 23 [.int b, .int n, .int w] S = .ok (.str m) S := fun S => by rw [hm]; exact z S b
  rcases ht with rfl | rfl | rfl | rfl
  · simp [lb13, exSs, exS, evC, evCs, evIt, evIfs, Res.bind, evCm, inD, srcs, Res.of, truth, sqOf, walkSq, walkFix, compPut, compEnd, Store.get, Store.set, Store.push, wipeD, bindT, evBl, bls, leave, refless, okP, z2, h1, h2, ha]
  · obtain ⟨c1, hc1⟩ : ∃ c, c = inS ⟨#[122]⟩ m := ⟨_, rfl⟩
    cases c1 <;> simp [lb13, exSs, exS, evC, evCs, evIt, evIfs, Res.bind, evCm, inD, srcs, Res.of, truth, sqOf, walkSq, walkFix, compPut, compEnd, Store.get, Store.set, Store.push, wipeD, bindT, evBl, bls, leave, refless, okP, z2, h1, h2, ha, ← hc1]
  · obtain ⟨c1, hc1⟩ : ∃ c, c = inS ⟨#[115]⟩ m := ⟨_, rfl⟩
    cases c1 <;> simp [lb13, exSs, exS, evC, evCs, evIt, evIfs, Res.bind, evCm, inD, srcs, Res.of, truth, sqOf, walkSq, walkFix, compPut, compEnd, Store.get, Store.set, Store.push, wipeD, bindT, evBl, bls, leave, refless, okP, z2, h1, h2, ha, ← hc1]
  · obtain ⟨c1, hc1⟩ : ∃ c, c = inS ⟨#[122]⟩ m := ⟨_, rfl⟩
    obtain ⟨c2, hc2⟩ : ∃ c, c = inS ⟨#[115]⟩ m := ⟨_, rfl⟩
    cases c1 <;> cases c2 <;> simp [lb13, exSs, exS, evC, evCs, evIt, evIfs, Res.bind, evCm, inD, srcs, Res.of, truth, sqOf, walkSq, walkFix, compPut, compEnd, Store.get, Store.set, Store.push, wipeD, bindT, evBl, bls, leave, refless, okP, z2, h1, h2, ha, ← hc1, ← hc2]
def izs (lo : Int) : Nat → List Int
  | 0 => []
  | n + 1 => lo :: izs (lo + 1) n
theorem rangeL_izs : ∀ (n : Nat) (lo : Int), rangeL lo n = (izs lo n).map .int
  | 0, _ => rfl
  | n + 1, lo => congrArg (List.cons (D.int lo)) (rangeL_izs n (lo + 1))
theorem izs_len : ∀ (n : Nat) (lo : Int), (izs lo n).length = n
  | 0, _ => rfl
  | n + 1, lo => congrArg Nat.succ (izs_len n (lo + 1))
theorem loop13 {l k : Nat} {t : Str} {n w : Int} {L : List Cell} (ht : t = ⟨#[]⟩ ∨ t = ⟨#[122]⟩ ∨ t = ⟨#[115]⟩ ∨ t = ⟨#[122, 115]⟩) (hn : n = 2 ∨ n = 3) (hw : w = 4 ∨ w = 5 ∨ w = 6) : ∀ (bs : List Int) (acc : List D) (x4 x5 x6 : Option D), acc.length + bs.length ≤ sizeLine →
    ∃ y4 y5 y6, loopFix (fun x σ1 S2 => (Res.of (bindT true [4] σ1 x) S2).bind fun σ2 S3 => exSs G (callD G (tabJ T) (l + 2)) lb13 σ2 S3) (bs.map .int) [some (.str t), some (.int n), some (.int w), some (.ref k), x4, x5, x6] ⟨k + 1, .lst true acc :: L, k⟩ =
      .ok (.nx [some (.str t), some (.int n), some (.int w), some (.ref k), y4, y5, y6]) ⟨k + 1, .lst true (acc ++ (bs.filter fun b => okP t (tm b n w)).map .int) :: L, k⟩
  | [], acc, x4, x5, x6, h => ⟨x4, x5, x6, by
    show Res.ok _ _ = _
    rw [List.filter_nil, List.map_nil, List.append_nil]⟩
  | b :: bs, acc, x4, x5, x6, h => by
    rw [List.length_cons] at h
    have e := step13 (l := l) (k := k) (b := b) (L := L) (x5 := x5) (x6 := x6) ht hn hw (acc := acc) (by omega)
    obtain ⟨y4, y5, y6, e2⟩ := loop13 (l := l) (k := k) (L := L) ht hn hw bs (if okP t (tm b n w) = true then acc ++ [.int b] else acc) (some (.int b)) (some (.str (tm b n w))) x6 (by
      split
      · rw [List.length_append, List.length_singleton]; omega
      · omega)
    refine ⟨y4, y5, y6, ?_⟩
    show (exSs G (callD G (tabJ T) (l + 2)) lb13 [some (.str t), some (.int n), some (.int w), some (.ref k), some (.int b), x5, x6] ⟨k + 1, .lst true acc :: L, k⟩).bind _ = _
    rw [e]
    refine e2.trans ?_
    by_cases z : okP t (tm b n w) = true
    · have f1 : (b :: bs).filter (fun b => okP t (tm b n w)) = b :: bs.filter (fun b => okP t (tm b n w)) := List.filter_cons_of_pos (p := fun b => okP t (tm b n w)) z
      rw [if_pos z, f1, List.map_cons, List.append_assoc]
      rfl
    · have f1 : (b :: bs).filter (fun b => okP t (tm b n w)) = bs.filter (fun b => okP t (tm b n w)) := List.filter_cons_of_neg (p := fun b => okP t (tm b n w)) z
      rw [if_neg z, f1]
def dr (t : Str) (n w : Int) : List D := ((izs 0 (2 ^ w.toNat)).filter fun b => okP t (tm b n w)).map .int
theorem dressed_ev {l : Nat} {t : Str} {n w : Int} {S : Store} (ht : t = ⟨#[]⟩ ∨ t = ⟨#[122]⟩ ∨ t = ⟨#[115]⟩ ∨ t = ⟨#[122, 115]⟩) (hn : n = 2 ∨ n = 3) (hw : w = 4 ∨ w = 5 ∨ w = 6) :
    exSs G (callD G (tabJ T) (l + 2)) c13 (PD.start 7 [.str t, .int n, .int w]) ⟨S.n, S.l, S.n⟩ = .ok (.rt (.ref S.n)) ⟨S.n + 1, .lst true (dr t n w) :: S.l, S.n⟩ := by
  have h0 : (0 : Nat) ≤ sizeLine := by decide
  have hs : (2 : Nat) ^ w.toNat ≤ sizeLine := by rcases hw with rfl | rfl | rfl <;> decide
  obtain ⟨y4, y5, y6, e⟩ := loop13 (l := l) (k := S.n) (L := S.l) ht hn hw (izs 0 (2 ^ w.toNat)) [] none none none (by rw [izs_len, List.length_nil]; omega)
  have e0 : c13 = .cons (.asg 3 (.lst (.nil))) (.cons (.for1 (.range1 (.op .shl (.lit (.int (1))) (.var 2))) [4] true lb13) (.cons (.ret (.var 3)) (.nil))) := rfl
  have hr : evIt G (callD G (tabJ T) (l + 2)) (.range1 (.op .shl (.lit (.int (1))) (.var 2))) [some (.str t), some (.int n), some (.int w), some (.ref S.n), none, none, none] ⟨S.n + 1, .lst true [] :: S.l, S.n⟩ = .ok (.fix (rangeL 0 (2 ^ w.toNat))) ⟨S.n + 1, .lst true [] :: S.l, S.n⟩ := by
    rcases hw with rfl | rfl | rfl <;> simp [evIt, evC, Res.bind, evOp]
  rw [e0]
  show (exS G _ (.asg 3 (.lst (.nil))) (PD.start 7 [.str t, .int n, .int w]) ⟨S.n, S.l, S.n⟩).bind _ = _
  have e1 : exS G (callD G (tabJ T) (l + 2)) (.asg 3 (.lst (.nil))) (PD.start 7 [.str t, .int n, .int w]) ⟨S.n, S.l, S.n⟩ = .ok (.nx [some (.str t), some (.int n), some (.int w), some (.ref S.n), none, none, none]) ⟨S.n + 1, .lst true [] :: S.l, S.n⟩ := by
    simp [exS, evC, evCs, Res.bind, PD.start, Store.push, h0]
  rw [e1]
  show (exS G _ (.for1 (.range1 (.op .shl (.lit (.int (1))) (.var 2))) [4] true lb13) _ _).bind _ = _
  have e2 : exS G (callD G (tabJ T) (l + 2)) (.for1 (.range1 (.op .shl (.lit (.int (1))) (.var 2))) [4] true lb13) [some (.str t), some (.int n), some (.int w), some (.ref S.n), none, none, none] ⟨S.n + 1, .lst true [] :: S.l, S.n⟩ =
      .ok (.nx [some (.str t), some (.int n), some (.int w), some (.ref S.n), y4, y5, y6]) ⟨S.n + 1, .lst true (dr t n w) :: S.l, S.n⟩ := by
    show (evIt G _ (.range1 (.op .shl (.lit (.int (1))) (.var 2))) _ _).bind _ = _
    rw [hr]
    show loopFix _ (rangeL 0 (2 ^ w.toNat)) _ _ = _
    rw [rangeL_izs]
    exact e
  rw [e2]
  rfl
end Cd

namespace Cd
open PySem PySem.Spec PyProof.Rows L2 PD
def okT (t : Str) : Bool := decide (t = ⟨#[]⟩) || (decide (t = ⟨#[122]⟩) || (decide (t = ⟨#[115]⟩) || decide (t = ⟨#[122, 115]⟩)))
def okN (n : Int) : Bool := decide (n = 2) || decide (n = 3)
def okW (n : Int) : Bool := decide (n = 4) || (decide (n = 5) || decide (n = 6))
def fast13 (lv : Nat) (cf : Nat → List D → Store → Res D) : SS := fun σ S => match σ with
  | [some (.str t), some (.int n), some (.int w), none, none, none, none] => if (okT t && (okN n && (okW w && (Nat.ble 2 lv && Nat.beq S.w S.n)))) = true then .ok (.rt (.ref S.n)) ⟨S.n + 1, .lst true (dr t n w) :: S.l, S.n⟩ else k13 cf σ S
  | _ => k13 cf σ S
theorem fast_is (l : Nat) : exSs G (callD G (tabJ T) l) c13 = fast13 l (callD G (tabJ T) l) := by
  have hk : exSs G (callD G (tabJ T) l) c13 = k13 (callD G (tabJ T) l) := by kernel_rfl
  funext σ S
  unfold fast13
  split
  · rename_i t n w
    split
    · rename_i c
      obtain ⟨c1, c2⟩ := Bool.and_eq_true_iff.mp c
      obtain ⟨c3, c4⟩ := Bool.and_eq_true_iff.mp c2
      obtain ⟨c5, c6⟩ := Bool.and_eq_true_iff.mp c4
      obtain ⟨c7, c8⟩ := Bool.and_eq_true_iff.mp c6
      have hl : 2 ≤ l := Nat.le_of_ble_eq_true c7
      have hw : S.w = S.n := Nat.eq_of_beq_eq_true c8
      obtain ⟨m, rfl⟩ : ∃ m, l = m + 2 := ⟨l - 2, by omega⟩
      have ht : t = ⟨#[]⟩ ∨ t = ⟨#[122]⟩ ∨ t = ⟨#[115]⟩ ∨ t = ⟨#[122, 115]⟩ := by
        rcases Bool.or_eq_true_iff.mp c1 with h | h
        · exact .inl (of_decide_eq_true h)
        · rcases Bool.or_eq_true_iff.mp h with h | h
          · exact .inr (.inl (of_decide_eq_true h))
          · rcases Bool.or_eq_true_iff.mp h with h | h
            · exact .inr (.inr (.inl (of_decide_eq_true h)))
            · exact .inr (.inr (.inr (of_decide_eq_true h)))
      have hn : n = 2 ∨ n = 3 := by
        rcases Bool.or_eq_true_iff.mp c3 with h | h
        · exact .inl (of_decide_eq_true h)
        · exact .inr (of_decide_eq_true h)
      have hw2 : w = 4 ∨ w = 5 ∨ w = 6 := by
        rcases Bool.or_eq_true_iff.mp c5 with h | h
        · exact .inl (of_decide_eq_true h)
        · rcases Bool.or_eq_true_iff.mp h with h | h
          · exact .inr (.inl (of_decide_eq_true h))
          · exact .inr (.inr (of_decide_eq_true h))
      obtain ⟨n0, l0, w0⟩ := S
      have hw3 : w0 = n0 := hw
      subst hw3
      exact dressed_ev (S := ⟨w0, l0, w0⟩) ht hn hw2
    · rw [hk]
  · rw [hk]
theorem prod_eq {cf : Nat → List D → Store → Res D} {s0 s1 s2 s3 s4 s6 s7 s9 : Option D} {a b n : Nat} {L : List Cell} {w : Nat} {wx wy : Bool} {xs ys : List D} (hw : w ≤ n) (hx : (⟨n, L, w⟩ : Store).get a = some (.lst wx xs)) (hy : (⟨n, L, w⟩ : Store).get b = some (.lst wy ys)) (ht : xs.all isT = true) (hl : xs.length * ys.length ≤ sizeLine) :
    evC G cf (.comp2 (.seq (.var 5)) [7] true (.seq (.var 8)) [9] true [7, 9] [9] (.op .add (.var 7) (.tup (.cons (.var 9) (.nil))))) [s0, s1, s2, s3, s4, some (.ref a), s6, s7, some (.ref b), s9] ⟨n, L, w⟩ = .ok (.ref n) ⟨n + 1, .lst true (prodD xs ys) :: L, w⟩ := by
  refine prod_run hw hx hy ht (by rw [prodD_len]; exact hl) rfl (fun x => [s0, s1, s2, s3, s4, some (.ref a), s6, some x, some (.ref b), none]) (fun x => rfl) (fun x S => rfl) (fun x y => [s0, s1, s2, s3, s4, some (.ref a), s6, some x, some (.ref b), some y]) (fun x y => rfl) fun l y S h => ?_
  have h1 : l.length + 1 ≤ sizeLine := h
  have h2 : (1 : Nat) ≤ sizeLine := by decide
  simp [evC, evCs, Res.bind, evOp, h1, h2]
def sProd (cf : Nat → List D → Store → Res D) : SC := fun σ S => match σ with
  | [s0, s1, s2, s3, s4, some (.ref a), s6, s7, some (.ref b), s9] => (match S.get a, S.get b with
    | some (.lst wx xs), some (.lst wy ys) => if (xs.all isT && (Nat.ble (xs.length * ys.length) sizeLine && Nat.ble S.w S.n)) = true then .ok (.ref S.n) ⟨S.n + 1, .lst true (prodD xs ys) :: S.l, S.w⟩ else (sComp2 (sSeq (sVar 5)) [7] true (sSeq (sVar 8)) [9] true [7, 9] [9] (sOp .add (sVar 7) (sTup (sCons (sVar 9) (sNil))))) [s0, s1, s2, s3, s4, some (.ref a), s6, s7, some (.ref b), s9] S
    | _, _ => (sComp2 (sSeq (sVar 5)) [7] true (sSeq (sVar 8)) [9] true [7, 9] [9] (sOp .add (sVar 7) (sTup (sCons (sVar 9) (sNil))))) [s0, s1, s2, s3, s4, some (.ref a), s6, s7, some (.ref b), s9] S)
  | _ => (sComp2 (sSeq (sVar 5)) [7] true (sSeq (sVar 8)) [9] true [7, 9] [9] (sOp .add (sVar 7) (sTup (sCons (sVar 9) (sNil))))) σ S
theorem sProd_is (cf : Nat → List D → Store → Res D) : (sComp2 (sSeq (sVar 5)) [7] true (sSeq (sVar 8)) [9] true [7, 9] [9] (sOp .add (sVar 7) (sTup (sCons (sVar 9) (sNil))))) = sProd cf := by
  funext σ S
  unfold sProd
  split
  · rename_i s0 s1 s2 s3 s4 a s6 s7 b s9
    split
    · rename_i wx xs wy ys hx hy
      split
      · rename_i c
        obtain ⟨c1, c2⟩ := Bool.and_eq_true_iff.mp c
        obtain ⟨c3, c4⟩ := Bool.and_eq_true_iff.mp c2
        obtain ⟨n, L, w⟩ := S
        exact prod_eq (cf := cf) (Nat.le_of_ble_eq_true c4) hx hy c1 (Nat.le_of_ble_eq_true c3)
      · rfl
    · rfl
  · rfl
def k7q (cf : Nat → List D → Store → Res D) : SS := tCons (PD.tAsg 4 (sCall cf 15 [.arg 0, .arg 1] (sCons (sVar 1) (sCons (sAttr G cf (sCall cf 16 [.arg 0] (sCons (sVar 0) (sNil))) ⟨#[97, 114, 105, 116, 121]⟩) (sNil))))) (tCons (tIfs (sCmp G .isN (sVar 4) (sLit (.non))) (tCons (PD.tNever) (tNil)) (tNil)) (tCons (tExpr (sCall cf 14 [.arg 0, .arg 1, .arg 2] (sCons (sVar 2) (sCons (sVar 3) (sCons (sGlb G 3) (sNil)))))) (tCons (PD.tAsg 5 (sLst (sCons (sTup (sNil)) (sNil)))) (tCons (tFor1 (sSeq (sVar 4)) [6] true (tCons (PD.tAsg 8 (sCall cf 13 [.arg 0, .arg 1, .arg 2] (sCons (sVar 6) (sCons (sVar 2) (sCons (sVar 3) (sNil)))))) (tCons (PD.tAsg 5 (sProd cf)) (tNil)))) (tCons (tFor1 (sSeq (sVar 5)) [7] true (tCons (tIfs (sCall cf 11 [.arg 0, .arg 1, .arg 2, .arg 3] (sCons (sVar 0) (sCons (sVar 7) (sCons (sVar 2) (sCons (sVar 3) (sNil)))))) (tCons (PD.tRet (sScope (sBlt G .tuple1 (sCons (sComp (sSeq (sVar 7)) [9] true [9] (sIf0) (sMk cf 10 12 [.arg 0, .arg 1, .arg 2, .arg 3] (sCons (sVar 9) (sCons (sVar 2) (sCons (sVar 3) (sNil)))))) (sNil))))) (tNil)) (tNil)) (tNil))) (tCons (PD.tRet (sLit (.non))) (tNil)))))))
theorem k7_is (cf : Nat → List D → Store → Res D) : k7 cf = k7q cf := by
  unfold k7 k7q
  rw [← sProd_is]
def snl : List Sn := [⟨1, 3, fun _ cf => k0 cf⟩, ⟨2, 6, fun _ cf => k1 cf⟩, ⟨2, 3, fun _ cf => k2 cf⟩, ⟨2, 4, fun _ cf => k3 cf⟩, ⟨1, 6, fun _ cf => k4 cf⟩, ⟨1, 1, fun _ cf => k5 cf⟩, ⟨2, 2, fun _ cf => k6 cf⟩, ⟨4, 10, fun _ cf => k7q cf⟩, ⟨1, 5, fun _ cf => k8 cf⟩, ⟨2, 3, fun _ cf => k9 cf⟩, ⟨2, 3, fun _ cf => k10 cf⟩, ⟨4, 7, fun _ cf => k11 cf⟩, ⟨4, 4, fun _ cf => k12 cf⟩, ⟨3, 7, fast13⟩, ⟨3, 3, fun _ cf => k14 cf⟩, ⟨2, 4, fun _ cf => k15 cf⟩, ⟨1, 2, fun _ cf => k16 cf⟩, ⟨5, 5, fun _ cf => k17 cf⟩, ⟨1, 1, fun _ cf => k18 cf⟩, ⟨2, 4, fun _ cf => k19 cf⟩, ⟨3, 4, fun _ cf => k20 cf⟩, ⟨1, 1, fun _ cf => k21 cf⟩, ⟨1, 1, fun _ cf => k22 cf⟩, ⟨3, 6, fun _ cf => k23 cf⟩, ⟨3, 3, fun _ cf => k24 cf⟩, ⟨1, 1, fun _ cf => k25 cf⟩, ⟨1, 1, fun _ cf => k26 cf⟩, ⟨3, 4, fun _ cf => k27 cf⟩, ⟨3, 3, fun _ cf => k28 cf⟩, ⟨3, 3, fun _ cf => k29 cf⟩, ⟨2, 2, fun _ cf => k30 cf⟩, ⟨3, 3, fun _ cf => k31 cf⟩, ⟨1, 1, fun _ cf => k32 cf⟩, ⟨1, 1, fun _ cf => k33 cf⟩, ⟨2, 3, fun _ cf => k34 cf⟩, ⟨2, 3, fun _ cf => k35 cf⟩]
def F (f : Nat) : Option Sn := snl[f]?
theorem F_eq : ∀ l f, (tabJ T f = none ∧ F f = none) ∨ ∃ a b, tabJ T f = some a ∧ F f = some b ∧ a.ar = b.ar ∧ a.k = b.k ∧ exSs G (callD G (tabJ T) l) a.body = b.body l (callD G (tabJ T) l) := fun l f => match f with
  | 0 => .inr ⟨⟨_, _, c0⟩, ⟨_, _, fun _ cf => k0 cf⟩, rfl, rfl, rfl, rfl, by kernel_rfl⟩
  | 1 => .inr ⟨⟨_, _, c1⟩, ⟨_, _, fun _ cf => k1 cf⟩, rfl, rfl, rfl, rfl, by kernel_rfl⟩
  | 2 => .inr ⟨⟨_, _, c2⟩, ⟨_, _, fun _ cf => k2 cf⟩, rfl, rfl, rfl, rfl, by kernel_rfl⟩
  | 3 => .inr ⟨⟨_, _, c3⟩, ⟨_, _, fun _ cf => k3 cf⟩, rfl, rfl, rfl, rfl, by kernel_rfl⟩
  | 4 => .inr ⟨⟨_, _, c4⟩, ⟨_, _, fun _ cf => k4 cf⟩, rfl, rfl, rfl, rfl, by kernel_rfl⟩
  | 5 => .inr ⟨⟨_, _, c5⟩, ⟨_, _, fun _ cf => k5 cf⟩, rfl, rfl, rfl, rfl, by kernel_rfl⟩
  | 6 => .inr ⟨⟨_, _, c6⟩, ⟨_, _, fun _ cf => k6 cf⟩, rfl, rfl, rfl, rfl, by kernel_rfl⟩
  | 7 => .inr ⟨⟨_, _, c7⟩, ⟨_, _, fun _ cf => k7q cf⟩, rfl, rfl, rfl, rfl, (show exSs G (callD G (tabJ T) l) c7 = k7 (callD G (tabJ T) l) by kernel_rfl).trans (k7_is _)⟩
  | 8 => .inr ⟨⟨_, _, c8⟩, ⟨_, _, fun _ cf => k8 cf⟩, rfl, rfl, rfl, rfl, by kernel_rfl⟩
  | 9 => .inr ⟨⟨_, _, c9⟩, ⟨_, _, fun _ cf => k9 cf⟩, rfl, rfl, rfl, rfl, by kernel_rfl⟩
  | 10 => .inr ⟨⟨_, _, c10⟩, ⟨_, _, fun _ cf => k10 cf⟩, rfl, rfl, rfl, rfl, by kernel_rfl⟩
  | 11 => .inr ⟨⟨_, _, c11⟩, ⟨_, _, fun _ cf => k11 cf⟩, rfl, rfl, rfl, rfl, by kernel_rfl⟩
  | 12 => .inr ⟨⟨_, _, c12⟩, ⟨_, _, fun _ cf => k12 cf⟩, rfl, rfl, rfl, rfl, by kernel_rfl⟩
  | 13 => .inr ⟨⟨_, _, c13⟩, ⟨_, _, fast13⟩, rfl, rfl, rfl, rfl, fast_is l⟩
  | 14 => .inr ⟨⟨_, _, c14⟩, ⟨_, _, fun _ cf => k14 cf⟩, rfl, rfl, rfl, rfl, by kernel_rfl⟩
  | 15 => .inr ⟨⟨_, _, c15⟩, ⟨_, _, fun _ cf => k15 cf⟩, rfl, rfl, rfl, rfl, by kernel_rfl⟩
  | 16 => .inr ⟨⟨_, _, c16⟩, ⟨_, _, fun _ cf => k16 cf⟩, rfl, rfl, rfl, rfl, by kernel_rfl⟩
  | 17 => .inr ⟨⟨_, _, c17⟩, ⟨_, _, fun _ cf => k17 cf⟩, rfl, rfl, rfl, rfl, by kernel_rfl⟩
  | 18 => .inr ⟨⟨_, _, c18⟩, ⟨_, _, fun _ cf => k18 cf⟩, rfl, rfl, rfl, rfl, by kernel_rfl⟩
  | 19 => .inr ⟨⟨_, _, c19⟩, ⟨_, _, fun _ cf => k19 cf⟩, rfl, rfl, rfl, rfl, by kernel_rfl⟩
  | 20 => .inr ⟨⟨_, _, c20⟩, ⟨_, _, fun _ cf => k20 cf⟩, rfl, rfl, rfl, rfl, by kernel_rfl⟩
  | 21 => .inr ⟨⟨_, _, c21⟩, ⟨_, _, fun _ cf => k21 cf⟩, rfl, rfl, rfl, rfl, by kernel_rfl⟩
  | 22 => .inr ⟨⟨_, _, c22⟩, ⟨_, _, fun _ cf => k22 cf⟩, rfl, rfl, rfl, rfl, by kernel_rfl⟩
  | 23 => .inr ⟨⟨_, _, c23⟩, ⟨_, _, fun _ cf => k23 cf⟩, rfl, rfl, rfl, rfl, by kernel_rfl⟩
  | 24 => .inr ⟨⟨_, _, c24⟩, ⟨_, _, fun _ cf => k24 cf⟩, rfl, rfl, rfl, rfl, by kernel_rfl⟩
  | 25 => .inr ⟨⟨_, _, c25⟩, ⟨_, _, fun _ cf => k25 cf⟩, rfl, rfl, rfl, rfl, by kernel_rfl⟩
  | 26 => .inr ⟨⟨_, _, c26⟩, ⟨_, _, fun _ cf => k26 cf⟩, rfl, rfl, rfl, rfl, by kernel_rfl⟩
  | 27 => .inr ⟨⟨_, _, c27⟩, ⟨_, _, fun _ cf => k27 cf⟩, rfl, rfl, rfl, rfl, by kernel_rfl⟩
  | 28 => .inr ⟨⟨_, _, c28⟩, ⟨_, _, fun _ cf => k28 cf⟩, rfl, rfl, rfl, rfl, by kernel_rfl⟩
  | 29 => .inr ⟨⟨_, _, c29⟩, ⟨_, _, fun _ cf => k29 cf⟩, rfl, rfl, rfl, rfl, by kernel_rfl⟩
  | 30 => .inr ⟨⟨_, _, c30⟩, ⟨_, _, fun _ cf => k30 cf⟩, rfl, rfl, rfl, rfl, by kernel_rfl⟩
  | 31 => .inr ⟨⟨_, _, c31⟩, ⟨_, _, fun _ cf => k31 cf⟩, rfl, rfl, rfl, rfl, by kernel_rfl⟩
  | 32 => .inr ⟨⟨_, _, c32⟩, ⟨_, _, fun _ cf => k32 cf⟩, rfl, rfl, rfl, rfl, by kernel_rfl⟩
  | 33 => .inr ⟨⟨_, _, c33⟩, ⟨_, _, fun _ cf => k33 cf⟩, rfl, rfl, rfl, rfl, by kernel_rfl⟩
  | 34 => .inr ⟨⟨_, _, c34⟩, ⟨_, _, fun _ cf => k34 cf⟩, rfl, rfl, rfl, rfl, by kernel_rfl⟩
  | 35 => .inr ⟨⟨_, _, c35⟩, ⟨_, _, fun _ cf => k35 cf⟩, rfl, rfl, rfl, rfl, by kernel_rfl⟩
  | m + 36 => .inl ⟨rfl, rfl⟩
theorem callS_is : ∀ l, callD G (tabJ T) l = callS F l := callS_eq F_eq
end Cd


namespace Cd
open PySem PySem.Spec PyProof.Rows L2 PD
theorem take_ev (a b m : Int) (hm : m = 2 ∨ m = 3) (x y : Cell) (w : Nat) : ∃ a' b' r w', callD G (tabJ T) 10 2 [.ref 2, .int m] ⟨3, [.lst true [.int a, .int b], x, y], w⟩ = .ok (.int r) ⟨3, [.lst true [.int a', .int b'], x, y], w'⟩ ∧ 0 ≤ r ∧ r < m := by
  rw [ev_call (fn := ⟨2, 3, c2⟩) rfl rfl]
  have hm0 : 0 < m := by omega
  have hm1 : m < 1073741824 := by omega
  by_cases h : 0 < a
  · simp [c2, exSs, exS, evC, evCs, Res.bind, PD.start, Res.of, evOp, evCm, evBl, evSub, Store.get, Store.set, truth, atI, ixN, h, hm0, hm1, leave, refless]
    exact ⟨_, _, _, ⟨rfl, rfl, rfl⟩, Int.emod_nonneg _ (by omega), Int.emod_lt_of_pos _ hm0⟩
  · have hb : -18446744073709551616 < (b * 48271 + 11) % 2147483647 ∧ (b * 48271 + 11) % 2147483647 < 18446744073709551616 := by omega
    simp [c2, exSs, exS, evC, evCs, Res.bind, PD.start, Res.of, evOp, evCm, evBl, evSub, Store.get, Store.set, truth, atI, ixN, h, hm0, hm1, hb, leave, refless]
    exact ⟨_, _, _, ⟨rfl, rfl, rfl⟩, Int.emod_nonneg _ (by omega), Int.emod_lt_of_pos _ hm0⟩
theorem pool_ev (c : Int) (r : List D) (x : Cell) (w : Nat) : ∃ a b w', callD G (tabJ T) 10 3 [.ref 0, .int 0] ⟨2, [x, .lst false (.int c :: r)], w⟩ = .ok (.ref 2) ⟨3, [.lst true [.int a, .int b], x, .lst false (.int c :: r)], w'⟩ := by
  rw [ev_call (fn := ⟨2, 4, c3⟩) rfl rfl]
  have h1 : (0 : Int) < (r.length : Int) + 1 := by omega
  have h2 : (2 : Nat) ≤ sizeLine := by decide
  by_cases h : 1000000000000000000 ≤ c
  · simp [c3, exSs, exS, evC, evCs, Res.bind, PD.start, Res.of, evOp, evCm, evBl, evSub, Store.get, Store.set, Store.push, truth, atI, ixN, h, h1, h2, leave, refless]
  · simp [c3, exSs, exS, evC, evCs, Res.bind, PD.start, Res.of, evOp, evCm, evBl, evSub, Store.get, Store.set, Store.push, truth, atI, ixN, h, h1, h2, leave, refless]
end Cd

namespace Cd
open PySem PySem.Spec PyProof.Rows L2 PD
theorem r24 (l : List D) (w : Nat) : callS F 10 1 [.int 2, .int 4] ⟨1, [.lst false l], w⟩ = .ok (.bl true) ⟨1, [.lst false l], w⟩ := by kernel_rfl
end Cd

namespace Cd
open PySem PySem.Spec PyProof.Rows L2 PD
theorem r25 (l : List D) (p q : Cell) (w : Nat) : callS F 10 1 [.int 2, .int 5] ⟨3, [p, q, .lst false l], w⟩ = .ok (.bl true) ⟨3, [p, q, .lst false l], w⟩ := by kernel_rfl
end Cd

namespace Cd
open PySem PySem.Spec PyProof.Rows L2 PD
theorem r26 (l : List D) (p q : Cell) (w : Nat) : callS F 10 1 [.int 2, .int 6] ⟨3, [p, q, .lst false l], w⟩ = .ok (.bl true) ⟨3, [p, q, .lst false l], w⟩ := by kernel_rfl
end Cd

namespace Cd
open PySem PySem.Spec PyProof.Rows L2 PD
theorem r35 (l : List D) (p q : Cell) (w : Nat) : callS F 10 1 [.int 3, .int 5] ⟨3, [p, q, .lst false l], w⟩ = .ok (.bl true) ⟨3, [p, q, .lst false l], w⟩ := by kernel_rfl
end Cd

namespace Cd
open PySem PySem.Spec PyProof.Rows L2 PD
theorem r36 (l : List D) (p q : Cell) (w : Nat) : callS F 10 1 [.int 3, .int 6] ⟨3, [p, q, .lst false l], w⟩ = .ok (.bl true) ⟨3, [p, q, .lst false l], w⟩ := by kernel_rfl
end Cd

namespace Cd
open PySem PySem.Spec PyProof.Rows L2 PD
theorem pyL_izs {S : Store} : ∀ (ns : List Int) (k : Nat), ns.length ≤ k → pyL S k (ns.map .int) = some (ns.map PyData.int)
  | [], k, _ => by cases k <;> rfl
  | n :: r, 0, h => by simp at h
  | n :: r, k + 1, h => by
    have e := pyL_izs (S := S) r k (by simpa using h)
    show (match py S k (.int n), pyL S k (r.map .int) with | some a, some b => some (a :: b) | _, _ => none) = _
    have e2 : py S k (.int n) = some (.int n) := by cases k <;> rfl
    rw [e, e2]
    rfl
theorem can_izs : ∀ ns : List Int, PyData.canLayAll0 (ns.map PyData.int) = true
  | [] => rfl
  | n :: r => can_izs r
theorem dep_izs : ∀ ns : List Int, PyData.depthAll (ns.map PyData.int) = 0
  | [] => rfl
  | n :: r => by
    show max 0 (PyData.depthAll (r.map PyData.int)) = 0
    rw [dep_izs r]
    rfl
theorem shaped_izs (ns : List Int) : SeqAt.shaped (.list (ns.map PyData.int)) = true := by
  show (PyData.canLayAll0 (ns.map PyData.int) && decide (PyData.depthAll (ns.map PyData.int) + 1 ≤ 64)) = true
  rw [can_izs, dep_izs]
  rfl
theorem eq_script (c : Int) (r : List Int) (h : (c :: r).length ≤ 63) (w : Nat) : eqD ⟨2, [.lst true [], .lst false (.int c :: r.map .int)], w⟩ (.ref 0) (.ref 1) = some false := by
  have e1 : py ⟨2, [.lst true [], .lst false (.int c :: r.map .int)], w⟩ 64 (.ref 0) = some (.list ((c :: r).map PyData.int)) := by
    show (pyL _ 63 ((c :: r).map .int)).map PyData.list = _
    rw [pyL_izs _ 63 h]
    rfl
  have e2 : py ⟨2, [.lst true [], .lst false (.int c :: r.map .int)], w⟩ 64 (.ref 1) = some (.list []) := rfl
  unfold eqD
  rw [e1, e2]
  have e3 : SeqAt.shaped (.list []) = true := rfl
  simp only [flat, shaped_izs, e3, Bool.and_self, if_true]
  rfl
def lawEnd (S : Store) (r : Res Fl) : Res D := r.bind fun r S1 => match r with
      | .rt d => leave S d S1
      | .nx _ => leave S .non S1
      | _ => .stuck
theorem law_nil (cf : Nat → List D → Store → Res D) (g1 : ∀ (l : List D) (w : Nat), cf 1 [.int 2, .int 4] ⟨1, [.lst false l], w⟩ = .ok (.bl true) ⟨1, [.lst false l], w⟩) : ∃ S', lawEnd ⟨1, [.lst false []], 0⟩ (exSs G cf c0 (PD.start 3 [.ref 0]) ⟨1, [.lst false []], 1⟩) = .ok (.bl true) S' := by
  have q : ∀ w, eqD ⟨2, [.lst true [], .lst false []], w⟩ (.ref 0) (.ref 1) = some true := fun _ => rfl
  have h0 : (0 : Nat) ≤ sizeLine := by decide
  simp [lawEnd, c0, exSs, exS, evC, evCs, Res.bind, PD.start, srcs, Res.of, truth, g1, q, evCm, evOp, Store.push, h0, leave, refless]
theorem law_cons (cf : Nat → List D → Store → Res D) (c : D) (r : List D) (P1 P2 P3 : Cell) (n1 n2 m2 r1 r2 : Int) (w1 w2 w3 : Nat) (q : ∀ w, eqD ⟨2, [.lst true [], .lst false (c :: r)], w⟩ (.ref 0) (.ref 1) = some false)
    (g1 : ∀ (l : List D) (w : Nat), cf 1 [.int 2, .int 4] ⟨1, [.lst false l], w⟩ = .ok (.bl true) ⟨1, [.lst false l], w⟩)
    (hp : cf 3 [.ref 0, .int 0] ⟨2, [.lst true [], .lst false (c :: r)], 1⟩ = .ok (.ref 2) ⟨3, [P1, .lst true [], .lst false (c :: r)], w1⟩)
    (ht1 : cf 2 [.ref 2, .int 2] ⟨3, [P1, .lst true [], .lst false (c :: r)], w1⟩ = .ok (.int r1) ⟨3, [P2, .lst true [], .lst false (c :: r)], w2⟩) (hn1 : 2 + r1 = n1) (hm2 : 5 - n1 = m2)
    (ht2 : cf 2 [.ref 2, .int m2] ⟨3, [P2, .lst true [], .lst false (c :: r)], w2⟩ = .ok (.int r2) ⟨3, [P3, .lst true [], .lst false (c :: r)], w3⟩) (hn2 : n1 + 2 + r2 = n2)
    (g3 : cf 1 [.int n1, .int n2] ⟨3, [P3, .lst true [], .lst false (c :: r)], w3⟩ = .ok (.bl true) ⟨3, [P3, .lst true [], .lst false (c :: r)], w3⟩) :
    ∃ S', lawEnd ⟨1, [.lst false (c :: r)], 0⟩ (exSs G cf c0 (PD.start 3 [.ref 0]) ⟨1, [.lst false (c :: r)], 1⟩) = .ok (.bl true) S' := by
  have h0 : (0 : Nat) ≤ sizeLine := by decide
  simp [lawEnd, c0, exSs, exS, evC, evCs, Res.bind, PD.start, srcs, Res.of, truth, g1, q, evCm, evOp, Store.push, h0, leave, refless, hp, ht1, hn1, hm2, ht2, hn2, g3]
  by_cases hw : 1 ≤ w3 <;> simp [hw]
theorem law_ev (r24 : ∀ (l : List D) (w : Nat), callS F 10 1 [.int 2, .int 4] ⟨1, [.lst false l], w⟩ = .ok (.bl true) ⟨1, [.lst false l], w⟩)
    (rs : ∀ (a b : Int), ((a = 2 ∧ (b = 4 ∨ b = 5 ∨ b = 6)) ∨ (a = 3 ∧ (b = 5 ∨ b = 6))) → ∀ (l : List D) (p q : Cell) (w : Nat), callS F 10 1 [.int a, .int b] ⟨3, [p, q, .lst false l], w⟩ = .ok (.bl true) ⟨3, [p, q, .lst false l], w⟩)
    (ns : List Int) (h : ns.length ≤ 63) : ∃ S', callD G (tabJ T) 11 0 [.ref 0] ⟨1, [.lst false (ns.map .int)], 0⟩ = .ok (.bl true) S' := by
  rw [ev_call (fn := ⟨1, 3, c0⟩) rfl rfl]
  have g1 : ∀ (l : List D) (w : Nat), callD G (tabJ T) 10 1 [.int 2, .int 4] ⟨1, [.lst false l], w⟩ = .ok (.bl true) ⟨1, [.lst false l], w⟩ := fun l w => by rw [callS_is]; exact r24 l w
  cases ns with
  | nil => exact law_nil _ g1
  | cons c r =>
    obtain ⟨a, b, w1, hp⟩ := pool_ev c (r.map .int) (.lst true []) 1
    obtain ⟨a2, b2, r1, w2, ht1, l1, l2⟩ := take_ev a b 2 (.inl rfl) (.lst true []) (.lst false (.int c :: r.map .int)) w1
    obtain ⟨a3, b3, r2, w3, ht2, l3, l4⟩ := take_ev a2 b2 (5 - (2 + r1)) (by omega) (.lst true []) (.lst false (.int c :: r.map .int)) w2
    have g3 : ∀ (l : List D) (p q : Cell) (w : Nat), callD G (tabJ T) 10 1 [.int (2 + r1), .int (2 + r1 + 2 + r2)] ⟨3, [p, q, .lst false l], w⟩ = .ok (.bl true) ⟨3, [p, q, .lst false l], w⟩ := fun l p q w => by rw [callS_is]; exact rs _ _ (by omega) l p q w
    exact law_cons _ (.int c) (r.map .int) _ _ _ _ _ _ _ _ _ _ _ (eq_script c r h) g1 hp ht1 rfl rfl ht2 rfl (g3 _ _ _ _)
end Cd

namespace Cd
open PySem PySem.Spec PyProof.Rows L2 PD
theorem r24q (l : List D) (p q : Cell) (w : Nat) : callS F 10 1 [.int 2, .int 4] ⟨3, [p, q, .lst false l], w⟩ = .ok (.bl true) ⟨3, [p, q, .lst false l], w⟩ := by kernel_rfl
end Cd
namespace Cd
open PySem PySem.Spec PyProof.Rows L2 PD
theorem only_ro {K : PySem.W.Frag} {H : Hp} {a : Addr} {vs : List V} (hO : Only H) (hS : SqL K H a vs) : RO K H a vs := by
  rcases hS with (h | ⟨o, h⟩) | h
  · rcases hO a with e | ⟨o, xs, e⟩
    · rw [e] at h; cases h
    · rw [e] at h
      cases h
  · exact .inl ⟨o, h⟩
  · exact .inr h
def S0 (ns : List Int) : Store := ⟨1, [.lst false (ns.map .int)], 0⟩
theorem law_sp {K : PySem.W.Frag} {L : Pl} {lv : Nat} {H : Hp} {a : Addr} {ns : List Int} {S' : Store} (hO : Only H) (hS : SqL K H a (ns.map V.int)) (e : callD G (tabJ T) lv 0 [.ref 0] (S0 ns) = .ok (.bl true) S') :
    spD K L (callD G (tabJ T) lv) 0 1 [.ref a] H (fun v _ => v = .bl true) fun _ _ _ => False := by
  refine ⟨fun _ => a, S0 ns, [.ref 0], .bl true, S', rfl, ⟨fun i c h => ?_, fun i j c d h1 h2 m1 m2 q => ?_⟩, RpL.cons ⟨Nat.lt_succ_self 0, rfl⟩ RpL.nil, e, fun ρ' H' v n p => p⟩
  · have hi : i = 0 := by have := Store.lt h; have h2 : i < 1 := this; omega
    subst hi
    cases (show some (Cell.lst false (ns.map .int)) = some c from h)
    exact ⟨_, only_ro hO hS, RpL.of_forall (f := D.int) (g := V.int) fun x _ => rfl⟩
  · have hi : i = 0 := by have := Store.lt h1; have h2 : i < 1 := this; omega
    have hj : j = 0 := by have := Store.lt h2; have h2 : j < 1 := this; omega
    rw [hi, hj]
end Cd
open PySem PySem.W PySem.Calls PyProof.Rows
theorem PySem.Challenge.cw_signskept_k13_whole_needs_that_are_neede_holds : PySem.Challenge.rw_signskept_k13_whole_needs_that_are_neede.Holds := by
  w_on; o_law
  refine HandSHeadRun.head_any (r := OpenLaw.row PySem.Challenge.rw_signskept_k13_whole_needs_that_are_neede) (q := view (OpenLaw.row PySem.Challenge.rw_signskept_k13_whole_needs_that_are_neede).prog [62]) (H := Cd.hk) (ob := Cd.ob) (M := 20000) (loose := Cd.names) (d := HandSHeadRun.topDef (OpenLaw.row PySem.Challenge.rw_signskept_k13_whole_needs_that_are_neede).prog 62) (kwd := []) Cd.ob_eq
    (by kernel_rfl) (fun s => by kernel_rfl) Cd.run (by kernel_rfl) (by kernel_rfl) (by kernel_rfl) (by rfl) (by first | assumption | decide +kernel) (by decide +kernel) ⟨rfl, rfl, rfl, rfl, rfl, by decide +kernel⟩ ?hw ?hc
  case hw => w_witness2
  case hc =>
    refine L2.walk_ofE (l := PySem.Challenge.rw_signskept_k13_whole_needs_that_are_neede) (n := 63) (k := 22) (x := "script") (CX := L2.CX0) rfl (by decide) (by kernel_rfl) ⟨rfl, by decide, by decide⟩ ?F (fun _ _ _ _ z => z)
    intro w mg fa h Y G hmg0
    obtain ⟨K, KX, c⟩ := Y
    have hmg : mg ("law" : PySem.Str) = some (.ref fa) := by
      have e : (HandSHeadRun.topDef (OpenLaw.row PySem.Challenge.rw_signskept_k13_whole_needs_that_are_neede).prog 62).name = ("law" : PySem.Str) := by kernel_rfl
      rw [← e]
      exact hmg0
    obtain ⟨fd, F⟩ := c.def_ 0 (d := Cd.f0) rfl
    have e := hmg.symm.trans (He.glo_ok KX G (c.fact 0 (f := .glo (PySem.Str.ofString "law")) rfl))
    cases e
    have b := L2.FunD.bindsA (ps := Cd.p0) F fun _ _ _ _ _ _ us hl => match us, hl with | [_], _ => rfl
    refine ⟨K, fd, PD.spD K (Cd.Lk K) (PD.callD Cd.G (PD.tabJ Cd.T) 11) 0 1, KX, fun s v => b s [v] rfl, fun H a ns hl hO hS => ?_, fun base HK HG => Cd.levels HK HG c 11 0 Cd.j0 fd rfl F⟩
    obtain ⟨S', e⟩ := Cd.law_ev Cd.r24 (fun a b h => by
      rcases h with ⟨rfl, rfl | rfl | rfl⟩ | ⟨rfl, rfl | rfl⟩
      · exact Cd.r24q
      · exact Cd.r25
      · exact Cd.r26
      · exact Cd.r35
      · exact Cd.r36) ns hl
    exact Cd.law_sp hO hS e
