import PyProof.Rows.All
import Wide.All
import OpenK.AllK
import Wide.FinOn
import HandS.CallSlots
import HandS.Conv
import HandS.DeepEq
import HandS.Defaults
import HandS.DictComp
import HandS.Evl
import HandS.Exc
import HandS.ExcField
import HandS.ExcIs
import HandS.ExcValue
import HandS.FStr
import HandS.ForMost
import HandS.ForSpec
import HandS.Head0
import HandS.Head1
import HandS.Head2
import HandS.HeadEnd
import HandS.HeadHook1
import HandS.HeadHook2
import HandS.HeadHook3
import HandS.HeadHook4
import HandS.HeadWalk
import HandS.IsInst
import HandS.Iter
import HandS.Lambda
import HandS.MakeKw
import HandS.MakeKwOnly
import HandS.More
import HandS.NoneIn
import HandS.Property
import HandS.RaiseMore
import HandS.ReplaceLit
import HandS.SlotsOwn
import HandS.Strs
import HandS.Style
import HandS.Text
import HandS.TryMany
import HandS.TupAny
import HandS.TupMul
import HandS.TupSets
import HandS.Wide
import HandS.WordsExc
import HandS.Zip
import KE.KFmtOwn
import KE.KNestM
import KE.KOpsOwn
import KE.KRevSl
import KE.KStateDown
import KE.OsGo
import Open.SpecLaws
import PyProof.EqAt
import PyProof.EqKinds
import PyProof.ExcBaseAll.LookupError
import PyProof.ExcBaseAll.OverflowError
import PyProof.ExcBaseAll.RuntimeError
import PyProof.InstEq
import PyProof.ListRange
import PyProof.Meets
import PyProof.NeKinds
import PyProof.Rows.StrStep
import PyProof.RulesMatch
import PyProof.StrOps2
import PyProof.StrWalks
import PyProof.ToksMono
import PyProof.TupleCall
import PyProof.TwoTypes
import PySem.Challenge.RW_signskept_k05_exceptions_apart
set_option Elab.async false
set_option linter.all false
set_option maxRecDepth 1000000
set_option maxHeartbeats 0
/-! QD: plain data, a store of cells, a small code, and its evaluator; exceptions, own operators. -/
namespace QD
open PySem L2

/-- values: scalars, tuples as they are, a cell of the store, a dict of the text's top -/
inductive D where
  | non | bl (b : Bool) | int (i : Int) | str (x : Str) | tup (l : List D) | ref (i : Nat) | kd (i : Nat)
/-- cells: a list (w: may be written), an instance of the class c, a list under way, an exception's dict, a dict -/
inductive Cell where
  | lst (w : Bool) (l : List D) | ins (c : Nat) (fs : List (Str × D)) | bld (n : Nat) (l : List D) | xd (c : Nat) (fs : List (Str × D)) | dct (l : List (Key × D))
  /-- a dict under way (the others stand as they are) -/
  | dbl (l : List (Key × D))
  /-- an exception of the class c that is a value, the cell of its dict -/
  | exo (c : Nat) (d : Option Nat)
structure Store where
  n : Nat
  l : List Cell
  /-- no cell below it has been written since the frame began -/
  w : Nat
namespace Store
def get (S : Store) (i : Nat) : Option Cell := if i < S.n then S.l[S.n - 1 - i]? else none
def push (S : Store) (c : Cell) : Store := ⟨S.n + 1, c :: S.l, S.w⟩
def set (S : Store) (i : Nat) (c : Cell) : Store := if i < S.n then ⟨S.n, S.l.set (S.n - 1 - i) c, if i < S.w then i else S.w⟩ else S
theorem lt {S : Store} {i : Nat} {c : Cell} (h : S.get i = some c) : i < S.n := by
  unfold get at h
  split at h
  · assumption
  · cases h
theorem get_push {S : Store} {c : Cell} : (S.push c).get S.n = some c := by
  unfold get push
  simp
theorem get_old {S : Store} {c : Cell} {i : Nat} (h : i < S.n) : (S.push c).get i = S.get i := by
  unfold get push
  dsimp only
  rw [if_pos (by omega), if_pos h, show S.n + 1 - 1 - i = (S.n - 1 - i) + 1 by omega, List.getElem?_cons_succ]
theorem get_push_some {S : Store} {c d : Cell} {i : Nat} (h : S.get i = some d) : (S.push c).get i = some d := by
  rw [get_old (lt h), h]
theorem get_push_cases {S : Store} {c d : Cell} {i : Nat} (h : (S.push c).get i = some d) : (i = S.n ∧ d = c) ∨ S.get i = some d := by
  have hl := lt h
  have hl' : i < S.n + 1 := hl
  by_cases e : i = S.n
  · subst e
    rw [get_push] at h
    exact .inl ⟨rfl, (Option.some.inj h).symm⟩
  · rw [get_old (by omega)] at h
    exact .inr h
theorem set_n {S : Store} {i : Nat} {c : Cell} : (S.set i c).n = S.n := by
  unfold set
  split <;> rfl
theorem get_set {S : Store} {i : Nat} {c d : Cell} (h : S.get i = some d) : (S.set i c).get i = some c := by
  have hl := lt h
  unfold get at h
  rw [if_pos hl] at h
  unfold set get
  rw [if_pos hl]
  dsimp only
  rw [if_pos hl]
  have := (List.getElem?_eq_some_iff.mp h).1
  rw [List.getElem?_set_self this]
theorem get_set_ne {S : Store} {i j : Nat} {c : Cell} (h : i ≠ j) : (S.set i c).get j = S.get j := by
  unfold set
  split
  · unfold get
    dsimp only
    split
    · rw [List.getElem?_set_ne (by omega)]
    · rfl
  · rfl
theorem set_w {S : Store} {i : Nat} {c : Cell} : (S.set i c).w ≤ S.w := by
  unfold set
  split
  · dsimp only
    split <;> omega
  · exact Nat.le_refl _
theorem set_low {S : Store} {i j : Nat} {c : Cell} (h : j < (S.set i c).w) : (S.set i c).get j = S.get j := by
  by_cases e : i = j
  · subst e
    unfold set at h ⊢
    split
    · rename_i hl
      rw [if_pos hl] at h
      dsimp only at h
      split at h <;> omega
    · rfl
  · exact get_set_ne e
end Store

inductive Res (α : Type) where
  | ok (a : α) (S : Store) | ex (c d : Nat) (S : Store) | stuck
def Res.bind {α β : Type} (r : Res α) (f : α → Store → Res β) : Res β := match r with
  | .ok a S => f a S
  | .ex c d S => .ex c d S
  | .stuck => .stuck
def Res.of {α : Type} (o : Option α) (S : Store) : Res α := match o with
  | some a => .ok a S
  | none => .stuck
/-- no exception may leave -/
def Res.nox {α : Type} (r : Res α) : Res α := match r with
  | .ok a S => .ok a S
  | _ => .stuck
/-- what is wanted of a result -/
def Res.Good {α : Type} (r : Res α) (k : α → Store → Prop) (x : Nat → Nat → Store → Prop) : Prop := match r with
  | .ok a S => k a S
  | .ex c d S => x c d S
  | .stuck => False
theorem Res.good_bind {α β : Type} {r : Res α} {f : α → Store → Res β} {k : β → Store → Prop} {x : Nat → Nat → Store → Prop} (h : (r.bind f).Good k x) : r.Good (fun a S => (f a S).Good k x) x := by
  cases r <;> exact h
theorem Res.good_of {α : Type} {o : Option α} {S : Store} {k : α → Store → Prop} {x : Nat → Nat → Store → Prop} (h : (Res.of o S).Good k x) : ∃ a, o = some a ∧ k a S := by
  cases o with
  | none => exact h.elim
  | some a => exact ⟨a, rfl, h⟩
theorem Res.good_nox {α : Type} {r : Res α} {k : α → Store → Prop} {x : Nat → Nat → Store → Prop} (h : r.nox.Good k x) : r.Good k fun _ _ _ => False := by
  cases r <;> exact h
theorem Res.Good.imp {α : Type} {r : Res α} {k k' : α → Store → Prop} {x x' : Nat → Nat → Store → Prop} (h : r.Good k x) (hk : ∀ a S, k a S → k' a S) (hx : ∀ c d S, x c d S → x' c d S) : r.Good k' x' := by
  cases r with
  | ok a S => exact hk a S h
  | ex c d S => exact hx c d S h
  | stuck => exact h
theorem Res.Good.ok {α : Type} {r : Res α} {k : α → Store → Prop} {a : α} {S : Store} {x : Nat → Nat → Store → Prop} (e : r = .ok a S) (h : k a S) : r.Good k x := by
  rw [e]
  exact h

inductive Op where
  | add | sub | mul | fdiv | mod | shl | shr | band | bor | bxor | pow
inductive Un where
  | neg | inv
inductive Cm where
  | eq | ne | lt | le | gt | ge | isN | notN | in_ | nin
/-- types asked by isinstance -/
inductive Tk where
  | int | bool | str | list | tuple | dict | cls (c : Nat)
inductive Bl where
  | len | int1 | abs | all | any | tuple1 | list1 | isi (ts : List Tk) | max2 | min2 | str1 | repr1 | bool1 | sum1 | sorted1
/-- where a parameter's value comes from: the i-th written argument, a literal -/
inductive Src where
  | arg (i : Nat) | lit (d : D)

mutual
inductive C where
  | lit (d : D) | var (i : Nat) | glb (i : Nat)
  | op (o : Op) (a b : C) | un (o : Un) (a : C) | cmp (o : Cm) (a b : C) | cmp2 (o p : Cm) (a b c : C)
  | and (a b : C) | or (a b : C) | not (a : C) | ite (t a b : C)
  | tup (l : Cs) | lst (l : Cs) | dsp (ks : List Str) (l : Cs)
  | call (f : Nat) (sh : List Src) (l : Cs) | mk (c f : Nat) (sh : List Src) (l : Cs) | stc (f : Nat) (sh : List Src) (l : Cs)
  | meth (o : C) (m : Str) (l : Cs)
  | blt (b : Bl) (l : Cs) | app (o x : C) | dget (o x : C) | join (o x : C)
  | attr (o : C) (f : Str) | sub (o i : C) | slice (o : C) (lo hi : Oc) | rev (o : C)
  | fstr (l : Fs) | split (o : C) (y : Str) | repl (o : C) (y z : Str)
  | dgetc (o x : C) | dget2 (o x y : C) | stk | lens (c : C) | ssort (c : C)
  | dcomp (it : Iter) (tg : List Nat) (one : Bool) (own : List Nat) (ifs : Cs) (kx vx : C)
  | xval | xisi (ts : List Nat)
  | mkx (c : Nat) (x : C) | mkx0 (c : Nat) | xv (o : C) | xis (o : C) (t : Nat)
  | comp (it : Iter) (tg : List Nat) (one : Bool) (own : List Nat) (ifs : Cs) (elt : C)
  | scope (c : C)
  | comp2 (it : Iter) (tg : List Nat) (one : Bool) (it2 : Iter) (tg2 : List Nat) (one2 : Bool) (own own2 : List Nat) (elt : C)
inductive Cs where
  | nil | cons (c : C) (r : Cs)
inductive Oc where
  | no | so (c : C)
/-- parts of an f-string: a text, a value, a value by repr -/
inductive Fs where
  | nil | lit (x : Str) (r : Fs) | val (c : C) (r : Fs) | rep (c : C) (r : Fs)
inductive Iter where
  | seq (c : C) | range1 (a : C) | range2 (a b : C) | zip (a b : C) | enum (a : C)
end
mutual
inductive Stm where
  | asg (i : Nat) (c : C) | asgT (is : List Nat) (c : C) | setI (o i v : C) | setF (o : C) (f : Str) (v : C) | aug (i : Nat) (o : Op) (c : C)
  | expr (c : C) | ifs (t : C) (a b : Ss) | for1 (it : Iter) (tg : List Nat) (one : Bool) (b : Ss)
  | ret (c : C) | retN | pass | brk | cont | never
  | mat (c : C) (ms : Ms)
  | rais (c : Nat) (x : C) | tryX (b : Ss) (hs : Hs)
inductive Ss where
  | nil | cons (s : Stm) (r : Ss)
inductive Ms where
  | nil | cons (x : Str) (b : Ss) (r : Ms)
/-- except clauses: one class, the slot of its name -/
inductive Hs where
  | nil | cons (c : Nat) (i : Nat) (b : Ss) (r : Hs) | consN (c : Nat) (b : Ss) (r : Hs)
end

/-- the program's own data, beside its code -/
structure Gd where
  gv : Nat → Option D
  kdt : Nat → Option (List (Str × D))
  props : Nat → List (Str × Nat)
  meths : Nat → List (Str × Nat)
  flds : Nat → List Str
  isc : Nat → Bool
  /-- own operators of a class -/
  ops : Nat → List (Str × Nat)
  /-- exception classes: the i-th is one below the j-th -/
  exs : Nat → Nat → Option Bool
  /-- the exception that is handled: its dict's cell, its class -/
  exi : Option (Nat × Nat)

abbrev Sl := List (Option D)
def wipeD (σ : Sl) : List Nat → Sl
  | [] => σ
  | v :: vs => (wipeD σ vs).set v none
def setAll : Sl → List Nat → List D → Option Sl
  | σ, [], [] => some σ
  | σ, i :: is, d :: ds => setAll (σ.set i (some d)) is ds
  | _, _, _ => none

def truth (S : Store) : D → Option Bool
  | .non => some false
  | .bl b => some b
  | .int i => some (i != 0)
  | .str x => if x.length ≤ sizeLine then some ((x.length : Int) != 0) else none
  | .tup l => some (!l.isEmpty)
  | .ref i => (match S.get i with
    | some (.lst _ l) => some (!l.isEmpty)
    | _ => none)
  | .kd _ => none

def flat : D → Bool
  | .non => true | .bl _ => true | .int _ => true | .str _ => true | _ => false
/-- == of flat values -/
def eqF : D → D → Bool
  | .non, .non => true
  | .bl a, .bl b => a == b
  | .bl a, .int b => (if a then 1 else 0) == b
  | .int a, .bl b => a == (if b then 1 else 0)
  | .int a, .int b => a == b
  | .str a, .str b => a == b
  | _, _ => false
mutual
/-- lists and tuples of flat values and such, as the library's data -/
def py (S : Store) : Nat → D → Option PyData
  | _, .non => some .none
  | _, .bl b => some (.bool b)
  | _, .int i => some (.int i)
  | _, .str x => some (.str x)
  | n + 1, .tup l => (pyL S n l).map .tuple
  | n + 1, .ref i => (match S.get i with
    | some (.lst _ l) => (pyL S n l).map .list
    | _ => none)
  | _, _ => none
def pyL (S : Store) : Nat → List D → Option (List PyData)
  | _, [] => some []
  | n + 1, d :: ds => (match py S n d, pyL S n ds with
    | some a, some b => some (a :: b)
    | _, _ => none)
  | _, _ => none
end
/-- the same things: equal flat values of a kind, one thing of the store -/
def sameD : D → D → Bool
  | .non, .non => true
  | .bl a, .bl b => a == b
  | .int a, .int b => a == b
  | .str a, .str b => a == b
  | .ref i, .ref j => i == j
  | _, _ => false
def sameL : List D → List D → Bool
  | [], [] => true
  | a :: r, b :: s => sameD a b && sameL r s
  | _, _ => false
mutual
/-- the same things, of nesting: the same flat values, the same thing of the store, lists or tuples of the same things -/
def deepD (S : Store) : Nat → D → D → Bool
  | 0, _, _ => false
  | n + 1, a, b => match a, b with
    | .tup l, .tup m => deepL S n l m
    | .ref i, .ref j => i == j || (match S.get i, S.get j with
      | some (.lst _ l), some (.lst _ m) => deepL S n l m
      | _, _ => false)
    | a, b => sameD a b
def deepL (S : Store) : Nat → List D → List D → Bool
  | 0, _, _ => false
  | n + 1, a, b => match a, b with
    | [], [] => true
    | a :: r, b :: s => deepD S n a b && deepL S n r s
    | _, _ => false
end
def eqI (S : Store) (a b : D) : Option Bool := match a, b with
  | .ref i, .ref j => (match S.get i, S.get j with
    | some (.lst _ l), some (.lst _ m) => if sameL l m then some true else if deepL S 50 l m then some true else none
    | _, _ => none)
  | .tup l, .tup m => if deepL S 50 l m then some true else none
  | .ref i, .str _ => (match S.get i with
    | some (.dct _) => some false
    | _ => none)
  | _, _ => none
def eqD (S : Store) (a b : D) : Option Bool :=
  if flat a && flat b then some (eqF a b) else (match py S 64 a, py S 64 b with
    | some d, some e => if SeqAt.shaped d && SeqAt.shaped e then some (PyData.eqv d e) else eqI S a b
    | _, _ => eqI S a b)

/-- a text times a number -/
def mulS (z : Str) (k : Int) : Str := if k < 1 then Str.empty else if (k == 1 || z.length == 0) = true then z else ⟨(List.replicate k.toNat z.cps).foldl (· ++ ·) #[]⟩
def evOp (S : Store) (o : Op) (a b : D) : Res D := match o, a, b with
  | .add, .int i, .int j => .ok (.int (i + j)) S
  | .sub, .int i, .int j => .ok (.int (i - j)) S
  | .mul, .int i, .int j => if (-(2 ^ 64) < i ∧ i < 2 ^ 64) ∨ (-(2 ^ 64) < j ∧ j < 2 ^ 64) then .ok (.int (i * j)) S else .stuck
  | .fdiv, .int i, .int j => if 0 < j ∧ j.natAbs.log2 < 9000 then .ok (.int (i / j)) S else .stuck
  | .mod, .int i, .int j => if 0 < j then .ok (.int (i % j)) S else .stuck
  | .shl, .int i, .int j => if 0 ≤ j ∧ j ≤ 1000000 ∧ i.natAbs < 2 ^ 64 then .ok (.int (i * 2 ^ j.toNat)) S else .stuck
  | .shr, .int i, .int j => if 0 ≤ j then .ok (.int (i / 2 ^ j.toNat)) S else .stuck
  | .band, .int i, .int j => .ok (.int (Builtin.bitAnd i j)) S
  | .pow, .int i, .int j => if 0 ≤ j ∧ j ≤ 1000000 ∧ i.natAbs < 2 ^ 64 then .ok (.int (i ^ j.toNat)) S else .stuck
  | .bor, .int i, .int j => .ok (.int (Builtin.bitOr i j)) S
  | .bxor, .int i, .int j => .ok (.int (Builtin.bitXor i j)) S
  | .add, .str x, .str y => if x.length + y.length ≤ sizeLine then .ok (.str (x ++ y)) S else .stuck
  | .add, .tup x, .tup y => if x.length + y.length ≤ sizeLine then .ok (.tup (x ++ y)) S else .stuck
  | .mul, .tup x, .int k => if (x.isEmpty = false) ∧ 0 ≤ k ∧ k ≤ 1000 ∧ x.length ≤ 1000 then .ok (.tup (List.replicate k.toNat x).flatten) S else .stuck
  | .mul, .str z, .int k => if 0 ≤ k ∧ k ≤ 10000 ∧ z.length ≤ 1000 then .ok (.str (mulS z k)) S else .stuck
  | .add, .ref i, .ref j => (match S.get i, S.get j with
    | some (.lst true x), some (.lst true y) => if x.length + y.length ≤ sizeLine then .ok (.ref S.n) (S.push (.lst true (x ++ y))) else .stuck
    | _, _ => .stuck)
  | .mul, .ref i, .int k => (match S.get i with
    | some (.lst true x) => if 0 ≤ k ∧ k < 2 ^ 62 ∧ x.length * k.toNat ≤ sizeLine then .ok (.ref S.n) (S.push (.lst true (List.replicate k.toNat x).flatten)) else .stuck
    | _ => .stuck)
  | _, _, _ => .stuck
def evUn (S : Store) (o : Un) (a : D) : Res D := match o, a with
  | .neg, .int i => .ok (.int (-i)) S
  | .inv, .int i => .ok (.int (Builtin.bitNot i)) S
  | _, _ => .stuck
def inS (x y : Str) : Bool := match x.cps.toList with
  | [c] => decide (c ∈ y.cps.toList)
  | _ => !(Builtin.Str.occurrences y x 0 y.length 1).isEmpty
def inD (S : Store) (G : Gd) (a b : D) : Option Bool := match a, b with
  | .str x, .str y => some (inS x y)
  | a, .tup l => if flat a && l.all flat then some (l.any fun y => eqF y a) else none
  | a, .ref i => (match S.get i with
    | some (.lst _ l) => if flat a && l.all flat then some (l.any fun y => eqF y a) else none
    | some (.dct l) => (match a with
      | .str x => some (l.any fun p => decide (p.1 = .inr x))
      | _ => none)
    | _ => none)
  | .str x, .kd i => (G.kdt i).map fun t => (t.lookup x).isSome
  | _, _ => none
def isNon : D → Bool
  | .non => true
  | _ => false
/-- is, of two truth values -/
def isB : D → D → Option Bool
  | .bl i, .bl j => some (i == j)
  | _, _ => none
def evCm (G : Gd) (S : Store) (o : Cm) (a b : D) : Option Bool := match o with
  | .eq => eqD S a b
  | .ne => (eqD S a b).map (!·)
  | .lt => (match a, b with | .int i, .int j => some (decide (i < j)) | _, _ => none)
  | .le => (match a, b with | .int i, .int j => some (decide (i ≤ j)) | _, _ => none)
  | .gt => (match a, b with | .int i, .int j => some (decide (j < i)) | _, _ => none)
  | .ge => (match a, b with | .int i, .int j => some (decide (j ≤ i)) | _, _ => none)
  | .isN => if isNon b then some (isNon a) else isB a b
  | .notN => if isNon b then some (!isNon a) else none
  | .in_ => inD S G a b
  | .nin => (inD S G a b).map (!·)
/-- the types of values -/
inductive Bt where
  | non | bool | int | str | list | tuple | dict
inductive Ty where
  | bt (b : Bt) | own (c : Nat)
def tyD (G : Gd) (S : Store) : D → Option Ty
  | .non => some (.bt .non)
  | .bl _ => some (.bt .bool)
  | .int _ => some (.bt .int)
  | .str _ => some (.bt .str)
  | .tup _ => some (.bt .tuple)
  | .kd i => if (G.kdt i).isSome then some (.bt .dict) else none
  | .ref i => (match S.get i with
    | some (.lst _ _) => some (.bt .list)
    | some (.ins c _) => if G.isc c then some (.own c) else none
    | some (.dct _) => some (.bt .dict)
    | _ => none)
def btIs : Bt → Tk → Bool
  | .bool, .bool => true | .bool, .int => true
  | .int, .int => true
  | .str, .str => true
  | .list, .list => true
  | .tuple, .tuple => true
  | .dict, .dict => true
  | _, _ => false
def isTk (G : Gd) (S : Store) (d : D) : Tk → Option Bool
  | .cls c => if G.isc c then (match tyD G S d with | some (.own c') => some (c == c') | some (.bt _) => some false | none => none) else none
  | t => (match tyD G S d with | some (.own _) => some false | some (.bt n) => some (btIs n t) | none => none)
def anyTk (G : Gd) (S : Store) (d : D) : List Tk → Option Bool
  | [] => some false
  | t :: ts => (match isTk G S d t with
    | some true => some true
    | some false => anyTk G S d ts
    | none => none)
def intsD : List D → Option (List Int)
  | [] => some []
  | .int b :: r => (intsD r).map (b :: ·)
  | _ => none
def bls : List D → Option (List Bool)
  | [] => some []
  | .bl b :: r => (bls r).map (b :: ·)
  | _ => none
/-- one text ahead of another -/
def ltS (a b : Str) : Bool := decide (a.cps.toList < b.cps.toList)
def insS (a : Str) : List Str → List Str
  | [] => [a]
  | b :: r => if ltS b a then b :: insS a r else a :: b :: r
def sortS : List Str → List Str
  | [] => []
  | a :: r => insS a (sortS r)
def txts' : List D → Option (List Str)
  | [] => some []
  | .str b :: r => (txts' r).map (b :: ·)
  | _ => none
def keyTs : List (Key × D) → Option (List Str)
  | [] => some []
  | (.inr x, _) :: r => (keyTs r).map (x :: ·)
  | _ => none
def keyOf : D → Option Key
  | .int i => some (.inl i)
  | .str x => some (.inr x)
  | _ => none
def putKD (l : List (Key × D)) (k : Key) (v : D) : List (Key × D) :=
  if (l.any fun p => decide (p.1 = k)) = true then l.map (fun p => if p.1 = k then (p.1, v) else p) else l ++ [(k, v)]
/-- a key as a value -/
def keyD : Key → D
  | .inl i => .int i
  | .inr x => .str x
def evBl (G : Gd) (S : Store) (b : Bl) (l : List D) : Res D := match b, l with
  | .len, [.str x] => if x.length ≤ sizeLine then .ok (.int x.length) S else .stuck
  | .len, [.tup l] => .ok (.int l.length) S
  | .len, [.ref i] => (match S.get i with | some (.lst _ l) => .ok (.int l.length) S | some (.dct l) => .ok (.int l.length) S | _ => .stuck)
  | .int1, [.int i] => .ok (.int i) S
  | .int1, [.bl b] => .ok (.int (if b then 1 else 0)) S
  | .int1, [.str x] => if x.length ≤ 640 then Res.of ((PySem.intText? x).map .int) S else .stuck
  | .abs, [.int i] => .ok (.int (if i < 0 then -i else i)) S
  | .all, [.ref i] => (match S.get i with | some (.lst _ l) => Res.of ((bls l).map fun bs => .bl (bs.all id)) S | _ => .stuck)
  | .any, [.ref i] => (match S.get i with | some (.lst _ l) => Res.of ((bls l).map fun bs => .bl (bs.any id)) S | _ => .stuck)
  | .sum1, [.ref i] => (match S.get i with | some (.lst _ l) => Res.of ((intsD l).map fun bs => .int bs.sum) S | _ => .stuck)
  | .tuple1, [.ref i] => (match S.get i with | some (.lst _ l) => .ok (.tup l) S | _ => .stuck)
  | .tuple1, [.tup l] => .ok (.tup l) S
  | .list1, [.ref i] => (match S.get i with | some (.lst _ l) => .ok (.ref S.n) (S.push (.lst true l)) | some (.dct l) => .ok (.ref S.n) (S.push (.lst true (l.map fun q => keyD q.1))) | _ => .stuck)
  | .list1, [.kd i] => (match G.kdt i with | some t => if t.length ≤ 1000 then .ok (.ref S.n) (S.push (.lst true (t.map fun q => .str q.1))) else .stuck | none => .stuck)
  | .list1, [.tup l] => .ok (.ref S.n) (S.push (.lst true l))
  | .list1, [.str x] => if x.cps.size ≤ 1048576 then .ok (.ref S.n) (S.push (.lst true (x.cps.toList.map fun c => .str ⟨#[c]⟩))) else .stuck
  | .sorted1, [.ref i] => (match S.get i with
    | some (.lst _ l) => (match txts' l with | some xs => if xs.length < 64 then .ok (.ref S.n) (S.push (.lst true ((sortS xs).map .str))) else .stuck | none => .stuck)
    | some (.dct l) => (match keyTs l with | some xs => if xs.length < 64 then .ok (.ref S.n) (S.push (.lst true ((sortS xs).map .str))) else .stuck | none => .stuck)
    | _ => .stuck)
  | .isi ts, [d] => Res.of ((anyTk G S d ts).map .bl) S
  | .max2, [.int i, .int j] => .ok (.int (if j > i then j else i)) S
  | .min2, [.int i, .int j] => .ok (.int (if j < i then j else i)) S
  | .str1, [.int i] => if i.natAbs.log2 < 1920 then .ok (.str (toString i)) S else .stuck
  | .str1, [.str x] => .ok (.str x) S
  | .bool1, [.int i] => .ok (.bl (i != 0)) S
  | .bool1, [.bl b] => .ok (.bl b) S
  | _, _ => .stuck
def evSub (S : Store) (G : Gd) (a b : D) : Option D := match a, b with
  | .tup l, .int i => atI l i
  | .ref j, .int i => (match S.get j with | some (.lst _ l) => atI l i | _ => none)
  | .ref j, .str x => (match S.get j with | some (.dct l) => (l.find? fun p => decide (p.1 = .inr x)).map (·.2) | _ => none)
  | .str x, .int i => if x.length ≤ sizeLine then (atI x.cps.toList i).map fun c => .str ⟨#[c]⟩ else none
  | .kd j, .str x => (G.kdt j).bind fun t => t.lookup x
  | _, _ => none
def putD (f : Str) (v : D) : List (Str × D) → List (Str × D)
  | [] => [(f, v)]
  | (g, x) :: r => if g = f then (g, v) :: r else (g, x) :: putD f v r
/-- a display's pairs, no key twice -/
def pairsD : List Str → List D → Option (List (Key × D))
  | [], [] => some []
  | k :: ks, d :: ds => if ks.contains k then none else (pairsD ks ds).map ((.inr k, d) :: ·)
  | _, _ => none
def isE0 : Option Cell → Bool
  | some (.dbl []) => true
  | _ => false
def srcs (vs : List D) : List Src → Option (List D)
  | [] => some []
  | .arg i :: r => (match vs[i]?, srcs vs r with | some d, some ds => some (d :: ds) | _, _ => none)
  | .lit d :: r => (match srcs vs r with | some ds => some (d :: ds) | none => none)

/-- what a for walks: items that stand, a list that is read turn by turn -/
inductive Sq where
  | fix (l : List D) | live (i : Nat) (k : Nat) | liveE (t : Option (List D)) (i : Nat) (k : Nat)
def rangeL (lo : Int) : Nat → List D
  | 0 => []
  | n + 1 => .int lo :: rangeL (lo + 1) n
def sqOf (S : Store) : D → Option Sq
  | .tup l => some (.fix l)
  | .str x => some (.fix (x.cps.toList.map fun c => .str ⟨#[c]⟩))
  | .ref i => (match S.get i with | some (.lst _ l) => some (.live i l.length) | some (.dct l) => some (.fix (l.map fun q => keyD q.1)) | _ => none)
  | _ => none
def zipD : List D → List D → List D
  | a :: r, b :: s => .tup [a, b] :: zipD r s
  | _, _ => []
def itemsOf : D → Option (List D)
  | .tup l => some l
  | _ => none
/-- the target's slots -/
def bindT (S : Store) (one : Bool) (tg : List Nat) (σ : Sl) (d : D) : Option Sl := if one then (match tg with | [i] => some (σ.set i (some d)) | _ => none) else (match d with
  | .tup l => setAll σ tg l
  | .ref i => (match S.get i with
    | some (.lst _ l) => setAll σ tg l
    | _ => none)
  | _ => none)
/-- the library's operator -/
def opL : Op → Operator
  | .add => .Add | .sub => .Sub | .mul => .Mult | .fdiv => .FloorDiv | .mod => .Mod | .shl => .LShift | .shr => .RShift | .band => .BitAnd | .bor => .BitOr | .bxor => .BitXor | .pow => .Pow
def opS : Op → Str
  | .add => "__add__" | .sub => "__sub__" | .mul => "__mul__" | .fdiv => "__floordiv__" | .mod => "__mod__" | .shl => "__lshift__" | .shr => "__rshift__" | .band => "__and__" | .bor => "__or__" | .bxor => "__xor__" | .pow => "__pow__"
def opR : Op → Str
  | .add => "__radd__" | .sub => "__rsub__" | .mul => "__rmul__" | .fdiv => "__rfloordiv__" | .mod => "__rmod__" | .shl => "__rlshift__" | .shr => "__rrshift__" | .band => "__rand__" | .bor => "__ror__" | .bxor => "__rxor__" | .pow => "__rpow__"
/-- texts have no such operator -/
def strNo : Op → Bool
  | .sub => true | .fdiv => true | .shl => true | .shr => true | .band => true | .bor => true | .bxor => true | .pow => true | _ => false
/-- ints have such an operator, which knows no instance -/
def intDecl : Op → Bool
  | .add => true | .sub => true | .mul => true | .band => true | .bor => true | .bxor => true | _ => false
def unS : Un → Str
  | .neg => "__neg__" | .inv => "__invert__"
def cutA {α : Type} (xs : List α) (lo hi : Option Int) : List α := (xs.drop (HT.sIx xs.length 0 lo)).take (HT.sIx xs.length xs.length hi - HT.sIx xs.length 0 lo)
/-- the class of an instance -/
def insOf (S : Store) : D → Option Nat
  | .ref i => (match S.get i with
    | some (.ins c _) => some c
    | _ => none)
  | _ => none
def isBt (d : D) : Bool := match d with
  | .int _ => true
  | .str _ => true
  | .bl _ => true
  | .non => true
  | _ => false
/-- a list, a tuple -/
def isSq (S : Store) : D → Bool
  | .tup _ => true
  | .ref i => (match S.get i with
    | some (.lst _ _) => true
    | _ => false)
  | _ => false
def txts : List D → Option (List Str)
  | [] => some []
  | .str b :: r => (txts r).map (b :: ·)
  | _ => none

section
variable (G : Gd) (cf : Nat → List D → Store → Res D)
/-- an operator's second way: the right one's own -/
def evBinR (o : Op) (x y : D) (S : Store) : Res D := match insOf S y with
  | some c => (match (G.ops c).lookup (opR o) with
    | some f => (match x with
      | .str _ => if strNo o && ((G.ops c).lookup (opS o)).isSome then cf f [y, x] S else .stuck
      | .int _ => if intDecl o && ((G.ops c).lookup (opS o)).isSome then cf f [y, x] S else .stuck
      | _ => .stuck)
    | none => .stuck)
  | none => (evOp S o x y).nox
def evBin (o : Op) (x y : D) (S : Store) : Res D := match insOf S x with
  | some c => (match (G.ops c).lookup (opS o) with
    | some f => if isBt y || decide (insOf S y = some c) || isSq S y then cf f [x, y] S else .stuck
    | none => .stuck)
  | none => evBinR G cf o x y S
/-- x op= y -/
def evAug (o : Op) (x y : D) (S : Store) : Res D := match x with
  | .ref _ => (match insOf S x with
    | some _ => evBin G cf o x y S
    | none => .stuck)
  | .int _ => (match y with
    | .int _ => (evOp S o x y).nox
    | _ => .stuck)
  | _ => .stuck
def evUnO (o : Un) (x : D) (S : Store) : Res D := match insOf S x with
  | some c => (match (G.ops c).lookup (unS o) with
    | some f => cf f [x] S
    | none => .stuck)
  | none => (evUn S o x).nox
/-- own ==, !=, in -/
def evCmO (o : Cm) (x y : D) (S : Store) : Res Bool := match o, insOf S x, insOf S y with
  | .eq, some c, _ => (match (G.ops c).lookup ("__eq__" : Str) with
    | some f => if isBt y || decide (insOf S y = some c) || isSq S y then (cf f [x, y] S).bind fun v S1 => (match v with | .bl b => .ok b S1 | _ => .stuck) else .stuck
    | none => .stuck)
  | .ne, some c, _ => (match (G.ops c).lookup ("__eq__" : Str) with
    | some f => if isBt y || decide (insOf S y = some c) || isSq S y then (cf f [x, y] S).bind fun v S1 => (match v with | .bl b => .ok (!b) S1 | _ => .stuck) else .stuck
    | none => .stuck)
  | .in_, _, some c => (match (G.ops c).lookup ("__contains__" : Str) with
    | some f => (cf f [y, x] S).bind fun v S1 => (match v with | .bl b => .ok b S1 | _ => .stuck)
    | none => .stuck)
  | .nin, _, some c => (match (G.ops c).lookup ("__contains__" : Str) with
    | some f => (cf f [y, x] S).bind fun v S1 => (match v with | .bl b => .ok (!b) S1 | _ => .stuck)
    | none => .stuck)
  | o, _, _ => Res.of (evCm G S o x y) S
/-- len, str, repr, bool of an instance -/
def evBlO (b : Bl) (l : List D) (S : Store) : Res D := match l with
  | [x] => (match insOf S x with
    | some c => (match b with
      | .len => (match (G.ops c).lookup ("__len__" : Str) with
        | some f => (cf f [x] S).bind fun v S1 => (match v with | .int i => if 0 ≤ i ∧ i < 2 ^ 62 then .ok (.int i) S1 else .stuck | _ => .stuck)
        | none => .stuck)
      | .bool1 => (match (G.ops c).lookup ("__len__" : Str) with
        | some f => (cf f [x] S).bind fun v S1 => (match v with | .int i => if 0 ≤ i ∧ i < 2 ^ 62 then .ok (.bl (i != 0)) S1 else .stuck | _ => .stuck)
        | none => .stuck)
      | .str1 => (match (G.ops c).lookup ("__str__" : Str) with
        | some f => (cf f [x] S).bind fun v S1 => (match v with | .str z => .ok (.str z) S1 | _ => .stuck)
        | none => .stuck)
      | .repr1 => (match (G.ops c).lookup ("__repr__" : Str) with
        | some f => (cf f [x] S).bind fun v S1 => (match v with | .str z => .ok (.str z) S1 | _ => .stuck)
        | none => .stuck)
      | .isi ts => (evBl G S (.isi ts) l).nox
      | _ => .stuck)
    | none => (evBl G S b l).nox)
  | l => (evBl G S b l).nox
/-- a text turned round -/
def revS (z : Str) : Str := ⟨z.cps.toList.reverse.toArray⟩
/-- o[::-1] -/
def evRev (d : D) (S : Store) : Res D := match d with
  | .ref i => (match S.get i with
    | some (.lst _ l) => .ok (.ref S.n) (S.push (.lst true l.reverse))
    | _ => .stuck)
  | .str z => if z.length ≤ sizeLine then .ok (.str (revS z)) S else .stuck
  | _ => .stuck
def evSlice (d : D) (lo hi : Option Int) (S : Store) : Res D := match d with
  | .ref i => (match S.get i with
    | some (.lst _ l) => .ok (.ref S.n) (S.push (.lst true (cutA l lo hi)))
    | _ => .stuck)
  | .tup l => .ok (.tup (cutA l lo hi)) S
  | .str z => if z.length ≤ sizeLine then .ok (.str (cutS z lo hi)) S else .stuck
  | _ => .stuck
/-- a comprehension's turns over items: one gives the turn's own result: none (left out), some value -/
def compPut (D0 : Nat) (y : D) (S : Store) : Res Unit := match S.get D0 with
  | some (.bld n acc) => if Nat.blt n sizeLine = true then .ok () (S.set D0 (.bld (n + 1) (y :: acc))) else .stuck
  | _ => .stuck
/-- .. of a dict under way -/
def dctPut (D0 : Nat) (y z : D) (S : Store) : Res Unit := match S.get D0, keyOf y with
  | some (.dbl l), some k => if l.length < sizeLine then .ok () (S.set D0 (.dbl (putKD l k z))) else .stuck
  | _, _ => .stuck
/-- the list is whole -/
def compEnd (D0 : Nat) (S : Store) : Res D := match S.get D0 with
  | some (.bld _ acc) => .ok (.ref D0) (S.set D0 (.lst true acc.reverse))
  | _ => .stuck
def walkFix (turn : D → Store → Res Unit) : List D → Store → Res Unit
  | [], S => .ok () S
  | x :: r, S => (turn x S).bind fun _ S1 => walkFix turn r S1
def walkLive (turn : D → Store → Res Unit) (i : Nat) : Nat → Nat → Store → Res Unit
  | 0, j, S => (match S.get i with
    | some (.lst _ l) => if l.length ≤ j then .ok () S else .stuck
    | _ => .stuck)
  | k + 1, j, S => (match S.get i with
    | some (.lst _ l) => (match l[j]? with
      | none => .ok () S
      | some x => (turn x S).bind fun _ S1 => walkLive turn i k (j + 1) S1)
    | _ => .stuck)
/-- the item at place j beside its number, or beside the tuple's item there -/
def rowE (t : Option (List D)) (l : List D) (j : Nat) : Option D := match t with
  | none => l[j]?.map fun x => .tup [.int (j : Nat), x]
  | some ts => (match ts[j]?, l[j]? with
    | some a, some x => some (.tup [a, x])
    | _, _ => none)
/-- .. with the turn's number, or beside a tuple -/
def walkLiveE (turn : D → Store → Res Unit) (t : Option (List D)) (i : Nat) : Nat → Nat → Store → Res Unit
  | 0, j, S => (match S.get i with
    | some (.lst _ l) => if (rowE t l j).isNone then .ok () S else .stuck
    | _ => .stuck)
  | k + 1, j, S => (match S.get i with
    | some (.lst _ l) => (match rowE t l j with
      | none => .ok () S
      | some x => (turn x S).bind fun _ S1 => walkLiveE turn t i k (j + 1) S1)
    | _ => .stuck)
def walkSq (turn : D → Store → Res Unit) (q : Sq) (S : Store) : Res Unit := match q with
  | .fix l => walkFix turn l S
  | .live i k => walkLive turn i k 0 S
  | .liveE t i k => walkLiveE turn t i k 0 S

mutual
/-- no reference within -/
def refless : D → Bool
  | .ref _ => false
  | .tup l => reflessL l
  | _ => true
def reflessL : List D → Bool
  | [] => true
  | d :: ds => refless d && reflessL ds
end
/-- a def's end: where nothing older was written and the result refers to nothing, the store is as it was -/
def leave (S : Store) (d : D) (S1 : Store) : Res D := if (Nat.ble S.n S1.w && refless d) = true then .ok d S else .ok d ⟨S1.n, S1.l, if S1.w < S.w then S1.w else S.w⟩
/-- .. by an exception -/
def leaveX (S : Store) (S1 : Store) : Store := ⟨S1.n, S1.l, if S1.w < S.w then S1.w else S.w⟩
/-- how many -/
def Cs.len : Cs → Nat
  | .nil => 0
  | .cons _ r => r.len + 1
def Cs.app : Cs → Cs → Cs
  | .nil, b => b
  | .cons c r, b => .cons c (r.app b)
/-- a value's text in an f-string -/
def fmtV : D → Option Str
  | .str y => if y.length ≤ sizeLine then some y else none
  | .int i => if i.natAbs.log2 < 1920 then some (toString i) else none
  | _ => none
def fmtR : D → Option Str
  | .str y => if (reprText y).length ≤ sizeLine then some (reprText y) else none
  | .int i => if i.natAbs.log2 < 1920 then some (toString i) else none
  | _ => none
def addS (acc y : Str) : Option Str := if (acc ++ y).length ≤ sizeLine then some (acc ++ y) else none
def exAny (G : Gd) (c : Nat) : List Nat → Option Bool
  | [] => some false
  | t :: ts => (match G.exs c t with
    | some true => some true
    | some false => exAny G c ts
    | none => none)
/-- the value that an exception keeps -/
def exVal (G : Gd) (S : Store) : D → Option D
  | .ref i => (match S.get i with
    | some (.exo c (some d)) => if (G.exs c c).isSome = true then (match S.get d with
      | some (.xd _ fs) => fs.lookup ("value" : Str)
      | _ => none) else none
    | _ => none)
  | _ => none
/-- an exception's class -/
def exCls (S : Store) : D → Option Nat
  | .ref i => (match S.get i with
    | some (.exo c none) => some c
    | some (.exo c (some d)) => (match S.get d with
      | some (.xd _ _) => some c
      | _ => none)
    | _ => none)
  | _ => none
mutual
def evC : Gd → C → Sl → Store → Res D
  | G, .lit d, _, S => .ok d S
  | G, .var i, σ, S => (match σ[i]? with | some (some d) => .ok d S | _ => .stuck)
  | G, .glb i, _, S => Res.of (G.gv i) S
  | G, .op o a b, σ, S => (evC G a σ S).bind fun x S1 => (evC G b σ S1).bind fun y S2 => evBin G cf o x y S2
  | G, .un o a, σ, S => (evC G a σ S).bind fun x S1 => evUnO G cf o x S1
  | G, .cmp o a b, σ, S => (evC G a σ S).bind fun x S1 => (evC G b σ S1).bind fun y S2 => (evCmO G cf o x y S2).bind fun k S3 => .ok (.bl k) S3
  | G, .cmp2 o p a b c, σ, S => (evC G a σ S).bind fun x S1 => (evC G b σ S1).bind fun y S2 => (Res.of (evCm G S2 o x y) S2).bind fun k S3 =>
    if k then (evC G c σ S3).bind fun z S4 => (Res.of (evCm G S4 p y z) S4).bind fun k S5 => .ok (.bl k) S5 else .ok (.bl false) S3
  | G, .and a b, σ, S => (evC G a σ S).bind fun x S1 => match x with
    | .bl true => evC G b σ S1
    | .bl false => .ok (.bl false) S1
    | _ => .stuck
  | G, .or a b, σ, S => (evC G a σ S).bind fun x S1 => match x with
    | .bl true => .ok (.bl true) S1
    | .bl false => evC G b σ S1
    | _ => .stuck
  | G, .not a, σ, S => (evC G a σ S).bind fun x S1 => (Res.of (truth S1 x) S1).bind fun b S2 => .ok (.bl (!b)) S2
  | G, .ite t a b, σ, S => (evC G t σ S).bind fun x S1 => (Res.of (truth S1 x) S1).bind fun k S2 => if k then evC G a σ S2 else evC G b σ S2
  | G, .tup l, σ, S => (evCs G l σ S).bind fun ds S1 => if ds.length ≤ sizeLine then .ok (.tup ds) S1 else .stuck
  | G, .lst l, σ, S => (evCs G l σ S).bind fun ds S1 => if ds.length ≤ sizeLine then .ok (.ref S1.n) (S1.push (.lst true ds)) else .stuck
  | G, .dsp ks l, σ, S => (evCs G l σ (S.push (.dbl []))).bind fun ds S1 => if isE0 (S1.get S.n) then (Res.of (pairsD ks ds) S1).bind fun ps S2 => if ps.length ≤ 15 then .ok (.ref S.n) (S2.set S.n (.dct ps)) else .stuck else .stuck
  | G, .call f sh l, σ, S => (evCs G l σ S).bind fun ds S1 => (Res.of (srcs ds sh) S1).bind fun as S2 => cf f as S2
  | G, .stc f sh l, σ, S => (evCs G l σ S).bind fun ds S1 => (Res.of (srcs ds sh) S1).bind fun as S2 => cf f as S2
  | G, .mk c f sh l, σ, S => (evCs G l σ S).bind fun ds S1 => (Res.of (srcs (.ref S1.n :: ds) sh) S1).bind fun as S2 => (cf f as (S2.push (.ins c []))).bind fun v S3 =>
    if isNon v then .ok (.ref S1.n) S3 else .stuck
  | G, .meth o m l, σ, S => (evC G o σ S).bind fun x S1 => match x with
    | .ref i => (match S1.get i with
      | some (.ins c fs) => if (fs.lookup m).isNone then (Res.of ((G.meths c).lookup m) S1).bind fun f S2 => (evCs G l σ S2).bind fun ds S3 => cf f (.ref i :: ds) S3 else .stuck
      | _ => .stuck)
    | _ => .stuck
  | G, .blt b l, σ, S => (evCs G l σ S).bind fun ds S1 => (evBlO G cf b ds S1).nox
  | G, .app o x, σ, S => (evC G o σ S).bind fun a S1 => match a with
    | .ref i => (match S1.get i with
      | some (.lst _ _) => (evC G x σ S1).bind fun d S2 => match S2.get i with
        | some (.lst true l) => if l.length < sizeLine then .ok .non (S2.set i (.lst true (l ++ [d]))) else .stuck
        | _ => .stuck
      | _ => .stuck)
    | _ => .stuck
  | G, .dget o x, σ, S => (evC G o σ S).bind fun a S1 => match a with
    | .kd i => if (G.kdt i).isSome then (evC G x σ S1).bind fun d S2 => match d with
      | .str z => Res.of ((G.kdt i).map fun t => (t.lookup z).getD .non) S2
      | _ => .stuck else .stuck
    | _ => .stuck
  | G, .join o x, σ, S => (evC G o σ S).bind fun a S1 => match a with
    | .str z => (evC G x σ S1).bind fun d S2 => match d with
      | .ref i => (match S2.get i with
        | some (.lst _ l) => (Res.of (txts l) S2).bind fun ys S3 => if (ys.map (·.length)).sum + ys.length * z.length ≤ 16777216 then .ok (.str (Txt.join z ys)) S3 else .stuck
        | _ => .stuck)
      | _ => .stuck
    | _ => .stuck
  | G, .dgetc o x, σ, S => (evC G o σ S).bind fun a S1 => match a with
    | .ref i => (match S1.get i with
      | some (.dct l) => (evC G x σ S1).bind fun d S2 => match keyOf d with
        | some k => .ok (((l.find? fun p => decide (p.1 = k)).map (·.2)).getD .non) S2
        | none => .stuck
      | _ => .stuck)
    | _ => .stuck
  | G, .dget2 o x y, σ, S => (evC G o σ S).bind fun a S1 => match a with
    | .ref i => (match S1.get i with
      | some (.dct l) => (evC G x σ S1).bind fun d S2 => (evC G y σ S2).bind fun e S3 => match keyOf d with
        | some k => .ok (((l.find? fun p => decide (p.1 = k)).map (·.2)).getD e) S3
        | none => .stuck
      | _ => .stuck)
    | _ => .stuck
  | G, .stk, σ, S => .stuck
  | G, .lens c, σ, S => (evC G c σ S).bind fun d S1 => match (match d with | .tup l => some l | .ref i => (match S1.get i with | some (.lst _ l) => some l | _ => none) | _ => none) with
    | some l => (match txts' l with
      | some xs => if xs.length ≤ 1 then .ok (.int xs.length) S1 else .stuck
      | none => .stuck)
    | none => .stuck
  | G, .ssort c, σ, S => (evC G c σ S).bind fun d S1 => match d with
    | .ref i => (match S1.get i with
      | some (.lst _ []) => .ok (.ref S1.n) (S1.push (.lst true []))
      | _ => .stuck)
    | _ => .stuck
  | G, .dcomp it tg one own ifs kx vx, σ, S => (evIt G it σ S).bind fun q S1 =>
    (walkSq (fun x S2 => (Res.of (bindT S2 one tg (wipeD σ own) x) S2).bind fun σ2 S3 => (evIfs G ifs σ2 S3).bind fun k S4 => if k then (evC G kx σ2 S4).bind fun y S5 => (evC G vx σ2 S5).bind fun z S6 => dctPut S1.n y z S6 else .ok () S4) q (S1.push (.dbl []))).nox.bind fun _ S2 => match S2.get S1.n with
      | some (.dbl l) => .ok (.ref S1.n) (S2.set S1.n (.dct l))
      | _ => .stuck
  | G, .split o y, σ, S => (evC G o σ S).bind fun a S1 => match a with
    | .str x => if (y.length == 0) = false ∧ x.length + 2 ≤ sizeLine then .ok (.ref S1.n) (S1.push (.lst true ((Txt.split x y).map .str))) else .stuck
    | _ => .stuck
  | G, .repl o y z, σ, S => (evC G o σ S).bind fun a S1 => match a with
    | .str x => if x.length + (x.length + 1) * z.length ≤ 16777216 then .ok (.str (Txt.replace x y z)) S1 else .stuck
    | _ => .stuck
  | G, .attr o f, σ, S => (evC G o σ S).bind fun x S1 => match x with
    | .ref i => (match S1.get i with
      | some (.ins c fs) => (match (G.props c).lookup f with
        | some g => (cf g [.ref i] S1).nox
        | none => if (G.flds c).contains f then Res.of (fs.lookup f) S1 else .stuck)
      | _ => .stuck)
    | _ => .stuck
  | G, .sub o i, σ, S => (evC G o σ S).bind fun x S1 => (evC G i σ S1).bind fun y S2 => Res.of (evSub S2 G x y) S2
  | G, .slice o lo hi, σ, S => (evC G o σ S).bind fun x S1 => (evO G lo σ S1).bind fun i S2 => (evO G hi σ S2).bind fun j S3 => evSlice x i j S3
  | G, .xval, _, S => (match G.exi with
    | some (d, _) => (match S.get d with
      | some (.xd _ fs) => Res.of (fs.lookup ("value" : Str)) S
      | _ => .stuck)
    | none => .stuck)
  | G, .xisi ts, _, S => (match G.exi with
    | some (d, c) => (match S.get d with
      | some (.xd _ _) => Res.of ((exAny G c ts).map .bl) S
      | _ => .stuck)
    | none => .stuck)
  | G, .rev o, σ, S => (evC G o σ S).bind fun x S1 => evRev x S1
  | G, .mkx c x, σ, S => (evC G x σ S).bind fun d S1 => .ok (.ref (S1.n + 1)) ((S1.push (.xd c [(("value" : Str), d)])).push (.exo c (some S1.n)))
  | G, .mkx0 c, _, S => .ok (.ref S.n) (S.push (.exo c none))
  | G, .xv o, σ, S => (evC G o σ S).bind fun x S1 => Res.of (exVal G S1 x) S1
  | G, .xis o t, σ, S => (evC G o σ S).bind fun x S1 => Res.of ((exCls S1 x).bind fun c => (G.exs c t).map .bl) S1
  | G, .fstr l, σ, S => (evF G l Str.empty σ S).bind fun z S1 => .ok (.str z) S1
  | G, .scope c, σ, S => (evC G c σ ⟨S.n, S.l, S.n⟩).nox.bind fun d S1 => leave S d S1
  | G, .comp it tg one own ifs elt, σ, S => (evIt G it σ S).bind fun q S1 =>
    (walkSq (fun x S2 => (Res.of (bindT S2 one tg (wipeD σ own) x) S2).bind fun σ2 S3 => (evIfs G ifs σ2 S3).bind fun k S4 => if k then (evC G elt σ2 S4).bind fun y S5 => compPut S1.n y S5 else .ok () S4) q (S1.push (.bld 0 []))).nox.bind fun _ S2 => compEnd S1.n S2
  | G, .comp2 it tg one it2 tg2 one2 own own2 elt, σ, S => (evIt G it σ S).bind fun q S1 =>
    (walkSq (fun x S2 => (Res.of (bindT S2 one tg (wipeD σ own) x) S2).bind fun σ2 S3 => (evIt G it2 σ2 S3).bind fun q2 S4 =>
      walkSq (fun y S5 => (Res.of (bindT S5 one2 tg2 (wipeD σ2 own2) y) S5).bind fun σ3 S6 => (evC G elt σ3 S6).bind fun z S7 => compPut S1.n z S7) q2 S4) q (S1.push (.bld 0 []))).nox.bind fun _ S2 => compEnd S1.n S2
def evCs : Gd → Cs → Sl → Store → Res (List D)
  | G, .nil, _, S => .ok [] S
  | G, .cons c r, σ, S => (evC G c σ S).bind fun d S1 => (evCs G r σ S1).bind fun ds S2 => .ok (d :: ds) S2
def evO : Gd → Oc → Sl → Store → Res (Option Int)
  | G, .no, _, S => .ok none S
  | G, .so c, σ, S => (evC G c σ S).bind fun d S1 => match d with
    | .int i => .ok (some i) S1
    | _ => .stuck
def evF : Gd → Fs → Str → Sl → Store → Res Str
  | G, .nil, acc, _, S => .ok acc S
  | G, .lit x r, acc, σ, S => (Res.of (addS acc x) S).bind fun z S1 => evF G r z σ S1
  | G, .val c r, acc, σ, S => (evC G c σ S).bind fun d S1 => (Res.of ((fmtV d).bind (addS acc)) S1).bind fun z S2 => evF G r z σ S2
  | G, .rep c r, acc, σ, S => (evC G c σ S).bind fun d S1 => (Res.of ((fmtR d).bind (addS acc)) S1).bind fun z S2 => evF G r z σ S2
def evIfs : Gd → Cs → Sl → Store → Res Bool
  | G, .nil, _, S => .ok true S
  | G, .cons c r, σ, S => (evC G c σ S).bind fun d S1 => (Res.of (truth S1 d) S1).bind fun k S2 => if k then evIfs G r σ S2 else .ok false S2
def evIt : Gd → Iter → Sl → Store → Res Sq
  | G, .seq c, σ, S => (evC G c σ S).bind fun d S1 => Res.of (sqOf S1 d) S1
  | G, .range1 a, σ, S => (evC G a σ S).bind fun d S1 => match d with
    | .int j => if -(2 ^ 62) ≤ j ∧ j < 2 ^ 62 then .ok (.fix (rangeL 0 j.toNat)) S1 else .stuck
    | _ => .stuck
  | G, .range2 a b, σ, S => (evC G a σ S).bind fun d S1 => (evC G b σ S1).bind fun e S2 => match d, e with
    | .int i, .int j => if -(2 ^ 62) ≤ i ∧ i < 2 ^ 62 ∧ -(2 ^ 62) ≤ j ∧ j < 2 ^ 62 then .ok (.fix (rangeL i (j - i).toNat)) S2 else .stuck
    | _, _ => .stuck
  | G, .zip a b, σ, S => (evC G a σ S).bind fun d S1 => (evC G b σ S1).bind fun e S2 => match itemsOf d, itemsOf e with
    | some l, some m => .ok (.fix (zipD l m)) S2
    | some l, none => (match e with
      | .ref i => (match S2.get i with | some (.lst _ m) => .ok (.liveE (some l) i m.length) S2 | _ => .stuck)
      | _ => .stuck)
    | _, _ => .stuck
  | G, .enum a, σ, S => (evC G a σ S).bind fun d S1 => match d with
    | .ref i => (match S1.get i with | some (.lst _ l) => .ok (.liveE none i l.length) S1 | _ => .stuck)
    | _ => .stuck
end

/-- a statement's end -/
inductive Fl where
  | nx (σ : Sl) | rt (d : D) | bk (σ : Sl) | ct (σ : Sl) | xc (c d : Nat) (σ : Sl)
/-- an expression within a statement: what it raises leaves the statement -/
def Res.bx {α : Type} (r : Res α) (σ : Sl) (f : α → Store → Res Fl) : Res Fl := match r with
  | .ok a S => f a S
  | .ex c d S => .ok (.xc c d σ) S
  | .stuck => .stuck
def loopFix (body : D → Sl → Store → Res Fl) : List D → Sl → Store → Res Fl
  | [], σ, S => .ok (.nx σ) S
  | x :: r, σ, S => (body x σ S).bind fun f S1 => match f with
    | .nx σ1 => loopFix body r σ1 S1
    | .ct σ1 => loopFix body r σ1 S1
    | .bk σ1 => .ok (.nx σ1) S1
    | .rt d => .ok (.rt d) S1
    | .xc c d σ1 => .ok (.xc c d σ1) S1
def loopLive (body : D → Sl → Store → Res Fl) (i : Nat) : Nat → Nat → Sl → Store → Res Fl
  | 0, j, σ, S => (match S.get i with
    | some (.lst _ l) => if l.length ≤ j then .ok (.nx σ) S else .stuck
    | _ => .stuck)
  | k + 1, j, σ, S => (match S.get i with
    | some (.lst _ l) => (match l[j]? with
      | none => .ok (.nx σ) S
      | some x => (body x σ S).bind fun f S1 => match f with
        | .nx σ1 => loopLive body i k (j + 1) σ1 S1
        | .ct σ1 => loopLive body i k (j + 1) σ1 S1
        | .bk σ1 => .ok (.nx σ1) S1
        | .rt d => .ok (.rt d) S1
        | .xc c d σ1 => .ok (.xc c d σ1) S1)
    | _ => .stuck)
def loopLiveE (body : D → Sl → Store → Res Fl) (t : Option (List D)) (i : Nat) : Nat → Nat → Sl → Store → Res Fl
  | 0, j, σ, S => (match S.get i with
    | some (.lst _ l) => if (rowE t l j).isNone then .ok (.nx σ) S else .stuck
    | _ => .stuck)
  | k + 1, j, σ, S => (match S.get i with
    | some (.lst _ l) => (match rowE t l j with
      | none => .ok (.nx σ) S
      | some x => (body x σ S).bind fun f S1 => match f with
        | .nx σ1 => loopLiveE body t i k (j + 1) σ1 S1
        | .ct σ1 => loopLiveE body t i k (j + 1) σ1 S1
        | .bk σ1 => .ok (.nx σ1) S1
        | .rt d => .ok (.rt d) S1
        | .xc c d σ1 => .ok (.xc c d σ1) S1)
    | _ => .stuck)
def loopSq (body : D → Sl → Store → Res Fl) (q : Sq) (σ : Sl) (S : Store) : Res Fl := match q with
  | .fix l => loopFix body l σ S
  | .live i k => loopLive body i k 0 σ S
  | .liveE t i k => loopLiveE body t i k 0 σ S
/-- behind an except suite its name is gone -/
def gone (i : Nat) : Fl → Fl
  | .nx σ => .nx (σ.set i none)
  | .bk σ => .bk (σ.set i none)
  | .ct σ => .ct (σ.set i none)
  | f => f

mutual
def exS : Gd → Stm → Sl → Store → Res Fl
  | G, .asg i c, σ, S => (evC cf G c σ S).bx σ fun d S1 => .ok (.nx (σ.set i (some d))) S1
  | G, .asgT is c, σ, S => (evC cf G c σ S).bx σ fun d S1 => (Res.of (bindT S1 false is σ d) S1).bind fun σ1 S2 => .ok (.nx σ1) S2
  | G, .setI o i v, σ, S => (evC cf G v σ S).bx σ fun x S1 => (evC cf G o σ S1).bx σ fun a S2 => (evC cf G i σ S2).bx σ fun y S3 => match a, y with
    | .ref p, .int k => (match S3.get p with
      | some (.lst true l) => (match ixN l.length k with
        | some j => .ok (.nx σ) (S3.set p (.lst true (l.set j x)))
        | none => .stuck)
      | _ => .stuck)
    | _, _ => .stuck
  | G, .setF o f v, σ, S => (evC cf G v σ S).bx σ fun x S1 => (evC cf G o σ S1).bx σ fun a S2 => match a with
    | .ref p => (match S2.get p with
      | some (.ins c fs) => if (G.flds c).contains f = true ∧ fs.length < 1000 then .ok (.nx σ) (S2.set p (.ins c (putD f x fs))) else .stuck
      | _ => .stuck)
    | _ => .stuck
  | G, .aug i o c, σ, S => (match σ[i]? with
    | some (some x) => (evC cf G c σ S).bx σ fun y S1 => (evAug G cf o x y S1).bx σ fun z S2 => .ok (.nx (σ.set i (some z))) S2
    | _ => .stuck)
  | G, .expr c, σ, S => (evC cf G c σ S).bx σ fun _ S1 => .ok (.nx σ) S1
  | G, .ifs t a b, σ, S => (evC cf G t σ S).bx σ fun x S1 => (Res.of (truth S1 x) S1).bind fun k S2 => if k then exSs G a σ S2 else exSs G b σ S2
  | G, .for1 it tg one b, σ, S => (evIt cf G it σ S).bx σ fun q S1 => loopSq (fun x σ1 S2 => (Res.of (bindT S2 one tg σ1 x) S2).bind fun σ2 S3 => exSs G b σ2 S3) q σ S1
  | G, .ret c, σ, S => (evC cf G c σ S).bx σ fun d S1 => .ok (.rt d) S1
  | G, .retN, σ, S => .ok (.rt .non) S
  | G, .pass, σ, S => .ok (.nx σ) S
  | G, .brk, σ, S => .ok (.bk σ) S
  | G, .cont, σ, S => .ok (.ct σ) S
  | G, .never, _, _ => .stuck
  | G, .mat c ms, σ, S => (evC cf G c σ S).bx σ fun d S1 => match d with
    | .str x => exMs x G ms σ S1
    | _ => .stuck
  | G, .rais c x, σ, S => (evC cf G x σ S).bx σ fun d S1 => .ok (.xc c S1.n σ) (S1.push (.xd c [(("value" : Str), d)]))
  | G, .tryX b hs, σ, S => (exSs G b σ S).bind fun f S1 => match f with
    | .xc c d σ1 => exHs c d G hs σ1 S1
    | f => .ok f S1
def exSs : Gd → Ss → Sl → Store → Res Fl
  | G, .nil, σ, S => .ok (.nx σ) S
  | G, .cons s r, σ, S => (exS G s σ S).bind fun f S1 => match f with
    | .nx σ1 => exSs G r σ1 S1
    | f => .ok f S1
def exMs (x : Str) : Gd → Ms → Sl → Store → Res Fl
  | G, .nil, σ, S => .ok (.nx σ) S
  | G, .cons y b r, σ, S => if y = x then exSs G b σ S else exMs x G r σ S
def exHs (c d : Nat) : Gd → Hs → Sl → Store → Res Fl
  | G, .nil, σ, S => .ok (.xc c d σ) S
  | G, .cons e i b r, σ, S => (match G.exs c e with
    | some true => if (Nat.blt d S.n && Nat.blt i σ.length) = true then (exSs { G with exi := some (d, c) } b (σ.set i none) S).bind fun f S1 => (match f with
      | .xc _ _ _ => .stuck
      | f => .ok (gone i f) S1) else .stuck
    | some false => exHs c d G r σ S
    | none => .stuck)
  | G, .consN e b r, σ, S => (match G.exs c e with
    | some true => if Nat.blt d S.n = true then (exSs { G with exi := some (d, c) } b σ S).bind fun f S1 => (match f with
      | .xc _ _ _ => .stuck
      | f => .ok f S1) else .stuck
    | some false => exHs c d G r σ S
    | none => .stuck)
end
end
/-- a def: how many slots, its code -/
structure Fn where
  ar : Nat
  k : Nat
  body : Ss
def start (k : Nat) (as : List D) : Sl := as.map some ++ List.replicate (k - as.length) none
def callD (G : Gd) (F : Nat → Option Fn) : Nat → Nat → List D → Store → Res D
  | 0, _, _, _ => .stuck
  | l + 1, f, as, S => match F f with
    | none => .stuck
    | some fn => if as.length = fn.ar then (exSs (callD G F l) G fn.body (start fn.k as) ⟨S.n, S.l, S.n⟩).bind fun r S1 => match r with
      | .rt d => leave S d S1
      | .nx _ => leave S .non S1
      | .xc c d _ => .ex c d (leaveX S S1)
      | _ => .stuck else .stuck
end QD

/-! QD1: plain data beside the abstract heap; what it means that a code simulates an expression. -/
namespace QD
open PySem PySem.Spec PyProof.Rows L2

/-- where the top's dicts and classes stand -/
structure Pl where
  kda : Nat → Addr
  cla : Nat → Addr
  /-- tables of code objects, with the names of the lambdas in them -/
  tbs : List (Addr × Str) := []
section
variable (K : PySem.W.Frag) (L : Pl) (H : Hp) (ρ : Nat → Addr) (n : Nat)
mutual
def Rp : D → V → Prop
  | .non, v => v = .non
  | .bl b, v => v = .bl b
  | .int i, v => v = .int i
  | .str x, v => v = .str x
  | .tup l, v => ∃ a vs, v = .ref a ∧ SqT K H a vs ∧ RpL l vs
  | .ref i, v => i < n ∧ v = .ref (ρ i)
  | .kd i, v => v = .ref (L.kda i)
def RpL : List D → List V → Prop
  | [], vs => vs = []
  | d :: ds, vs => ∃ v r, vs = v :: r ∧ Rp d v ∧ RpL ds r
end
end
section
variable {K : PySem.W.Frag} {L : Pl} {H H' : Hp} {ρ ρ' : Nat → Addr} {n n' : Nat}
theorem RpL.length : ∀ {ds : List D} {vs : List V}, RpL K L H ρ n ds vs → ds.length = vs.length
  | [], vs, h => by cases (show vs = [] from h); rfl
  | d :: ds, vs, h => by
    obtain ⟨v, r, rfl, _, h2⟩ := (show ∃ v r, vs = v :: r ∧ Rp K L H ρ n d v ∧ RpL K L H ρ n ds r from h)
    rw [List.length_cons, List.length_cons, RpL.length h2]
theorem RpL.nil : RpL K L H ρ n [] [] := rfl
theorem RpL.cons {d : D} {ds : List D} {v : V} {vs : List V} (h : Rp K L H ρ n d v) (t : RpL K L H ρ n ds vs) : RpL K L H ρ n (d :: ds) (v :: vs) := ⟨v, vs, rfl, h, t⟩
theorem RpL.append : ∀ {ds es : List D} {vs us : List V}, RpL K L H ρ n ds vs → RpL K L H ρ n es us → RpL K L H ρ n (ds ++ es) (vs ++ us)
  | [], es, vs, us, h, t => by cases (show vs = [] from h); exact t
  | d :: ds, es, vs, us, h, t => by
    obtain ⟨v, r, rfl, h1, h2⟩ := (show ∃ v r, vs = v :: r ∧ Rp K L H ρ n d v ∧ RpL K L H ρ n ds r from h)
    exact RpL.cons h1 (RpL.append h2 t)
theorem RpL.get : ∀ {ds : List D} {vs : List V} {i : Nat} {d : D}, RpL K L H ρ n ds vs → ds[i]? = some d → ∃ v, vs[i]? = some v ∧ Rp K L H ρ n d v
  | [], _, _, _, _, e => by simp at e
  | d :: ds, vs, i, x, h, e => by
    obtain ⟨v, r, rfl, h1, h2⟩ := (show ∃ v r, vs = v :: r ∧ Rp K L H ρ n d v ∧ RpL K L H ρ n ds r from h)
    cases i with
    | zero => simp at e; subst e; exact ⟨v, rfl, h1⟩
    | succ i =>
      obtain ⟨u, e1, e2⟩ := RpL.get (i := i) (d := x) h2 (by simpa using e)
      exact ⟨u, by simpa using e1, e2⟩
theorem RpL.get' : ∀ {ds : List D} {vs : List V} {i : Nat} {v : V}, RpL K L H ρ n ds vs → vs[i]? = some v → ∃ d, ds[i]? = some d ∧ Rp K L H ρ n d v := fun {ds vs i v} h e => by
  have hl := h.length
  have hi := (List.getElem?_eq_some_iff.mp e).1
  have e2 : ds[i]? = some ds[i] := List.getElem?_eq_getElem (by omega)
  obtain ⟨u, e3, r⟩ := h.get e2
  rw [e] at e3
  cases e3
  exact ⟨_, e2, r⟩
theorem RpL.set : ∀ {ds : List D} {vs : List V} {d : D} {v : V} (i : Nat), RpL K L H ρ n ds vs → Rp K L H ρ n d v → RpL K L H ρ n (ds.set i d) (vs.set i v)
  | [], vs, _, _, _, h, _ => by cases (show vs = [] from h); exact RpL.nil
  | x :: ds, vs, d, v, i, h, r => by
    obtain ⟨w, t, rfl, h1, h2⟩ := (show ∃ v r, vs = v :: r ∧ Rp K L H ρ n x v ∧ RpL K L H ρ n ds r from h)
    cases i with
    | zero => exact RpL.cons r h2
    | succ i => exact RpL.cons h1 (RpL.set i h2 r)
theorem RpL.replicate {ds : List D} {vs : List V} (h : RpL K L H ρ n ds vs) : ∀ k : Nat, RpL K L H ρ n (List.replicate k ds).flatten (List.replicate k vs).flatten
  | 0 => RpL.nil
  | k + 1 => by
    rw [List.replicate_succ, List.replicate_succ, List.flatten_cons, List.flatten_cons]
    exact h.append (RpL.replicate h k)
theorem RpL.of_forall : ∀ {α : Type} {l : List α} {f : α → D} {g : α → V}, (∀ a ∈ l, Rp K L H ρ n (f a) (g a)) → RpL K L H ρ n (l.map f) (l.map g)
  | _, [], _, _, _ => RpL.nil
  | _, a :: l, f, g, h => RpL.cons (h a (List.mem_cons_self ..)) (RpL.of_forall fun b hb => h b (List.mem_cons_of_mem _ hb))

/-- what never changes: tuples, what is locked -/
def Fixed : HO → Prop
  | .tup _ => True
  | .frz _ _ => True
  | _ => False
def TM (H H' : Hp) : Prop := ∀ a o, H a = some o → Fixed o → H' a = some o
theorem TM.refl (H : Hp) : TM H H := fun _ _ h _ => h
theorem TM.trans {H H1 H2 : Hp} (a : TM H H1) (b : TM H1 H2) : TM H H2 := fun x o h f => b x o (a x o h f) f
theorem TM.new {H : Hp} {p : Addr} {o : HO} (h : H p = none) : TM H (upd H p o) := fun a u e _ => by
  rw [upd_ne (ne_of_none e h)]
  exact e
theorem TM.wr {H : Hp} {p : Addr} {o u : HO} (h : H p = some u) (hf : ¬ Fixed u) : TM H (upd H p o) := fun a x e f => by
  have : a ≠ p := fun z => by
    rw [z, h] at e
    cases e
    exact hf f
  rw [upd_ne this]
  exact e
theorem TM.sqT {a : Addr} {xs : List V} (m : TM H H') (h : SqT K H a xs) : SqT K H' a xs := by
  rcases h with (h | ⟨o, h⟩) | h
  · exact .inl (.inl (m _ _ h True.intro))
  · exact .inl (.inr ⟨o, m _ _ h True.intro⟩)
  · exact .inr h
def Agree (ρ ρ' : Nat → Addr) (n : Nat) : Prop := ∀ i, i < n → ρ' i = ρ i
theorem Agree.refl (ρ : Nat → Addr) (n : Nat) : Agree ρ ρ n := fun _ _ => rfl
theorem Agree.trans {ρ ρ1 ρ2 : Nat → Addr} {n m : Nat} (a : Agree ρ ρ1 n) (h : n ≤ m) (b : Agree ρ1 ρ2 m) : Agree ρ ρ2 n := fun i hi => (b i (Nat.lt_of_lt_of_le hi h)).trans (a i hi)
mutual
theorem Rp.mono (m : TM H H') (a : Agree ρ ρ' n) (hn : n ≤ n') : ∀ {d : D} {v : V}, Rp K L H ρ n d v → Rp K L H' ρ' n' d v
  | .non, _, h => h
  | .bl _, _, h => h
  | .int _, _, h => h
  | .str _, _, h => h
  | .tup l, v, h => by
    obtain ⟨p, vs, e, s, r⟩ := (show ∃ a vs, v = .ref a ∧ SqT K H a vs ∧ RpL K L H ρ n l vs from h)
    exact ⟨p, vs, e, m.sqT s, RpL.mono m a hn r⟩
  | .ref i, v, h => by
    obtain ⟨h1, h2⟩ := (show i < n ∧ v = .ref (ρ i) from h)
    exact ⟨Nat.lt_of_lt_of_le h1 hn, by rw [a i h1]; exact h2⟩
  | .kd _, _, h => h
theorem RpL.mono (m : TM H H') (a : Agree ρ ρ' n) (hn : n ≤ n') : ∀ {ds : List D} {vs : List V}, RpL K L H ρ n ds vs → RpL K L H' ρ' n' ds vs
  | [], _, h => h
  | d :: ds, vs, h => by
    obtain ⟨v, r, e, h1, h2⟩ := (show ∃ v r, vs = v :: r ∧ Rp K L H ρ n d v ∧ RpL K L H ρ n ds r from h)
    exact ⟨v, r, e, Rp.mono m a hn h1, RpL.mono m a hn h2⟩
end
end

/-- the attributes -/
def RpF (K : PySem.W.Frag) (L : Pl) (H : Hp) (ρ : Nat → Addr) (n : Nat) : List (Str × D) → List (Str × V) → Prop
  | [], vs => vs = []
  | p :: ps, vs => ∃ v r, vs = (p.1, v) :: r ∧ Rp K L H ρ n p.2 v ∧ RpF K L H ρ n ps r
section
variable {K : PySem.W.Frag} {L : Pl} {H H' : Hp} {ρ ρ' : Nat → Addr} {n n' : Nat}
theorem RpF.length : ∀ {ds : List (Str × D)} {vs : List (Str × V)}, RpF K L H ρ n ds vs → ds.length = vs.length
  | [], vs, h => by cases (show vs = [] from h); rfl
  | d :: ds, vs, h => by
    obtain ⟨v, r, rfl, _, h2⟩ := h
    rw [List.length_cons, List.length_cons, RpF.length h2]
theorem RpF.mono (m : TM H H') (a : Agree ρ ρ' n) (hn : n ≤ n') : ∀ {ds : List (Str × D)} {vs : List (Str × V)}, RpF K L H ρ n ds vs → RpF K L H' ρ' n' ds vs
  | [], _, h => h
  | d :: ds, vs, h => by
    obtain ⟨v, r, e, h1, h2⟩ := h
    exact ⟨v, r, e, h1.mono m a hn, RpF.mono m a hn h2⟩
theorem RpF.look : ∀ {ds : List (Str × D)} {vs : List (Str × V)} (f : Str), RpF K L H ρ n ds vs → (ds.lookup f = none ∧ vs.lookup f = none) ∨ ∃ d v, ds.lookup f = some d ∧ vs.lookup f = some v ∧ Rp K L H ρ n d v
  | [], vs, f, h => by cases (show vs = [] from h); exact .inl ⟨rfl, rfl⟩
  | (g, d) :: ds, vs, f, h => by
    obtain ⟨v, r, rfl, h1, h2⟩ := h
    cases e : (f == g) with
    | true => exact .inr ⟨d, v, by simp only [List.lookup, e], by simp only [List.lookup, e], h1⟩
    | false =>
      have l1 : ((g, d) :: ds).lookup f = ds.lookup f := by simp only [List.lookup, e]
      have l2 : ((g, v) :: r).lookup f = r.lookup f := by simp only [List.lookup, e]
      rw [l1, l2]
      exact RpF.look f h2
theorem RpF.put : ∀ {ds : List (Str × D)} {vs : List (Str × V)} {d : D} {v : V} (f : Str), RpF K L H ρ n ds vs → Rp K L H ρ n d v → RpF K L H ρ n (putD f d ds) (putF f v vs)
  | [], vs, d, v, f, h, r => by cases (show vs = [] from h); exact ⟨v, [], rfl, r, rfl⟩
  | (g, x) :: ds, vs, d, v, f, h, r => by
    obtain ⟨w, t, rfl, h1, h2⟩ := h
    show RpF K L H ρ n (if g = f then (g, d) :: ds else (g, x) :: putD f d ds) (if g = f then (g, v) :: t else (g, w) :: putF f v t)
    by_cases e : g = f
    · rw [if_pos e, if_pos e]
      exact ⟨v, t, rfl, r, h2⟩
    · rw [if_neg e, if_neg e]
      exact ⟨w, _, rfl, h1, RpF.put f h2 r⟩
end

/-- a dict's pairs -/
def RpK (K : PySem.W.Frag) (L : Pl) (H : Hp) (ρ : Nat → Addr) (n : Nat) : List (Key × D) → List (Key × V) → Prop
  | [], vs => vs = []
  | p :: ps, vs => ∃ v r, vs = (p.1, v) :: r ∧ Rp K L H ρ n p.2 v ∧ RpK K L H ρ n ps r
section
variable {K : PySem.W.Frag} {L : Pl} {H H' : Hp} {ρ ρ' : Nat → Addr} {n n' : Nat}
theorem RpK.mono (m : TM H H') (a : Agree ρ ρ' n) (hn : n ≤ n') : ∀ {ds : List (Key × D)} {vs : List (Key × V)}, RpK K L H ρ n ds vs → RpK K L H' ρ' n' ds vs
  | [], _, h => h
  | d :: ds, vs, h => by
    obtain ⟨v, r, e, h1, h2⟩ := h
    exact ⟨v, r, e, h1.mono m a hn, RpK.mono m a hn h2⟩
end

section
variable {K : PySem.W.Frag} {L : Pl} {H : Hp} {ρ : Nat → Addr} {n : Nat}
theorem RpK.val {d : D} (k : Key) : ∀ {ds : List (Key × D)} {vs : List (Key × V)}, RpK K L H ρ n ds vs → (ds.find? fun p => decide (p.1 = k)).map (·.2) = some d → ∃ v, valV vs k = some v ∧ Rp K L H ρ n d v
  | [], _, _, e => by simp at e
  | p :: ds, vs, h, e => by
    obtain ⟨v, r, rfl, h1, h2⟩ := h
    by_cases q : p.1 = k
    · rw [List.find?_cons_of_pos (by simpa using q)] at e
      cases e
      exact ⟨v, valV_pos q, h1⟩
    · rw [List.find?_cons_of_neg (by simpa using q)] at e
      obtain ⟨v', e1, e2⟩ := RpK.val k h2 e
      exact ⟨v', by rw [valV_neg q]; exact e1, e2⟩
theorem RpK.length : ∀ {ds : List (Key × D)} {vs : List (Key × V)}, RpK K L H ρ n ds vs → vs.length = ds.length
  | [], vs, h => by
    cases (show vs = [] from h)
    rfl
  | p :: ds, vs, h => by
    obtain ⟨v, r, rfl, _, h2⟩ := h
    rw [List.length_cons, List.length_cons, RpK.length h2]
theorem RpK.key : ∀ {ds : List (Key × D)} {vs : List (Key × V)} {i : Nat} {q : Key × D} {k : Key} {v : V}, RpK K L H ρ n ds vs → ds[i]? = some q → vs[i]? = some (k, v) → q.1 = k
  | [], _, _, _, _, _, _, e, _ => by simp at e
  | p :: ds, vs, i, q, k, v, h, e, g => by
    obtain ⟨w, r, rfl, _, h2⟩ := h
    cases i with
    | zero =>
      simp only [List.getElem?_cons_zero, Option.some.injEq] at e g
      subst e
      cases g
      rfl
    | succ i => exact RpK.key h2 (by simpa using e) (by simpa using g)
theorem RpK.anyK {k : Key} : ∀ {ds : List (Key × D)} {vs : List (Key × V)}, RpK K L H ρ n ds vs → (vs.any fun kv => decide (kv.1 = k)) = ds.any fun p => decide (p.1 = k)
  | [], vs, h => by
    cases (show vs = [] from h)
    rfl
  | p :: ds, vs, h => by
    obtain ⟨w, r, rfl, _, h2⟩ := h
    rw [List.any_cons, List.any_cons, RpK.anyK h2]
theorem RpK.mapK {k : Key} {d : D} {v : V} (hv : Rp K L H ρ n d v) : ∀ {ds : List (Key × D)} {vs : List (Key × V)}, RpK K L H ρ n ds vs → RpK K L H ρ n (ds.map fun p => if p.1 = k then (p.1, d) else p) (vs.map fun kv => if kv.1 = k then (kv.1, v) else kv)
  | [], vs, h => by
    cases (show vs = [] from h)
    rfl
  | p :: ds, vs, h => by
    obtain ⟨w, r, rfl, h1, h2⟩ := h
    rw [List.map_cons, List.map_cons]
    by_cases e : p.1 = k
    · rw [if_pos e, if_pos e]
      exact ⟨v, _, rfl, hv, RpK.mapK hv h2⟩
    · rw [if_neg e, if_neg e]
      exact ⟨w, _, rfl, h1, RpK.mapK hv h2⟩
theorem RpK.snoc {k : Key} {d : D} {v : V} (hv : Rp K L H ρ n d v) : ∀ {ds : List (Key × D)} {vs : List (Key × V)}, RpK K L H ρ n ds vs → RpK K L H ρ n (ds ++ [(k, d)]) (vs ++ [(k, v)])
  | [], vs, h => by
    cases (show vs = [] from h)
    exact ⟨v, [], rfl, hv, rfl⟩
  | p :: ds, vs, h => by
    obtain ⟨w, r, rfl, h1, h2⟩ := h
    exact ⟨w, _, rfl, h1, RpK.snoc hv h2⟩
theorem RpK.put {k : Key} {d : D} {v : V} {ds : List (Key × D)} {vs : List (Key × V)} (hv : Rp K L H ρ n d v) (h : RpK K L H ρ n ds vs) : RpK K L H ρ n (putKD ds k d) (putK vs k v) := by
  unfold putKD putK
  rw [h.anyK]
  split
  · exact h.mapK hv
  · exact h.snoc hv
theorem DGet.k' {H : Hp} {a : Addr} {kvs : List (Key × V)} {k : Key} {v : V} (e : Rd H a (.dK kvs)) (h : valV kvs k = some v) : DGet H a (kV k) (some v) := .inl ⟨kvs, k, e, rfl, h.symm⟩
end
/-- a list that nothing writes -/
def RO (K : PySem.W.Frag) (H : Hp) (a : Addr) (vs : List V) : Prop := (∃ o, H a = some (.frz o (.lst vs))) ∨
  ∃ (o : Obj) (its : Array Value) (n : Nat), K.lookup a = some o ∧ o.cls = .type "list" ∧ o.dict = none ∧ o.data = .seq its n ∧ its.size ≤ sizeLine ∧ Vals vs its.toList
theorem RO.sq {K : PySem.W.Frag} {H : Hp} {a : Addr} {vs : List V} (h : RO K H a vs) : SqL K H a vs := by
  rcases h with ⟨o, h⟩ | h
  · exact .inl (.inr ⟨o, h⟩)
  · exact .inr h
theorem RO.mono {K : PySem.W.Frag} {H H' : Hp} {a : Addr} {vs : List V} (m : TM H H') (h : RO K H a vs) : RO K H' a vs := by
  rcases h with ⟨o, h⟩ | h
  · exact .inl ⟨o, m _ _ h True.intro⟩
  · exact .inr h
/-- the cell at an address -/
def CellOk (K : PySem.W.Frag) (L : Pl) (H : Hp) (ρ : Nat → Addr) (n : Nat) (a : Addr) : Cell → Prop
  | .lst true l => ∃ vs, H a = some (.lst vs) ∧ RpL K L H ρ n l vs
  | .lst false l => ∃ vs, RO K H a vs ∧ RpL K L H ρ n l vs
  | .ins c fs => ∃ dx vs, H a = some (.ins (L.cla c) dx vs) ∧ RpF K L H ρ n fs vs
  | .bld m l => ∃ vs, H a = some (.lst vs) ∧ RpL K L H ρ n l.reverse vs ∧ m = l.length
  | .xd _ fs => ∃ vs, H a = some (.xd vs) ∧ RpF K L H ρ n fs vs
  | .dct l => ∃ o vs, H a = some (.frz o (.dK vs)) ∧ RpK K L H ρ n l vs
  | .dbl l => ∃ vs, H a = some (.dK vs) ∧ RpK K L H ρ n l vs
  | .exo c od => ∃ oe u, H a = some (.frz oe u) ∧ oe.cls = .ref (L.cla c) ∧ (∃ vs, oe.data = .fields vs) ∧ oe.dict = od.map ρ ∧ ∀ d, od = some d → d < n
def Cell.mut : Cell → Prop
  | .lst false _ => False
  | .dct _ => False
  | .exo _ _ => False
  | _ => True
structure Rel (K : PySem.W.Frag) (L : Pl) (H : Hp) (ρ : Nat → Addr) (S : Store) : Prop where
  cell : ∀ i c, S.get i = some c → CellOk K L H ρ S.n (ρ i) c
  inj : ∀ i j c d, S.get i = some c → S.get j = some d → c.mut → d.mut → ρ i = ρ j → i = j
  tb : LamX.Tabs L.tbs H
  tc : ∀ p ∈ L.tbs, ∀ (ps : Array Value) (pos : Pos) (c : Addr) (i : Nat) (d : Cell), H p.1 = some (.tbl ps) → codeAmong pos ps.toList = some (.ref c) → S.get i = some d → d.mut → ρ i ≠ c
/-- slots -/
def RS (K : PySem.W.Frag) (L : Pl) (H : Hp) (ρ : Nat → Addr) (n : Nat) : Sl → List (Option V) → Prop
  | [], vs => vs = []
  | o :: ds, vs => ∃ u r, vs = u :: r ∧ (∀ d, o = some d → ∃ v, u = some v ∧ Rp K L H ρ n d v) ∧ RS K L H ρ n ds r
section
variable {K : PySem.W.Frag} {L : Pl} {H H' : Hp} {ρ ρ' : Nat → Addr} {n n' : Nat}
theorem RS.mono (m : TM H H') (a : Agree ρ ρ' n) (hn : n ≤ n') : ∀ {ds : Sl} {vs : List (Option V)}, RS K L H ρ n ds vs → RS K L H' ρ' n' ds vs
  | [], _, h => h
  | o :: ds, vs, h => by
    obtain ⟨u, r, e, h1, h2⟩ := h
    refine ⟨u, r, e, fun d hd => ?_, RS.mono m a hn h2⟩
    obtain ⟨v, e1, e2⟩ := h1 d hd
    exact ⟨v, e1, e2.mono m a hn⟩
theorem RS.length : ∀ {ds : Sl} {vs : List (Option V)}, RS K L H ρ n ds vs → ds.length = vs.length
  | [], vs, h => by cases (show vs = [] from h); rfl
  | d :: ds, vs, h => by
    obtain ⟨v, r, rfl, _, h2⟩ := h
    rw [List.length_cons, List.length_cons, RS.length h2]
theorem RS.get : ∀ {ds : Sl} {vs : List (Option V)} {i : Nat} {d : D}, RS K L H ρ n ds vs → ds[i]? = some (some d) → ∃ v, vs[i]? = some (some v) ∧ Rp K L H ρ n d v
  | [], _, _, _, _, e => by simp at e
  | o :: ds, vs, i, d, h, e => by
    obtain ⟨u, r, rfl, h1, h2⟩ := h
    cases i with
    | zero =>
      simp at e
      obtain ⟨v, e1, e2⟩ := h1 d e
      exact ⟨v, by simp [e1], e2⟩
    | succ i =>
      obtain ⟨v, e1, e2⟩ := RS.get (i := i) (d := d) h2 (by simpa using e)
      exact ⟨v, by simpa using e1, e2⟩
theorem RS.set : ∀ {ds : Sl} {vs : List (Option V)} {d : D} {v : V} (i : Nat), RS K L H ρ n ds vs → Rp K L H ρ n d v → RS K L H ρ n (ds.set i (some d)) (vs.set i (some v))
  | [], vs, _, _, _, h, _ => by cases (show vs = [] from h); exact rfl
  | o :: ds, vs, d, v, i, h, r => by
    obtain ⟨u, t, rfl, h1, h2⟩ := h
    cases i with
    | zero => exact ⟨some v, t, rfl, fun d' hd => by cases hd; exact ⟨v, rfl, r⟩, h2⟩
    | succ i => exact ⟨u, _, rfl, h1, RS.set i h2 r⟩
theorem RS.setN : ∀ {ds : Sl} {vs : List (Option V)} {u : Option V} (i : Nat), RS K L H ρ n ds vs → RS K L H ρ n (ds.set i none) (vs.set i u)
  | [], vs, _, _, h => by cases (show vs = [] from h); exact rfl
  | o :: ds, vs, w, i, h => by
    obtain ⟨u, t, rfl, h1, h2⟩ := h
    cases i with
    | zero => exact ⟨w, t, rfl, fun d hd => (by cases hd), h2⟩
    | succ i => exact ⟨u, _, rfl, h1, RS.setN i h2⟩
theorem RS.wipe {ds : Sl} {vs : List (Option V)} (h : RS K L H ρ n ds vs) : ∀ is : List Nat, RS K L H ρ n (wipeD ds is) (L2.wipe vs is)
  | [] => h
  | i :: is => RS.setN i (RS.wipe h is)
theorem RS.start {as : List D} {vs : List V} (h : RpL K L H ρ n as vs) (k : Nat) : RS K L H ρ n (as.map some ++ List.replicate k none) (vs.map some ++ List.replicate k none) := by
  induction as generalizing vs with
  | nil =>
    cases (show vs = [] from h)
    induction k with
    | zero => exact rfl
    | succ k ih => exact ⟨none, _, rfl, fun d hd => (by cases hd), ih⟩
  | cons a as ih =>
    obtain ⟨v, r, rfl, h1, h2⟩ := (show ∃ v r, vs = v :: r ∧ Rp K L H ρ n a v ∧ RpL K L H ρ n as r from h)
    exact ⟨some v, _, rfl, fun d hd => by cases hd; exact ⟨v, rfl, h1⟩, ih h2⟩
end

/-- the dict of the exception that is handled -/
def exDict (X : Cx) : Option Addr := match X.pn with
  | (_, oe) :: _ => oe.dict
  | [] => none
/-- slots, and where the handled exception's dict stands -/
structure RX (X : Cx) (L : Pl) (G : Gd) (H : Hp) (ρ : Nat → Addr) (n : Nat) (σd : Sl) (σ : List (Option V)) : Prop where
  s : RS X.K L H ρ n σd σ
  e : ∀ d c, G.exi = some (d, c) → d < n ∧ exDict X = some (ρ d)

/-- the state behind: more cells, tuples kept -/
structure Nx (K : PySem.W.Frag) (L : Pl) (S : Store) (H : Hp) (ρ : Nat → Addr) (S' : Store) (H' : Hp) (ρ' : Nat → Addr) : Prop where
  n : S.n ≤ S'.n
  a : Agree ρ ρ' S.n
  t : TM H H'
  r : Rel K L H' ρ' S'
  w : S'.w ≤ S.w
  k : ∀ i, i < S'.w → i < S.n → S'.get i = S.get i
section
variable {K : PySem.W.Frag} {L : Pl} {S S1 S2 : Store} {H H1 H2 : Hp} {ρ ρ1 ρ2 : Nat → Addr}
theorem Nx.refl (r : Rel K L H ρ S) : Nx K L S H ρ S H ρ := ⟨Nat.le_refl _, Agree.refl _ _, TM.refl _, r, Nat.le_refl _, fun _ _ _ => rfl⟩
theorem Nx.trans (a : Nx K L S H ρ S1 H1 ρ1) (b : Nx K L S1 H1 ρ1 S2 H2 ρ2) : Nx K L S H ρ S2 H2 ρ2 := ⟨Nat.le_trans a.n b.n, a.a.trans a.n b.a, a.t.trans b.t, b.r, Nat.le_trans b.w a.w, fun i h hi => (b.k i h (Nat.lt_of_lt_of_le hi a.n)).trans (a.k i (Nat.lt_of_lt_of_le h b.w) hi)⟩
theorem Nx.rp {d : D} {v : V} (a : Nx K L S H ρ S1 H1 ρ1) (h : Rp K L H ρ S.n d v) : Rp K L H1 ρ1 S1.n d v := h.mono a.t a.a a.n
theorem Nx.rpl {d : List D} {v : List V} (a : Nx K L S H ρ S1 H1 ρ1) (h : RpL K L H ρ S.n d v) : RpL K L H1 ρ1 S1.n d v := h.mono a.t a.a a.n
theorem Nx.rs0 {d : Sl} {v : List (Option V)} (a : Nx K L S H ρ S1 H1 ρ1) (h : RS K L H ρ S.n d v) : RS K L H1 ρ1 S1.n d v := h.mono a.t a.a a.n
theorem Nx.rs {X : Cx} {G : Gd} {d : Sl} {v : List (Option V)} (a : Nx X.K L S H ρ S1 H1 ρ1) (h : RX X L G H ρ S.n d v) : RX X L G H1 ρ1 S1.n d v :=
  ⟨h.s.mono a.t a.a a.n, fun i c e => ⟨Nat.lt_of_lt_of_le (h.e i c e).1 a.n, by rw [a.a i (h.e i c e).1]; exact (h.e i c e).2⟩⟩
theorem RX.of {X : Cx} {G : Gd} {n : Nat} {d d' : Sl} {v v' : List (Option V)} (h : RX X L G H ρ n d v) (r : RS X.K L H ρ n d' v') : RX X L G H ρ n d' v' := ⟨r, h.e⟩
theorem CellOk.mono {n n' : Nat} {a : Addr} {c : Cell} (m : TM H H1) (g : Agree ρ ρ1 n) (hn : n ≤ n') (e : c.mut → H1 a = H a) (h : CellOk K L H ρ n a c) : CellOk K L H1 ρ1 n' a c := by
  cases c with
  | lst w l =>
    cases w with
    | true =>
      obtain ⟨vs, h1, h2⟩ := h
      exact ⟨vs, by rw [e True.intro]; exact h1, h2.mono m g hn⟩
    | false =>
      obtain ⟨vs, h1, h2⟩ := h
      exact ⟨vs, h1.mono m, h2.mono m g hn⟩
  | ins c fs =>
    obtain ⟨dx, vs, h1, h2⟩ := h
    exact ⟨dx, vs, by rw [e True.intro]; exact h1, h2.mono m g hn⟩
  | bld k l =>
    obtain ⟨vs, h1, h2, h3⟩ := h
    exact ⟨vs, by rw [e True.intro]; exact h1, h2.mono m g hn, h3⟩
  | xd k l =>
    obtain ⟨vs, h1, h2⟩ := h
    exact ⟨vs, by rw [e True.intro]; exact h1, h2.mono m g hn⟩
  | dct l =>
    obtain ⟨o, vs, h1, h2⟩ := h
    exact ⟨o, vs, m _ _ h1 True.intro, h2.mono m g hn⟩
  | dbl l =>
    obtain ⟨vs, h1, h2⟩ := h
    exact ⟨vs, by rw [e True.intro]; exact h1, h2.mono m g hn⟩
  | exo c od =>
    obtain ⟨oe, u, h1, h2, h3, h4, h5⟩ := h
    refine ⟨oe, u, m _ _ h1 True.intro, h2, h3, ?_, fun d hd => Nat.lt_of_lt_of_le (h5 d hd) hn⟩
    cases od with
    | none => exact h4
    | some d => exact h4.trans (congrArg some (g d (h5 d rfl)).symm)
/-- it is no code object -/
def NoCode (a : Addr) (o : HO) : Prop := ∀ φ, o = .ext φ → ∀ h, φ h → ∃ ob, h.get? a = some ob ∧ ∀ vs, ob.data ≠ .fields vs
theorem Rel.mut_at2 {i : Nat} {c : Cell} (r : Rel K L H ρ S) (h : S.get i = some c) (m : c.mut) : ∃ o, H (ρ i) = some o ∧ ¬ Fixed o ∧ (∀ ps, o ≠ .tbl ps) ∧ NoCode (ρ i) o := by
  have x := r.cell i c h
  cases c with
  | lst w l =>
    cases w with
    | true => obtain ⟨vs, h1, _⟩ := x; exact ⟨_, h1, fun z => z, (fun _ z => by cases z), fun _ z => by cases z⟩
    | false => exact m.elim
  | ins c fs => obtain ⟨dx, vs, h1, _⟩ := x; exact ⟨_, h1, fun z => z, (fun _ z => by cases z), fun _ z => by cases z⟩
  | bld k l => obtain ⟨vs, h1, _⟩ := x; exact ⟨_, h1, fun z => z, (fun _ z => by cases z), fun _ z => by cases z⟩
  | xd k l => obtain ⟨vs, h1, _⟩ := x; exact ⟨_, h1, fun z => z, (fun _ z => by cases z), fun _ z => by cases z⟩
  | dct l => exact m.elim
  | exo c od => exact m.elim
  | dbl l => obtain ⟨vs, h1, _⟩ := x; exact ⟨_, h1, fun z => z, (fun _ z => by cases z), fun _ z => by cases z⟩
theorem Rel.mut_at {i : Nat} {c : Cell} (r : Rel K L H ρ S) (h : S.get i = some c) (m : c.mut) : ∃ o, H (ρ i) = some o ∧ ¬ Fixed o := by
  obtain ⟨o, h1, h2, _⟩ := r.mut_at2 h m
  exact ⟨o, h1, h2⟩
theorem tab_up {T : List (Addr × Str)} {p : Addr} {o : HO} (t : LamX.Tabs T H) (h : H p = none) : LamX.Tabs T (upd H p o) := t.ext fun b u e => by
  rw [upd_ne (ne_of_none e h)]
  exact e
/-- the tables' part behind a cell written -/
theorem tab_wr {T : List (Addr × Str)} {a : Addr} {o : HO} (t : LamX.Tabs T H) (h1 : ∀ p ∈ T, a ≠ p.1) (h2 : ∀ p ∈ T, ∀ (ps : Array Value) (pos : Pos) (c : Addr), H p.1 = some (.tbl ps) → codeAmong pos ps.toList = some (.ref c) → a ≠ c) : LamX.Tabs T (upd H a o) := fun p hp => by
  obtain ⟨ps, e1, e2, e3⟩ := t p hp
  refine ⟨ps, by rw [upd_ne (Ne.symm (h1 p hp))]; exact e1, e2, fun pos cv hc => ?_⟩
  obtain ⟨c, rfl, e4⟩ := e3 pos cv hc
  exact ⟨c, rfl, by rw [upd_ne (Ne.symm (h2 p hp ps pos c e1 hc))]; exact e4⟩
/-- an object more that is no cell -/
theorem Rel.new {p : Addr} {o : HO} (r : Rel K L H ρ S) (hp : H p = none) : Nx K L S H ρ S (upd H p o) ρ := by
  refine ⟨Nat.le_refl _, Agree.refl _ _, TM.new hp, ⟨fun i c h => ?_, r.inj, tab_up r.tb hp, fun q hq ps pos c i d h1 => ?_⟩, Nat.le_refl _, fun _ _ _ => rfl⟩
  · refine (r.cell i c h).mono (TM.new hp) (Agree.refl _ _) (Nat.le_refl _) fun m => ?_
    obtain ⟨u, hu, _⟩ := r.mut_at h m
    exact upd_ne (ne_of_none hu hp)
  · obtain ⟨ps', e1, _⟩ := r.tb q hq
    rw [upd_ne (ne_of_none e1 hp)] at h1
    exact r.tc q hq ps pos c i d h1
/-- the map with one more -/
def more (ρ : Nat → Addr) (n : Nat) (p : Addr) : Nat → Addr := fun i => if i = n then p else ρ i
theorem more_new {n : Nat} {p : Addr} : more ρ n p n = p := if_pos rfl
theorem more_old {n i : Nat} {p : Addr} (h : i < n) : more ρ n p i = ρ i := if_neg (by omega)
theorem more_agree {n : Nat} {p : Addr} : Agree ρ (more ρ n p) n := fun _ h => more_old h
/-- a new cell -/
theorem Rel.push {p : Addr} {o : HO} {c : Cell} (r : Rel K L H ρ S) (hp : H p = none) (hc : CellOk K L (upd H p o) (more ρ S.n p) (S.n + 1) p c) : Nx K L S H ρ (S.push c) (upd H p o) (more ρ S.n p) := by
  have old : ∀ i d, S.get i = some d → d.mut → ρ i ≠ p := fun i d h m z => by
    obtain ⟨u, hu, _⟩ := r.mut_at h m
    exact ne_of_none hu hp z
  refine ⟨Nat.le_succ _, more_agree, TM.new hp, ⟨fun i d h => ?_, fun i j d e hi hj mi mj q => ?_, tab_up r.tb hp, fun q hq ps pos c' i d h1 h2 h3 m => ?_⟩, Nat.le_refl _, fun i _ hi => Store.get_old hi⟩
  rotate_left 2
  · obtain ⟨ps', e1, _, e3⟩ := r.tb q hq
    rw [upd_ne (ne_of_none e1 hp)] at h1
    rcases Store.get_push_cases h3 with ⟨rfl, rfl⟩ | h3
    · rw [more_new]
      rw [e1] at h1
      cases h1
      obtain ⟨c2, e4, e5⟩ := e3 pos _ h2
      cases e4
      exact fun z => by rw [z, e5] at hp; cases hp
    · rw [more_old (Store.lt h3)]
      exact r.tc q hq ps pos c' i d h1 h2 h3 m
  · rcases Store.get_push_cases h with ⟨rfl, rfl⟩ | h
    · rw [more_new]; exact hc
    · rw [more_old (Store.lt h)]
      exact (r.cell i d h).mono (TM.new hp) more_agree (Nat.le_succ _) fun m => upd_ne (old i d h m)
  · rcases Store.get_push_cases hi with ⟨ei, _⟩ | hi1
    · rcases Store.get_push_cases hj with ⟨ej, _⟩ | hj1
      · rw [ei, ej]
      · rw [ei, more_new, more_old (Store.lt hj1)] at q
        exact (old j e hj1 mj q.symm).elim
    · rcases Store.get_push_cases hj with ⟨ej, _⟩ | hj1
      · rw [ej, more_new, more_old (Store.lt hi1)] at q
        exact (old i d hi1 mi q).elim
      · rw [more_old (Store.lt hi1), more_old (Store.lt hj1)] at q
        exact r.inj i j d e hi1 hj1 mi mj q
/-- a cell written -/
theorem Rel.wr {i : Nat} {o : HO} {c d : Cell} (r : Rel K L H ρ S) (h : S.get i = some d) (md : d.mut) (hc : CellOk K L (upd H (ρ i) o) ρ S.n (ρ i) c) : Nx K L S H ρ (S.set i c) (upd H (ρ i) o) ρ := by
  obtain ⟨u, hu, hf, hnt, _⟩ := r.mut_at2 h md
  have nP : ∀ p ∈ L.tbs, ρ i ≠ p.1 := fun p hp z => by
    obtain ⟨ps, e1, _⟩ := r.tb p hp
    rw [z, e1] at hu
    cases hu
    exact hnt _ rfl
  have t : TM H (upd H (ρ i) o) := TM.wr hu hf
  have back : ∀ {j : Nat} {e : Cell}, (S.set i c).get j = some e → (j = i ∧ e = c) ∨ (j ≠ i ∧ S.get j = some e) := fun {j e} hj => by
    by_cases z : j = i
    · subst z
      rw [Store.get_set h] at hj
      exact .inl ⟨rfl, (Option.some.inj hj).symm⟩
    · rw [Store.get_set_ne (Ne.symm z)] at hj
      exact .inr ⟨z, hj⟩
  refine ⟨Nat.le_of_eq Store.set_n.symm, Agree.refl _ _, t, ⟨fun j e hj => ?_, fun j k e f hj hk mj mk q => ?_, tab_wr r.tb nP fun p hp ps pos c h1 h2 => r.tc p hp ps pos c i d h1 h2 h md, fun p hp ps pos c' j e h1 h2 h3 m => ?_⟩, Store.set_w, fun j hj _ => Store.set_low hj⟩
  rotate_left 2
  · rw [upd_ne (Ne.symm (nP p hp))] at h1
    rcases back h3 with ⟨rfl, rfl⟩ | ⟨z, h3⟩
    · exact r.tc p hp ps pos c' _ d h1 h2 h md
    · exact r.tc p hp ps pos c' j e h1 h2 h3 m
  · rw [Store.set_n]
    rcases back hj with ⟨rfl, rfl⟩ | ⟨z, hj⟩
    · exact hc
    · exact (r.cell j e hj).mono t (Agree.refl _ _) (Nat.le_refl _) fun m => upd_ne fun q => z (r.inj j i e d hj h m md q)
  · rcases back hj with ⟨ej, _⟩ | ⟨_, hj1⟩
    · rcases back hk with ⟨ek, _⟩ | ⟨_, hk1⟩
      · rw [ej, ek]
      · rw [ej] at q ⊢
        exact r.inj _ _ _ _ h hk1 md mk q
    · rcases back hk with ⟨ek, _⟩ | ⟨_, hk1⟩
      · rw [ek] at q ⊢
        exact r.inj _ _ _ _ hj1 h mj md q
      · exact r.inj _ _ _ _ hj1 hk1 mj mk q
theorem Rel.write {i : Nat} {o : HO} {c d : Cell} (r : Rel K L H ρ S) (h : S.get i = some d) (md : d.mut) (_mc : c.mut) (hc : CellOk K L (upd H (ρ i) o) ρ S.n (ρ i) c) : Nx K L S H ρ (S.set i c) (upd H (ρ i) o) ρ := r.wr h md hc
end
end QD

/-! QD2: what it means that a code simulates an expression; the surroundings; calls. -/
namespace QD
open PySem PySem.Spec PyProof.Rows L2

/-! ### the weakest readings -/
section
variable (X : Cx)
def wE (e : Expr) : TE := fun σ H Q => ∀ (pins : List (Addr × Obj)) (s : Shared), Inv X pins σ H s → wpAny (model X.prog X.w) X.A (eval e X.env) (EP X pins σ Q) X.xe s
def wT (e : Expr) : TT := fun σ H Q => ∀ (pins : List (Addr × Obj)) (s : Shared), Inv X pins σ H s → wpAny (model X.prog X.w) X.A (isTrue e X.env (eval e X.env)) (TP X pins σ Q) X.xe s
def wW (e : Expr) : TT := fun σ H Q => ∀ (whole : Sem Value) (pins : List (Addr × Obj)) (s : Shared), Inv X pins σ H s → wpAny (model X.prog X.w) X.A (isTrue e X.env whole) (TP X pins σ Q) X.xe s
def wA (es : List Expr) : TA := fun σ H Q => ∀ (pos : Pos) (pins : List (Addr × Obj)) (s : Shared), Inv X pins σ H s → wpAny (model X.prog X.w) X.A (spliced (backTo pos (starEach es X.env))) (AP X pins σ Q) X.xe s
def wI (tg iter : Expr) : TI := fun σ H R => ∀ (pins : List (Addr × Obj)) (s : Shared), Inv X pins σ H s → wpAny (model X.prog X.w) X.A (eval iter X.env) (fun v s1 => wpAny (model X.prog X.w) X.A (pyIter v) (PIE X pins σ tg R) X.xe s1) X.xe s
def wS (st : Stmt) : TS := fun D σ H => ∀ (pins : List (Addr × Obj)) (s : Shared), Inv X pins σ H s → wpAny (model X.prog X.w) X.A (exec st X.env) (SP X pins D) X.xe s
def wSs (st : List Stmt) : TS := fun D σ H => ∀ (pins : List (Addr × Obj)) (s : Shared), Inv X pins σ H s → wpAny (model X.prog X.w) X.A (execs st X.env) (SP X pins D) X.xe s
def wG (tg : Expr) : TG := fun v σ H Q => ∀ (pins : List (Addr × Obj)) (s : Shared) (u : Value), Inv X pins σ H s → RelV v u → wpAny (model X.prog X.w) X.A (assign tg X.env u) (fun _ s' => ∃ σ' H', Inv X pins σ' H' s' ∧ Q σ' H') X.xe s
variable {X}
theorem pE (e : Expr) : PE X e (wE X e) := ⟨fun pins s σ H Q I h => h pins s I⟩
theorem pT (e : Expr) : PT X e (wT X e) := ⟨fun pins s σ H Q I h => h pins s I⟩
theorem pW (e : Expr) : PW X e (wW X e) := ⟨fun wh pins s σ H Q I h => h wh pins s I⟩
theorem pA (es : List Expr) : PA X es (wA X es) := ⟨fun pos pins s σ H Q I h => h pos pins s I⟩
theorem pI (tg e : Expr) : PI X tg e (wI X tg e) := ⟨fun pins s σ H Q I h => h pins s I⟩
theorem pS (st : Stmt) : PS X st (wS X st) := ⟨fun pins s σ H D I h => h pins s I⟩
theorem pSs (st : List Stmt) : PSs X st (wSs X st) := ⟨fun pins s σ H D I h => h pins s I⟩
theorem pG (tg : Expr) : PG X tg (wG X tg) := ⟨fun pins s σ H v u Q I r h => h pins s u I r⟩
theorem ofE {e : Expr} {t : TE} {σ : L2.St} {H : Hp} {Q : VK} (h : PE X e t) (q : t σ H Q) : wE X e σ H Q := fun pins s I => h.run pins s σ H Q I q
theorem ofT {e : Expr} {t : TT} {σ : L2.St} {H : Hp} {Q : Bool → Hp → Prop} (h : PT X e t) (q : t σ H Q) : wT X e σ H Q := fun pins s I => h.run pins s σ H Q I q
theorem ofW {e : Expr} {t : TT} {σ : L2.St} {H : Hp} {Q : Bool → Hp → Prop} (h : PW X e t) (q : t σ H Q) : wW X e σ H Q := fun wh pins s I => h.run wh pins s σ H Q I q
theorem ofA {es : List Expr} {t : TA} {σ : L2.St} {H : Hp} {Q : List V → Hp → Prop} (h : PA X es t) (q : t σ H Q) : wA X es σ H Q := fun pos pins s I => h.run pos pins s σ H Q I q
theorem ofI {tg e : Expr} {t : TI} {σ : L2.St} {H : Hp} {R : It → Hp → Prop} (h : PI X tg e t) (q : t σ H R) : wI X tg e σ H R := fun pins s I => h.run pins s σ H R I q
theorem ofS {st : Stmt} {t : TS} {σ : L2.St} {H : Hp} {D : Ends} (h : PS X st t) (q : t D σ H) : wS X st D σ H := fun pins s I => h.run pins s σ H D I q
theorem ofSs {st : List Stmt} {t : TS} {σ : L2.St} {H : Hp} {D : Ends} (h : PSs X st t) (q : t D σ H) : wSs X st D σ H := fun pins s I => h.run pins s σ H D I q
end

/-! ### what is wanted of a result -/
def kV (K : PySem.W.Frag) (L : Pl) (S : Store) (H : Hp) (ρ : Nat → Addr) (Q : VK) : D → Store → Prop := fun d S' => ∀ ρ' H' v, Nx K L S H ρ S' H' ρ' → Rp K L H' ρ' S'.n d v → Q v H'
def kL (K : PySem.W.Frag) (L : Pl) (S : Store) (H : Hp) (ρ : Nat → Addr) (Q : List V → Hp → Prop) : List D → Store → Prop := fun d S' => ∀ ρ' H' v, Nx K L S H ρ S' H' ρ' → RpL K L H' ρ' S'.n d v → Q v H'
def kX (K : PySem.W.Frag) (L : Pl) (S : Store) (H : Hp) (ρ : Nat → Addr) (E : XK) : Nat → Nat → Store → Prop := fun c d S' => ∀ ρ' H', Nx K L S H ρ S' H' ρ' → E (.ref (L.cla c)) (some (ρ' d)) H'
def noX : Nat → Nat → Store → Prop := fun _ _ _ => False
section
variable {K : PySem.W.Frag} {L : Pl} {S S1 : Store} {H H1 : Hp} {ρ ρ1 : Nat → Addr}
theorem kV.at {Q : VK} {d : D} {S' : Store} (k : kV K L S H ρ Q d S') (n : Nx K L S H ρ S1 H1 ρ1) : kV K L S1 H1 ρ1 Q d S' := fun ρ' H' v n' => k ρ' H' v (n.trans n')
theorem kL.at {Q : List V → Hp → Prop} {d : List D} {S' : Store} (k : kL K L S H ρ Q d S') (n : Nx K L S H ρ S1 H1 ρ1) : kL K L S1 H1 ρ1 Q d S' := fun ρ' H' v n' => k ρ' H' v (n.trans n')
theorem kX.at {E : XK} {c d : Nat} {S' : Store} (k : kX K L S H ρ E c d S') (n : Nx K L S H ρ S1 H1 ρ1) : kX K L S1 H1 ρ1 E c d S' := fun ρ' H' n' => k ρ' H' (n.trans n')
/-- one behind another -/
theorem Res.Good.at {Q : VK} {E : XK} {r : Res D} (h : r.Good (kV K L S H ρ Q) (kX K L S H ρ E)) (n : Nx K L S H ρ S1 H1 ρ1) : r.Good (kV K L S1 H1 ρ1 Q) (kX K L S1 H1 ρ1 E) := h.imp (fun _ _ k => k.at n) fun _ _ _ k => k.at n
theorem Res.Good.atL {Q : List V → Hp → Prop} {E : XK} {r : Res (List D)} (h : r.Good (kL K L S H ρ Q) (kX K L S H ρ E)) (n : Nx K L S H ρ S1 H1 ρ1) : r.Good (kL K L S1 H1 ρ1 Q) (kX K L S1 H1 ρ1 E) := h.imp (fun _ _ k => k.at n) fun _ _ _ k => k.at n
end

/-! ### simulation -/
section
variable (X : Cx) (L : Pl) (G : Gd) (cf : Nat → List D → Store → Res D)
structure Sim (e : Expr) (c : C) : Prop where
  run : ∀ (W : WX) (_ : Takes X W) (ρ : Nat → Addr) (σd : Sl) (σ : L2.St) (S : Store) (H : Hp) (Q : VK), Rel X.K L H ρ S → RX X L G H ρ S.n σd σ → (evC cf G c σd S).Good (kV X.K L S H ρ Q) (kX X.K L S H ρ (WE W σ)) → wE X e σ H Q
structure SimT (e : Expr) (c : C) : Prop where
  run : ∀ (W : WX) (_ : Takes X W) (ρ : Nat → Addr) (σd : Sl) (σ : L2.St) (S : Store) (H : Hp) (Q : Bool → Hp → Prop), Rel X.K L H ρ S → RX X L G H ρ S.n σd σ →
    (evC cf G c σd S).Good (fun d S' => ∃ b, truth S' d = some b ∧ ∀ ρ' H', Nx X.K L S H ρ S' H' ρ' → Q b H') (kX X.K L S H ρ (WE W σ)) → wT X e σ H Q
structure SimA (es : List Expr) (cs : Cs) : Prop where
  run : ∀ (W : WX) (_ : Takes X W) (ρ : Nat → Addr) (σd : Sl) (σ : L2.St) (S : Store) (H : Hp) (Q : List V → Hp → Prop), Rel X.K L H ρ S → RX X L G H ρ S.n σd σ → (evCs cf G cs σd S).Good (kL X.K L S H ρ Q) (kX X.K L S H ρ (WE W σ)) → wA X es σ H Q
end
/-- a def's promise: what the evaluator tells -/
def spD (K : PySem.W.Frag) (L : Pl) (cf : Nat → List D → Store → Res D) (f k : Nat) : Sp := fun vs H Q E => ∃ ρ S as, vs.length = k ∧ Rel K L H ρ S ∧ RpL K L H ρ S.n as vs ∧ (cf f as S).Good (kV K L S H ρ Q) (kX K L S H ρ E)
def tkV (L : Pl) : Tk → Value
  | .int => .type "int" | .bool => .type "bool" | .str => .type "str" | .list => .type "list" | .tuple => .type "tuple" | .dict => .type "dict" | .cls c => .ref (L.cla c)
def tkT (L : Pl) : Tk → V
  | .int => .ty "int" | .bool => .ty "bool" | .str => .ty "str" | .list => .ty "list" | .tuple => .ty "tuple" | .dict => .ty "dict" | .cls c => .ref (L.cla c)
def btN : Bt → String
  | .non => "NoneType" | .bool => "bool" | .int => "int" | .str => "str" | .list => "list" | .tuple => "tuple" | .dict => "dict"
def btV (b : Bt) : Value := .type (btN b)
/-- the keys, in order -/
def KeysAt (t : List (Str × D)) (es : List DictEntry) : Prop := t.length = es.length ∧ ∀ (j : Nat) (q : Str × D) (e : DictEntry), t[j]? = some q → es[j]? = some e → ∃ tk, e.key = .str q.1 tk
/-- a dict of the top with text keys, as told -/
structure KdOk (X : Cx) (L : Pl) (i : Nat) (t : List (Str × D)) : Prop where
  d : ∃ es n, KDict X.K X.w (L.kda i) es n ∧ KeysAt t es.toList
  at_ : ∀ z : Str, (t.lookup z = none ∧ PySem.W.nsIn X.K (L.kda i) z = some none) ∨ ∃ x u v, t.lookup z = some x ∧ PySem.W.nsIn X.K (L.kda i) z = some (some u) ∧ RelV v u ∧ ∀ H ρ n, Rp X.K L H ρ n x v
section
variable (X : Cx) (L : Pl) (G : Gd) (cf : Nat → List D → Store → Res D)
/-- a def called by its contract at the level that X gives -/
structure FnAt (f k : Nat) (fa : Addr) (fd : FuncData) (ps : List Str) (j : Nat) : Prop where
  ok : FnOk X.prog X.w X.K X.mg X.base (L2.CX X.prog X.w) j fa fd ps (spD X.K L cf f k)
  room : Room (j + 3) X.A
  ar : ∀ as S, cf f as S ≠ .stuck → as.length = k
structure CallOk (x : Str) (f n : Nat) (sh : List Src) : Prop where
  ex : ∃ (k : Nat) (fa : Addr) (fd : FuncData) (ps : List Str) (j : Nat) (ds : List Value) (dvs : List V) (dl : List D), FnAt X L cf f k fa fd ps j ∧ X.mg x = some (.ref fa) ∧ PySem.W.keepIn X.K (.ref fa) = true ∧ Binds X.K fd ps ds ∧ Vals dvs ds ∧ n + dvs.length = k ∧
    (∀ as : List D, as.length = n → srcs as sh = some (as ++ dl)) ∧ ∀ H ρ m, RpL X.K L H ρ m dl dvs
structure CallK (x : Str) (f n : Nat) (ks : List Str) (sh : List Src) : Prop where
  ex : ∃ (k : Nat) (fa : Addr) (fd : FuncData) (ps : List Str) (j : Nat) (g : List Value → List Value → List Value) (gV : List V → List V → List V), FnAt X L cf f k fa fd ps j ∧ X.mg x = some (.ref fa) ∧ PySem.W.keepIn X.K (.ref fa) = true ∧ KBn X.K fd ps n ks g gV ∧
    ∀ as es vs zs H ρ m, RpL X.K L H ρ m as vs → RpL X.K L H ρ m es zs → as.length = n → es.length = ks.length → (gV vs zs).length = k ∧ ∃ bs, srcs (as ++ es) sh = some bs ∧ RpL X.K L H ρ m bs (gV vs zs)
structure MkOk (x : Str) (c f n : Nat) (sh : List Src) : Prop where
  ex : ∃ (k : Nat) (fa : Addr) (fd : FuncData) (ps : List Str) (j : Nat) (ds : List Value) (dvs : List V) (dl : List D), FnAt X L cf f k fa fd ps j ∧ Mk X.K (L.cla c) fa ∧ X.mg x = some (.ref (L.cla c)) ∧ Binds X.K fd ps ds ∧ Vals dvs ds ∧ n + 1 + dvs.length = k ∧
    (∀ as : List D, as.length = n + 1 → srcs as sh = some (as ++ dl)) ∧ ∀ H ρ m, RpL X.K L H ρ m dl dvs
structure MkK (x : Str) (c f n : Nat) (ks : List Str) (sh : List Src) : Prop where
  ex : ∃ (k : Nat) (fa : Addr) (fd : FuncData) (ps : List Str) (j : Nat) (g : List Value → List Value → List Value) (gV : List V → List V → List V), FnAt X L cf f k fa fd ps j ∧ Mk X.K (L.cla c) fa ∧ X.mg x = some (.ref (L.cla c)) ∧ KBn X.K fd ps (n + 1) ks g gV ∧
    ∀ as es vs zs H ρ m, RpL X.K L H ρ m as vs → RpL X.K L H ρ m es zs → as.length = n + 1 → es.length = ks.length → (gV vs zs).length = k ∧ ∃ bs, srcs (as ++ es) sh = some bs ∧ RpL X.K L H ρ m bs (gV vs zs)
/-- a class with own operators -/
structure OwnOk (X : Cx) (L : Pl) (c : Nat) : Prop where
  mro : ∃ cd, PySem.W.clsIn X.K (L.cla c) = some cd ∧ cd.mro = [.ref (L.cla c), .type "object"]
  sub : ∀ b : Bt, PySem.W.subIn X.K (.ref (L.cla c)) (btV b) = some false
  subR : ∀ b : Bt, PySem.W.subIn X.K (btV b) (.ref (L.cla c)) = some false
  obj : PySem.W.mroIn X.K (L.cla c) (.type "object") = some true
  ne : PySem.W.findIn X.K (.ref (L.cla c)) "__ne__" = some (some (.builtin "object.__ne__"))
  bool : PySem.W.findIn X.K (.ref (L.cla c)) "__bool__" = some none
  refl : ∀ o : Op, ∃ rc, PySem.W.findIn X.K (.ref (L.cla c)) (opR o) = some rc ∧ (rc = none ∨ ∃ g : Addr, rc = some (.ref g))
  inpl : ∀ o : Op, PySem.W.findIn X.K (.ref (L.cla c)) (dunderI (opL o).info.2) = some none
/-- a class of the text -/
structure ClsOk (c : Nat) : Prop where
  prop : ∀ f g, (G.props c).lookup f = some g → Cls X.K (L.cla c) ∧ ∃ p fa fd ps j, PropOf X.K (L.cla c) f p fa ∧ FnAt X L cf g 1 fa fd ps j ∧ Binds X.K fd ps []
  meth : ∀ m g, (G.meths c).lookup m = some g → Cls X.K (L.cla c) ∧ ∃ fa fd ps j k, Meth X.K (L.cla c) m fa ∧ FnAt X L cf g k fa fd ps j ∧ Binds X.K fd ps [] ∧ ps.length = k
  fld : ∀ f, (G.flds c).contains f = true → Cls X.K (L.cla c) ∧ NoAttr X.K (L.cla c) f
  op : ∀ m g, (G.ops c).lookup m = some g → OwnOk X L c ∧ Cls X.K (L.cla c) ∧ ∃ fa fd ps j k, PySem.W.findIn X.K (.ref (L.cla c)) m = some (some (.ref fa)) ∧ PySem.W.isFn X.K (.ref fa) = true ∧ FnAt X L cf g k fa fd ps j ∧ Binds X.K fd ps [] ∧ ps.length = k
/-- isinstance of an instance of this class -/
structure IsiOk (c : Nat) : Prop where
  cls : Cls X.K (L.cla c)
  ha : PySem.W.findIn X.K (.ref (L.cla c)) "__class__" = some (some (.builtin "object.__class__"))
  hn : PySem.W.specialIn X.K (.builtin "object.__class__") "__get__" = some (some (.builtin "getset_descriptor.__get__"))
  htk : PySem.W.takesIn X.K (.builtin "object.__class__") = some true
  hm : PySem.W.mroIn X.K (L.cla c) (.type "object") = some true
structure EnvOk : Prop where
  nd : X.N.Nodup
  hu : X.A.units + 64 < cLine
  exn : X.calm = true → G.exi = none
  cls : ∀ c, ClsOk X L G cf c
  kd : ∀ i t, G.kdt i = some t → KdOk X L i t
  isi : ∀ c, G.isc c = true → IsiOk X L c
  kbo : ∀ c b, G.isc c = true → PySem.W.kitOne X.K (btV b) (.ref (L.cla c)) = some false
  kob : ∀ c t, G.isc c = true → (∀ c', t ≠ .cls c') → PySem.W.kitOne X.K (.ref (L.cla c)) (tkV L t) = some false
  koo : ∀ c c', G.isc c = true → G.isc c' = true → PySem.W.kitOne X.K (.ref (L.cla c')) (.ref (L.cla c)) = some (c == c')
end
section
variable {X : Cx} {L : Pl} {G : Gd} {cf : Nat → List D → Store → Res D}
theorem si_var {i : Nat} {x : Str} {pos : Pos} (hN : X.N[i]? = some x) (hv : Vis X.env.scope x) (hd : (x == ("__debug__" : Str)) = false := by decide) (hcd : (x == ("__classdict__" : Str)) = false := by decide) : Sim X L G cf (.Name x pos) (.var i) := by
  refine ⟨fun W tk ρ σd σ S H Q r rs h => ?_⟩
  have h1 : (match σd[i]? with | some (some d) => Res.ok d S | _ => .stuck).Good (kV X.K L S H ρ Q) (kX X.K L S H ρ (WE W σ)) := h
  split at h1
  · rename_i d' e
    obtain ⟨v, e1, e2⟩ := rs.s.get e
    exact ofE (pe_var hN hv hd hcd) ⟨v, e1, h1 ρ H v (Nx.refl r) e2⟩
  · exact h1.elim
theorem si_int {i : Int} {j pos} : Sim X L G cf (.Constant (.int i) j pos) (.lit (.int i)) := ⟨fun W tk ρ σd σ S H Q r rs h => ofE pe_int (h ρ H _ (Nx.refl r) rfl)⟩
theorem si_bl {b : Bool} {j pos} : Sim X L G cf (.Constant (.bool b) j pos) (.lit (.bl b)) := ⟨fun W tk ρ σd σ S H Q r rs h => ofE pe_bl (h ρ H _ (Nx.refl r) rfl)⟩
theorem si_non {j pos} : Sim X L G cf (.Constant .none j pos) (.lit .non) := ⟨fun W tk ρ σd σ S H Q r rs h => ofE pe_non (h ρ H _ (Nx.refl r) rfl)⟩
theorem si_str {x : Str} {j pos} : Sim X L G cf (.Constant (.str x) j pos) (.lit (.str x)) := ⟨fun W tk ρ σd σ S H Q r rs h => ofE pe_str (h ρ H _ (Nx.refl r) rfl)⟩
theorem si_strE {x y : Str} {j pos} (h : x = y) : Sim X L G cf (.Constant (.str x) j pos) (.lit (.str y)) := h ▸ si_str
/-- a module's constant -/
def GvOk (X : Cx) (L : Pl) (x : Str) (d : D) : Prop := ∃ u v, X.mg x = some u ∧ RelV v u ∧ ∀ H ρ n, Rp X.K L H ρ n d v
theorem si_glb {i : Nat} {x : Str} {d0 : D} {pos : Pos} (hg : Gl X x) (he : G.gv i = some d0) (ho : GvOk X L x d0) (hd : (x == ("__debug__" : Str)) = false := by decide) : Sim X L G cf (.Name x pos) (.glb i) := by
  refine ⟨fun W tk ρ σd σ S H Q r rs h => ?_⟩
  obtain ⟨d, e1, k⟩ := Res.good_of (show (Res.of (G.gv i) S).Good (kV X.K L S H ρ Q) (kX X.K L S H ρ (WE W σ)) from h)
  rw [he] at e1
  cases e1
  obtain ⟨u, v, hm, hr, hp⟩ := ho
  exact ofE (pe_glob hg hm hr hd) (k ρ H v (Nx.refl r) (hp _ _ _))

/-! ### truth -/
theorem tru_of {ρ : Nat → Addr} {S : Store} {H : Hp} {d : D} {v : V} {b : Bool} (r : Rel X.K L H ρ S) (p : Rp X.K L H ρ S.n d v) (h : truth S d = some b) : TruV X.K v H b := by
  cases d with
  | non => cases (show v = .non from p); cases h; rfl
  | bl c => cases (show v = .bl c from p); cases h; rfl
  | int i => cases (show v = .int i from p); cases h; rfl
  | str x =>
    cases (show v = .str x from p)
    have h1 : (if x.length ≤ sizeLine then some ((x.length : Int) != 0) else none) = some b := h
    split at h1
    · cases h1; exact ⟨by assumption, rfl⟩
    · cases h1
  | tup l =>
    obtain ⟨a, vs, rfl, hs, hl⟩ := (show ∃ a vs, v = .ref a ∧ SqT X.K H a vs ∧ RpL X.K L H ρ S.n l vs from p)
    cases h
    refine .inr (.inl ⟨vs, hs, ?_⟩)
    have e := hl.length
    cases l <;> cases vs <;> first | rfl | cases e
  | ref i =>
    obtain ⟨_, rfl⟩ := (show i < S.n ∧ v = .ref (ρ i) from p)
    have h1 : (match S.get i with | some (.lst _ l) => some (!l.isEmpty) | _ => none) = some b := h
    split at h1
    · rename_i w l e
      cases h1
      have x := r.cell i _ e
      cases w with
      | true =>
        obtain ⟨vs, hs, hl⟩ := x
        refine .inl ⟨vs, SqL.of hs, ?_⟩
        have e := hl.length
        cases l <;> cases vs <;> first | rfl | cases e
      | false =>
        obtain ⟨vs, hs, hl⟩ := x
        refine .inl ⟨vs, hs.sq, ?_⟩
        have e := hl.length
        cases l <;> cases vs <;> first | rfl | cases e
    · cases h1
  | kd i => cases h
/-- what a test's value is -/
theorem good_truth {α : Type} {d : D} {S : Store} {f : Bool → Store → Res α} {k : α → Store → Prop} {x : Nat → Nat → Store → Prop} (h : ((Res.of (truth S d) S).bind f).Good k x) : ∃ b, truth S d = some b ∧ (f b S).Good k x := Res.good_of (Res.good_bind h)
theorem si_not {a : Expr} {ca : C} {pos : Pos} (ha : Sim X L G cf a ca) : Sim X L G cf (.UnaryOp .Not a pos) (.not ca) := by
  refine ⟨fun W tk ρ σd σ S H Q r rs h => fun pins s I => ?_⟩
  have h := Res.good_bind (r := evC cf G ca σd S) h
  refine UnaryOp_ (thn (ha.run W tk ρ σd σ S H (fun v H1 => ∃ ρ1 S1 b x, Nx X.K L S H ρ S1 H1 ρ1 ∧ Rp X.K L H1 ρ1 S1.n x v ∧ truth S1 x = some b ∧ kV X.K L S H ρ Q (.bl (!b)) S1) r rs (h.imp (fun x S1 g ρ1 H1 v n p => ?_) fun _ _ _ k => k) pins s I) fun u s1 ⟨v, H1, I1, rv, ρ1, S1, b, x, n1, p1, e2, k⟩ => ?_)
  · obtain ⟨b, e, g⟩ := good_truth g
    exact ⟨ρ1, S1, b, x, n, p, e, g⟩
  · refine not_of (thn (tru_ok pins s1 σ H1 v u (fun c H2 => c = b ∧ H2 = H1) I1 rv ⟨b, tru_of n1.r p1 e2, rfl, rfl⟩) fun c s2 ⟨H2, I2, ec, eh⟩ => ?_)
    subst ec
    subst eh
    exact ⟨.bl (!c), H2, I2, rfl, k ρ1 H2 _ n1 rfl⟩
/-- an expression whose test is its value's truth -/
theorem st_val {a : Expr} {ca : C} (ha : Sim X L G cf a ca) (he : ∀ whole, isTrue a X.env whole = (do let v ← whole; standAt a.pos; holding [v] (truthy v)) := by intro _; rfl) : SimT X L G cf a ca := by
  refine ⟨fun W tk ρ σd σ S H Q r rs h => ?_⟩
  refine ofT (pt_truth (pE a) he) (ha.run W tk ρ σd σ S H _ r rs (h.imp (fun d S1 ⟨b, e, k⟩ ρ' H' v n p => ?_) fun _ _ _ k => k))
  exact ⟨b, tru_of n.r p e, k ρ' H' n⟩
theorem st_not {a : Expr} {ca : C} {pos : Pos} (ha : SimT X L G cf a ca) : SimT X L G cf (.UnaryOp .Not a pos) (.not ca) := by
  refine ⟨fun W tk ρ σd σ S H Q r rs h => ?_⟩
  have h := Res.good_bind (r := evC cf G ca σd S) h
  refine ofT (pt_not (pT a)) (ha.run W tk ρ σd σ S H _ r rs (h.imp (fun d S1 g => ?_) fun _ _ _ k => k))
  obtain ⟨b, e, c, ec, k⟩ := good_truth g
  cases (show some (!b) = some c from ec)
  exact ⟨b, e, k⟩

/-! ### and, or, if else -/
theorem si_one {a : Expr} {ca : C} {op : BoolOp} {pos : Pos} (ha : Sim X L G cf a ca) : Sim X L G cf (.BoolOp op [a] pos) ca :=
  ⟨fun W tk ρ σd σ S H Q r rs h => ofE (pe_one (pE a)) (ha.run W tk ρ σd σ S H Q r rs h)⟩
theorem si_and {a b : Expr} {rest : List Expr} {ca cb : C} {pos : Pos} (ha : Sim X L G cf a ca) (hb : Sim X L G cf (.BoolOp .And (b :: rest) pos) cb) : Sim X L G cf (.BoolOp .And (a :: b :: rest) pos) (.and ca cb) := by
  refine ⟨fun W tk ρ σd σ S H Q r rs h => ?_⟩
  have h := Res.good_bind (r := evC cf G ca σd S) h
  refine ofE (pe_and (pE a) (pE _)) (ha.run W tk ρ σd σ S H _ r rs (h.imp (fun x S1 g ρ' H' v n p => ?_) fun _ _ _ k => k))
  split at g
  · cases (show v = .bl true from p)
    refine ⟨true, rfl, ?_⟩
    rw [if_pos rfl]
    exact hb.run W tk ρ' σd σ S1 H' Q n.r (n.rs rs) (g.at n)
  · cases (show v = .bl false from p)
    refine ⟨false, rfl, ?_⟩
    rw [if_neg Bool.false_ne_true]
    exact g ρ' H' _ n rfl
  · exact g.elim
theorem si_or {a b : Expr} {rest : List Expr} {ca cb : C} {pos : Pos} (ha : Sim X L G cf a ca) (hb : Sim X L G cf (.BoolOp .Or (b :: rest) pos) cb) : Sim X L G cf (.BoolOp .Or (a :: b :: rest) pos) (.or ca cb) := by
  refine ⟨fun W tk ρ σd σ S H Q r rs h => ?_⟩
  have h := Res.good_bind (r := evC cf G ca σd S) h
  refine ofE (pe_or (pE a) (pE _)) (ha.run W tk ρ σd σ S H _ r rs (h.imp (fun x S1 g ρ' H' v n p => ?_) fun _ _ _ k => k))
  split at g
  · cases (show v = .bl true from p)
    refine ⟨true, rfl, ?_⟩
    rw [if_pos rfl]
    exact g ρ' H' _ n rfl
  · cases (show v = .bl false from p)
    refine ⟨false, rfl, ?_⟩
    rw [if_neg Bool.false_ne_true]
    exact hb.run W tk ρ' σd σ S1 H' Q n.r (n.rs rs) (g.at n)
  · exact g.elim
/-- a test made of tests, whatever its whole -/
structure SimW' (X : Cx) (L : Pl) (G : Gd) (cf : Nat → List D → Store → Res D) (e : Expr) (c : C) : Prop where
  run : ∀ (W : WX) (_ : Takes X W) (ρ : Nat → Addr) (σd : Sl) (σ : L2.St) (S : Store) (H : Hp) (Q : Bool → Hp → Prop), Rel X.K L H ρ S → RX X L G H ρ S.n σd σ →
    (evC cf G c σd S).Good (fun d S' => ∃ b, truth S' d = some b ∧ ∀ ρ' H', Nx X.K L S H ρ S' H' ρ' → Q b H') (kX X.K L S H ρ (WE W σ)) → wW X e σ H Q
theorem sw_and1 {a : Expr} {ca : C} {pos : Pos} (ha : SimT X L G cf a ca) : SimW' X L G cf (.BoolOp .And [a] pos) ca :=
  ⟨fun W tk ρ σd σ S H Q r rs h => ofW (pw_and1 (pT a)) (ha.run W tk ρ σd σ S H Q r rs h)⟩
theorem sw_or1 {a : Expr} {ca : C} {pos : Pos} (ha : SimT X L G cf a ca) : SimW' X L G cf (.BoolOp .Or [a] pos) ca :=
  ⟨fun W tk ρ σd σ S H Q r rs h => ofW (pw_or1 (pT a)) (ha.run W tk ρ σd σ S H Q r rs h)⟩
/-- the test's wish behind more -/
theorem goodT_at {r : Res D} {S S1 : Store} {H H1 : Hp} {ρ ρ1 : Nat → Addr} {K : PySem.W.Frag} {E : XK} {Q : Bool → Hp → Prop} (h : r.Good (fun d S' => ∃ b, truth S' d = some b ∧ ∀ ρ' H', Nx K L S H ρ S' H' ρ' → Q b H') (kX K L S H ρ E)) (n : Nx K L S H ρ S1 H1 ρ1) :
    r.Good (fun d S' => ∃ b, truth S' d = some b ∧ ∀ ρ' H', Nx K L S1 H1 ρ1 S' H' ρ' → Q b H') (kX K L S1 H1 ρ1 E) := h.imp (fun _ _ ⟨b, e, k⟩ => ⟨b, e, fun ρ' H' n' => k ρ' H' (n.trans n')⟩) fun _ _ _ k => k.at n
theorem sw_and {a b : Expr} {rest : List Expr} {ca cb : C} {pos : Pos} (ha : SimT X L G cf a ca) (hb : SimW' X L G cf (.BoolOp .And (b :: rest) pos) cb) : SimW' X L G cf (.BoolOp .And (a :: b :: rest) pos) (.and ca cb) := by
  refine ⟨fun W tk ρ σd σ S H Q r rs h => ?_⟩
  have h := Res.good_bind (r := evC cf G ca σd S) h
  refine ofW (pw_and (pT a) (pW _)) (ha.run W tk ρ σd σ S H _ r rs (h.imp (fun x S1 g => ?_) fun _ _ _ k => k))
  split at g
  · refine ⟨true, rfl, fun ρ' H' n => ?_⟩
    rw [if_pos rfl]
    exact hb.run W tk ρ' σd σ S1 H' Q n.r (n.rs rs) (goodT_at g n)
  · obtain ⟨b, e, k⟩ := g
    cases (show some false = some b from e)
    refine ⟨false, rfl, fun ρ' H' n => ?_⟩
    rw [if_neg Bool.false_ne_true]
    exact k ρ' H' n
  · exact g.elim
theorem sw_or {a b : Expr} {rest : List Expr} {ca cb : C} {pos : Pos} (ha : SimT X L G cf a ca) (hb : SimW' X L G cf (.BoolOp .Or (b :: rest) pos) cb) : SimW' X L G cf (.BoolOp .Or (a :: b :: rest) pos) (.or ca cb) := by
  refine ⟨fun W tk ρ σd σ S H Q r rs h => ?_⟩
  have h := Res.good_bind (r := evC cf G ca σd S) h
  refine ofW (pw_or (pT a) (pW _)) (ha.run W tk ρ σd σ S H _ r rs (h.imp (fun x S1 g => ?_) fun _ _ _ k => k))
  split at g
  · obtain ⟨b, e, k⟩ := g
    cases (show some true = some b from e)
    refine ⟨true, rfl, fun ρ' H' n => ?_⟩
    rw [if_pos rfl]
    exact k ρ' H' n
  · refine ⟨false, rfl, fun ρ' H' n => ?_⟩
    rw [if_neg Bool.false_ne_true]
    exact hb.run W tk ρ' σd σ S1 H' Q n.r (n.rs rs) (goodT_at g n)
  · exact g.elim
theorem st_w {e : Expr} {c : C} (h : SimW' X L G cf e c) : SimT X L G cf e c := ⟨fun W tk ρ σd σ S H Q r rs g => ofT (pW e).pt (h.run W tk ρ σd σ S H Q r rs g)⟩
theorem si_ite {t a b : Expr} {ct ca cb : C} {pos : Pos} (hc : SimT X L G cf t ct) (ha : Sim X L G cf a ca) (hb : Sim X L G cf b cb) : Sim X L G cf (.IfExp t a b pos) (.ite ct ca cb) := by
  refine ⟨fun W tk ρ σd σ S H Q r rs h => ?_⟩
  have h := Res.good_bind (r := evC cf G ct σd S) h
  refine ofE (pe_ifExp (pT t) (pE a) (pE b)) (hc.run W tk ρ σd σ S H _ r rs (h.imp (fun x S1 g => ?_) fun _ _ _ k => k))
  obtain ⟨kb, e, g⟩ := good_truth g
  refine ⟨kb, e, fun ρ' H' n => ?_⟩
  cases kb with
  | true =>
    rw [if_pos rfl] at g ⊢
    exact ha.run W tk ρ' σd σ S1 H' Q n.r (n.rs rs) (g.at n)
  | false =>
    rw [if_neg Bool.false_ne_true] at g ⊢
    exact hb.run W tk ρ' σd σ S1 H' Q n.r (n.rs rs) (g.at n)

/-! ### lists of arguments, displays -/
theorem sa_nil : SimA X L G cf [] .nil := ⟨fun W tk ρ σd σ S H Q r rs h => ofA pa_nil (h ρ H _ (Nx.refl r) RpL.nil)⟩
theorem sa_cons {e : Expr} {es : List Expr} {c : C} {cs : Cs} (ha : Sim X L G cf e c) (hr : SimA X L G cf es cs) (hs : starEach (e :: es) X.env = (false, eval e X.env) :: starEach es X.env := by rfl) : SimA X L G cf (e :: es) (.cons c cs) := by
  refine ⟨fun W tk ρ σd σ S H Q r rs h => ?_⟩
  have h := Res.good_bind (r := evC cf G c σd S) h
  refine ofA (pa_cons (pE e) (pA es) hs) (ha.run W tk ρ σd σ S H _ r rs (h.imp (fun x S1 g ρ' H' v n p => ?_) fun _ _ _ k => k))
  refine hr.run W tk ρ' σd σ S1 H' _ n.r (n.rs rs) ((Res.good_bind g).imp (fun xs S2 k ρ2 H2 vs n2 p2 => ?_) fun _ _ _ k => k.at n)
  exact k ρ2 H2 _ (n.trans n2) (RpL.cons (n2.rp p) p2)
theorem si_tup {es : List Expr} {cs : Cs} {x1 : Nat} {pos : Pos} (ha : SimA X L G cf es cs) : Sim X L G cf (.Tuple es x1 pos) (.tup cs) := by
  refine ⟨fun W tk ρ σd σ S H Q r rs h => ?_⟩
  have h := Res.good_bind (r := evCs cf G cs σd S) h
  refine ofE (pe_tup (pA es)) (ha.run W tk ρ σd σ S H _ r rs (h.imp (fun ds S1 g ρ' H' vs n p => ?_) fun _ _ _ k => k))
  split at g
  · rename_i hl
    refine ⟨by rw [← p.length]; exact hl, fun q hq => ?_⟩
    have n2 := n.r.new (o := .tup vs) hq
    exact g ρ' _ _ (n.trans n2) ⟨q, vs, rfl, SqT.of upd_same, n2.rpl p⟩
  · exact g.elim
theorem si_lst {es : List Expr} {cs : Cs} {pos : Pos} (ha : SimA X L G cf es cs) : Sim X L G cf (.List es pos) (.lst cs) := by
  refine ⟨fun W tk ρ σd σ S H Q r rs h => ?_⟩
  have h := Res.good_bind (r := evCs cf G cs σd S) h
  refine ofE (pe_lst (pA es)) (ha.run W tk ρ σd σ S H _ r rs (h.imp (fun ds S1 g ρ' H' vs n p => ?_) fun _ _ _ k => k))
  split at g
  · rename_i hl
    refine ⟨by rw [← p.length]; exact hl, fun q hq => ?_⟩
    have n2 := n.r.push (o := .lst vs) (c := .lst true ds) hq ⟨vs, upd_same, p.mono (TM.new hq) more_agree (Nat.le_succ _)⟩
    exact g _ _ _ (n.trans n2) ⟨Nat.lt_succ_self _, by rw [more_new]⟩
  · exact g.elim
end
end QD

/-! QD3a: a text times a number; a tuple times 0 and 1. -/
namespace QD
open PySem PySem.Spec PyProof.Rows L2
def rMulS : R2 := fun x y H Q => ∃ (z : Str) (k : Int), x = .str z ∧ y = .int k ∧ 0 ≤ k ∧ k ≤ 10000 ∧ z.length ≤ 1000 ∧ Q (.str (mulS z k)) H
theorem mulS_len {z : Str} {k : Int} (h0 : 0 ≤ k) (h1 : k ≤ 10000) (h2 : z.length ≤ 1000) : (List.foldl (fun a b => a ++ b) #[] (List.replicate k.toNat z.cps)).size ≤ 10000000 := by
  have e : ∀ (n : Nat) (a : Array Nat), (List.foldl (fun a b => a ++ b) a (List.replicate n z.cps)).size = a.size + n * z.cps.size := by
    intro n
    induction n with
    | zero => intro a; simp
    | succ n ih =>
      intro a
      rw [List.replicate_succ, List.foldl_cons, ih, Array.size_append, Nat.succ_mul]
      omega
  rw [e]
  have : k.toNat * z.cps.size ≤ 10000 * 1000 := Nat.mul_le_mul (by omega) h2
  simpa using this
section
variable {X : Cx}
theorem op_mulS : OpR X (binaryOp .Mult) rMulS := by
  intro pins s σ H x y v u Q I rx ry h
  obtain ⟨z, k, rfl, rfl, h0, h1, h2, q⟩ := h
  obtain ⟨t, rfl⟩ := rx
  obtain ⟨t2, rfl⟩ := ry
  have hlen : z.length = z.cps.size := rfl
  refine PySem.P.mul_str (by rw [decide_eq_false (by omega), decide_eq_false (by omega)]; rfl) (fun a b => ?_) (fun a b => ?_) ?_
  · have hk : 0 < k := by omega
    have h3 : (1000 : Int) ≤ (2 ^ 63 - 1) / k := by
      rw [Int.le_ediv_iff_mul_le hk]
      omega
    omega
  · have : z.length * k.toNat ≤ 1000 * 10000 := Nat.mul_le_mul h2 (by omega)
    have h5 : ¬ z.length * k.toNat > sizeLine := by
      rw [sizeLine_eq]
      omega
    exact decide_eq_false h5
  · unfold mulS at q
    split
    · rename_i hk
      rw [if_pos hk] at q
      exact ⟨by decide, .str Str.empty, H, I.tok _, ⟨_, rfl⟩, q⟩
    · rename_i hk
      rw [if_neg hk] at q
      split
      · rename_i hz
        rw [if_pos hz] at q
        exact ⟨.str z, H, I.tok _, ⟨_, rfl⟩, q⟩
      · rename_i hz
        rw [if_neg hz] at q
        refine ⟨?_, .str _, H, I.tok _, ⟨_, rfl⟩, q⟩
        have := mulS_len h0 h1 h2
        show (List.foldl (fun a b => a ++ b) #[] (List.replicate k.toNat z.cps)).size ≤ sizeLine
        rw [sizeLine_eq]
        omega
/-- one time: the tuple itself -/
theorem qd_tup1 (l : Addr) (items : Array Value) (n : Nat) (dd : Option Addr) (sl : Array (Option Value)) (u : Tok) :
    Meets (Builtin.«tuple.__mul__» ⟨[.ref l, .int 1 u], []⟩) (fun _ R s => s.heap.get? l = some { cls := .type "tuple", dict := dd, data := .seq items n, slots := sl } ∧ R (.ok (.ret (.ref l))) s) :=
  .of_wp fun prog w A R s hh => by
    obtain ⟨hp, g, d, tk, os⟩ := s
    obtain ⟨at_, hh⟩ := hh
    have ix := AutoSeq1.idx_int
    have e0 : (decide ((1 : Int) < -(2 ^ 63)) || decide ((1 : Int) ≥ 2 ^ 63)) = false := by decide
    have e1 : (items.isEmpty || (1 : Int) == 1) = true := by rw [show ((1 : Int) == 1) = true from rfl, Bool.or_true]
    wp_walk using wpAny_loadPart' at_
    repeat (first
      | (refine wpAny_ite_false (decide_eq_false (by rw [e0]; exact Bool.false_ne_true)) ?_; wp_walk using wpAny_loadPart' at_)
      | (refine wpAny_ite_true (decide_eq_true e1) ?_; wp_walk using wpAny_loadPart' at_))
    exact ⟨_, rfl, hh⟩
/-- no time: the empty tuple -/
theorem qd_tup0 (l : Addr) (items : Array Value) (n : Nat) (dd : Option Addr) (sl : Array (Option Value)) (u : Tok) (ne : items.isEmpty = false) :
    Meets (Builtin.«tuple.__mul__» ⟨[.ref l, .int 0 u], []⟩) (fun _ R s => s.heap.get? l = some { cls := .type "tuple", dict := dd, data := .seq items n, slots := sl } ∧
      R (.ok (.ret (Value.ref s.heap.objs.size))) { s with heap := s.heap.push { cls := Value.type "tuple", data := Data.seq #[] }, toks := s.toks }) :=
  .of_wp fun prog w A R s hh => by
    obtain ⟨hp, g, d, tk, os⟩ := s
    obtain ⟨at_, hh⟩ := hh
    have ix := AutoSeq1.idx_int
    have e0 : (decide ((0 : Int) < -(2 ^ 63)) || decide ((0 : Int) ≥ 2 ^ 63)) = false := by decide
    have e1 : (items.isEmpty || (0 : Int) == 1) = false := by rw [ne]; rfl
    have e2 : (decide ((0 : Int) ≤ 0) || items.isEmpty) = true := rfl
    wp_walk using wpAny_loadPart' at_
    repeat (first
      | (refine wpAny_ite_false (decide_eq_false (by rw [e0]; exact Bool.false_ne_true)) ?_; wp_walk using wpAny_loadPart' at_)
      | (refine wpAny_ite_false (decide_eq_false (by rw [e1]; exact Bool.false_ne_true)) ?_; wp_walk using wpAny_loadPart' at_)
      | (refine wpAny_ite_true (decide_eq_true e2) ?_; wp_walk using wpAny_loadPart' at_))
    exact ⟨_, rfl, hh⟩
def rRep01 (K : PySem.W.Frag) : R2 := fun x y H Q => ∃ l k xs, x = .ref l ∧ y = .int k ∧ SqT K H l xs ∧ xs ≠ [] ∧ ((k = 1 ∧ Q (.ref l) H) ∨ (k = 0 ∧ ∀ p, H p = none → Q (.ref p) (upd H p (.tup []))))
theorem op_rep01 : OpR X (binaryOp .Mult) (rRep01 X.K) := by
  intro pins s σ H x y v u Q I rx ry h
  obtain ⟨l, k, xs, rfl, rfl, hT, hne, h⟩ := h
  cases rx
  obtain ⟨t, rfl⟩ := ry
  obtain ⟨its, r, ⟨⟨cls, dd, data, sl⟩, ho, hc, n, hd⟩, hs⟩ := I.tuple hT
  simp only at hc hd
  subst hc hd
  have hi : its.toArray.isEmpty = false := by
    cases its with
    | nil => exact absurd (List.eq_nil_of_length_eq_zero r.length) hne
    | cons a b => rfl
  rcases h with ⟨rfl, q⟩ | ⟨rfl, q⟩
  · refine wpAny_binaryOp_repeat_ref (T := "tuple") (U := "int") (by decide) ⟨_, ho, rfl⟩ (fun s' => typeIs_int s' 1 t) noFill_tuple_mul F.fills_int_mul F.slot_int_rmul repeat_tuple F.slot_int_index.lookup
      (call_meets F.slot_int_rmul (typeIs_int s 1 t) F.entry_int_rmul (F.args_int_rmul_2 _ _) (int_rmul_tuple 1 t l its.toArray n dd sl)
        ⟨ho, rfl, ⟨_, ho, rfl⟩, call_meets F.slot_tuple_mul ⟨_, ho, rfl⟩ F.entry_tuple_mul (F.args_tuple_mul_2 _ _) (qd_tup1 l its.toArray n dd sl t) ⟨ho, ?_⟩⟩)
    exact ⟨.ref l, H, I, rfl, q⟩
  · refine wpAny_binaryOp_repeat_ref (T := "tuple") (U := "int") (by decide) ⟨_, ho, rfl⟩ (fun s' => typeIs_int s' 0 t) noFill_tuple_mul F.fills_int_mul F.slot_int_rmul repeat_tuple F.slot_int_index.lookup
      (call_meets F.slot_int_rmul (typeIs_int s 0 t) F.entry_int_rmul (F.args_int_rmul_2 _ _) (int_rmul_tuple 0 t l its.toArray n dd sl)
        ⟨ho, rfl, ⟨_, ho, rfl⟩, call_meets F.slot_tuple_mul ⟨_, ho, rfl⟩ F.entry_tuple_mul (F.args_tuple_mul_2 _ _) (qd_tup0 l its.toArray n dd sl t hi) ⟨ho, ?_⟩⟩)
    refine ⟨.ref s.heap.objs.size, _, I.laid (t' := s.toks) (o := .tup []) (fun b ob q => Heap.get?_push_of_some _ q) (Nat.le_refl _) ?_, rfl, q _ (I.hok.fresh (Nat.le_refl _))⟩
    exact ⟨Nat.zero_le _, _, .nil, IsTup.new _ _⟩
end
end QD

/-! QD3b: == and != of two lists of the same things. -/
namespace QD
open PySem PySem.Spec PyProof.Rows L2
/-- flat, or a thing of the store -/
def sameV (v : V) : Prop := flatB v = true ∨ ∃ a, v = .ref a
def rSame (K : PySem.W.Frag) (b : Bool) : R2 := fun x y H Q => ∃ i j xs, x = .ref i ∧ y = .ref j ∧ SqL K H i xs ∧ SqL K H j xs ∧ (∀ v ∈ xs, sameV v) ∧ Q (.bl b) H
theorem same_run {A : Around} {s : Shared} {v : V} {u w : Value} (h : sameV v) (r1 : RelV v u) (r2 : RelV v w) : SeqAt.EqAt A s u w true := by
  rcases h with f | ⟨a, rfl⟩
  · exact eqAt_same r1 r2 f
  · cases (show u = Value.ref a from r1)
    cases (show w = Value.ref a from r2)
    exact SeqAt.EqAt.same _
theorem same_all {A : Around} {s : Shared} : ∀ {xs : List V} {us ws : List Value}, (∀ v ∈ xs, sameV v) → Vals xs us → Vals xs ws → ∀ (j : Nat) (h1 : j < us.length) (h2 : j < ws.length), SeqAt.EqAt A s us[j] ws[j] true
  | [], _, _, _, .nil, .nil, j, h1, _ => absurd h1 (Nat.not_lt_zero j)
  | x :: xs, _, _, h, .cons a1 b1, .cons a2 b2, 0, _, _ => same_run (h x List.mem_cons_self) a1 a2
  | x :: xs, _, _, h, .cons a1 b1, .cons a2 b2, j + 1, h1, h2 => same_all (fun v m => h v (List.mem_cons_of_mem _ m)) b1 b2 j (Nat.lt_of_succ_lt_succ h1) (Nat.lt_of_succ_lt_succ h2)
section
variable {X : Cx}
theorem op_neI (hu : X.A.units + 64 < cLine) : OpR X (compareOp .NotEq) (rSame X.K false) := by
  intro pins s σ H x y v u Q I rx ry h
  obtain ⟨i, j, xs, rfl, rfl, h1, h2, h3, q⟩ := h
  cases (show v = Value.ref i from rx)
  cases (show u = Value.ref j from ry)
  obtain ⟨us, r1, p1, _⟩ := I.list h1
  obtain ⟨ws, r2, p2, _⟩ := I.list h2
  have hsz : us.toArray.size = ws.toArray.size := by rw [List.size_toArray, List.size_toArray, ← r1.length, ← r2.length]
  refine SeqAt.RcNeAt.lists (A := X.A) (s := s) (e := fun _ => true) p1.isList p2.isList hsz (by omega) (fun k k1 k2 => ?_) X.prog X.w _ _ ?_
  · have z := same_all (A := X.A.in1) (s := s) h3 r1 r2 k (by simpa using k1) (by simpa using k2)
    simpa using z
  · rw [show ((List.range us.toArray.size).all fun _ => true) = true from List.all_eq_true.mpr fun _ _ => rfl]
    exact ⟨.bl false, H, I, rfl, q⟩
theorem op_eqI (hu : X.A.units + 64 < cLine) : OpR X (compareOp .Eq) (rSame X.K true) := by
  intro pins s σ H x y v u Q I rx ry h
  obtain ⟨i, j, xs, rfl, rfl, h1, h2, h3, q⟩ := h
  refine op_eqV hu pins s σ H _ _ v u Q I rx ry ⟨1, by decide, .inl ⟨i, j, xs, xs, rfl, rfl, h1, h2, ?_⟩, q⟩
  have : ∀ ys : List V, (∀ v ∈ ys, sameV v) → Paired (EqV X.K H 1) ys ys := by
    intro ys
    induction ys with
    | nil => intro _; exact .nil
    | cons y ys ih =>
      intro hh
      refine .cons ?_ (ih fun v m => hh v (List.mem_cons_of_mem _ m))
      rcases hh y List.mem_cons_self with f | ⟨a, e⟩
      · exact .inl ⟨rfl, f⟩
      · exact .inr (.inl ⟨a, e, e⟩)
  exact this xs h3
end
end QD
/-! ### a dict beside a text -/
namespace PySem.SeqAt
open AutoSeq1 (wpAny_loadPart')
open MeetsSeq MeetsSeq2 MeetsSeq3
theorem str_ne_declines_dict (b : Str) (u : Tok) (l : Addr) (c : Value) (es : Array DictEntry) (n : Nat) (dd : Option Addr) (sl : Array (Option Value)) :
    Meets (Builtin.«str.__ne__» ⟨[.str b u, .ref l], []⟩) (fun _ R s => s.heap.get? l = some { cls := c, dict := dd, data := .dict es n, slots := sl } ∧ R (.ok (.ret .notImplemented)) s) :=
  .of_wp fun prog w A R s h => by obtain ⟨hp, g, d, tk, os⟩ := s; obtain ⟨hl, h⟩ := h; wp_walk using wpAny_loadPart' hl, wpAny_load hl; exact ⟨_, rfl, h⟩
theorem str_eq_declines_dict (b : Str) (u : Tok) (l : Addr) (c : Value) (es : Array DictEntry) (n : Nat) (dd : Option Addr) (sl : Array (Option Value)) :
    Meets (Builtin.«str.__eq__» ⟨[.str b u, .ref l], []⟩) (fun _ R s => s.heap.get? l = some { cls := c, dict := dd, data := .dict es n, slots := sl } ∧ R (.ok (.ret .notImplemented)) s) :=
  .of_wp fun prog w A R s h => by obtain ⟨hp, g, d, tk, os⟩ := s; obtain ⟨hl, h⟩ := h; wp_walk using wpAny_loadPart' hl, wpAny_load hl; exact ⟨_, rfl, h⟩
theorem call_dict_ne_str {prog : Program} {w : World} {A : Around} {E : Value → Shared → Prop} {s : Shared} {l : Addr} {b : Str} {u : Tok} (h : s.TypeIs (.ref l) "dict") {Q : Value → Shared → Prop} (hq : Q .notImplemented s) : wpAny (model prog w) A (call (.builtin "dict.__ne__") [.ref l, .str b u]) Q E s := by
  refine wpAny_call_entry PySem.F.slot_dict_ne h PySem.F.entry_dict_ne ?_ (PySem.F.args_dict_ne_2 _ _)
  show wpAny _ _ (Builtin.Dict.dictSlotArgs "__ne__" ⟨[.ref l, .str b u], []⟩ >>= _) _ _ s
  refine wpAny_bind ?_
  unfold Builtin.Dict.dictSlotArgs
  refine wpAny_bind (wpAny_notOrdered_dict h ?_)
  show wpAny _ _ (pure (Value.ref l, Value.str b u)) _ _ s
  refine wpAny_pure ?_
  refine wpAny_bind (wpAny_isInstance (T := "str") (typeIs_str s b u) PySem.F.sub_str_dict ?_)
  simp only [Bool.not_false, if_true]
  refine wpAny_bind (wpAny_rule ?_)
  refine wpAny_pure ⟨_, rfl, ?_⟩
  exact hq
theorem call_dict_eq_str {prog : Program} {w : World} {A : Around} {E : Value → Shared → Prop} {s : Shared} {l : Addr} {b : Str} {u : Tok} (h : s.TypeIs (.ref l) "dict") {Q : Value → Shared → Prop} (hq : Q .notImplemented s) : wpAny (model prog w) A (call (.builtin "dict.__eq__") [.ref l, .str b u]) Q E s := by
  refine wpAny_call_entry PySem.F.slot_dict_eq h PySem.F.entry_dict_eq ?_ (PySem.F.args_dict_eq_2 _ _)
  show wpAny _ _ (Builtin.Dict.dictSlotArgs "__eq__" ⟨[.ref l, .str b u], []⟩ >>= _) _ _ s
  refine wpAny_bind ?_
  unfold Builtin.Dict.dictSlotArgs
  refine wpAny_bind (wpAny_notOrdered_dict h ?_)
  show wpAny _ _ (pure (Value.ref l, Value.str b u)) _ _ s
  refine wpAny_pure ?_
  refine wpAny_bind (wpAny_isInstance (T := "str") (typeIs_str s b u) PySem.F.sub_str_dict ?_)
  simp only [Bool.not_false, if_true]
  refine wpAny_bind (wpAny_rule ?_)
  refine wpAny_pure ⟨_, rfl, ?_⟩
  exact hq
end PySem.SeqAt

namespace QD
open PySem PySem.Spec PyProof.Rows L2
/-- a dict beside a text -/
def rDs (c : Bool) : R2 := fun x y H Q => ∃ a kvs z, x = .ref a ∧ Rd H a (.dK kvs) ∧ y = .str z ∧ Q (.bl c) H
section
variable {X : Cx}
theorem op_neDs (hu : X.A.units < cLine) : OpR X (compareOp .NotEq) (rDs true) := by
  intro pins s σ H x y v u Q I rx ry h
  obtain ⟨a, kvs, z, rfl, e, rfl, q⟩ := h
  obtain rfl : v = Value.ref a := rx
  obtain ⟨t, rfl⟩ : ∃ t, u = Value.str z t := ry
  obtain ⟨_, _, va, ra, da⟩ := dk_rd I.hok e
  obtain ⟨⟨c, dd, data, sl⟩, es, ep, ho, hx, hd, _⟩ := id da
  simp only at hd
  subst hd
  exact SeqAt.rc_ne_decline_or (k := false) da.typeIs (typeIs_str s z t) (by decide) F.sub_str_dict F.slot_dict_ne F.slot_str_ne_refl
    (fun _ hq => SeqAt.call_dict_ne_str da.typeIs hq)
    (fun _ hq => call_meets F.slot_str_ne_refl (typeIs_str s z t) F.entry_str_ne (F.args_str_ne_2 _ _) (SeqAt.str_ne_declines_dict z t a c es ep dd sl) ⟨ho, hq⟩)
    (fun _ hq => wpAny_of_eq (rfl : isSame (.ref a) (.str z t) = pure false) hq) (.inr hu) ⟨.bl true, H, I, rfl, q⟩
theorem op_eqDs (hu : X.A.units < cLine) : OpR X (compareOp .Eq) (rDs false) := by
  intro pins s σ H x y v u Q I rx ry h
  obtain ⟨a, kvs, z, rfl, e, rfl, q⟩ := h
  obtain rfl : v = Value.ref a := rx
  obtain ⟨t, rfl⟩ : ∃ t, u = Value.str z t := ry
  obtain ⟨_, _, va, ra, da⟩ := dk_rd I.hok e
  obtain ⟨⟨c, dd, data, sl⟩, es, ep, ho, hx, hd, _⟩ := id da
  simp only at hd
  subst hd
  exact SeqAt.rc_eq_decline_or (k := false) da.typeIs (typeIs_str s z t) (by decide) F.sub_str_dict F.slot_dict_eq F.slot_str_eq_refl
    (fun _ hq => SeqAt.call_dict_eq_str da.typeIs hq)
    (fun _ hq => call_meets F.slot_str_eq_refl (typeIs_str s z t) F.entry_str_eq (F.args_str_eq_2 _ _) (SeqAt.str_eq_declines_dict z t a c es ep dd sl) ⟨ho, hq⟩)
    (fun _ hq => wpAny_of_eq (rfl : isSame (.ref a) (.str z t) = pure false) hq) (.inr hu) ⟨.bl false, H, I, rfl, q⟩
end
end QD
/-! ### == of nested lists and tuples of the same things -/
namespace QD
open PySem PySem.Spec PyProof.Rows L2
/-- the same things, of nesting below n -/
def sameW (K : PySem.W.Frag) (H : Hp) : Nat → V → V → Prop
  | 0 => fun _ _ => False
  | n + 1 => fun v w => (v = w ∧ sameV v) ∨ ∃ a b xs ys, v = .ref a ∧ w = .ref b ∧ ((SqL K H a xs ∧ SqL K H b ys) ∨ (SqT K H a xs ∧ SqT K H b ys)) ∧ Paired (sameW K H n) xs ys
theorem sameW_items {A : Around} {s : Shared} {F : V → V → Prop} (ih : ∀ v w u u', F v w → RelV v u → RelV w u' → SeqAt.EqAt A s u u' true) {xs ys : List V} (p : Paired F xs ys) : ∀ {us ws : List Value}, Vals xs us → Vals ys ws → ∀ (j : Nat) (h1 : j < us.length) (h2 : j < ws.length), SeqAt.EqAt A s us[j] ws[j] true := by
  induction p with
  | nil =>
    intro us ws r1 r2 j h1 h2
    cases r1
    exact absurd h1 (Nat.not_lt_zero j)
  | cons h t k =>
    intro us ws r1 r2 j h1 h2
    cases r1 with
    | cons a1 b1 =>
      cases r2 with
      | cons a2 b2 =>
        cases j with
        | zero => exact ih _ _ _ _ h a1 a2
        | succ j => exact k b1 b2 j (Nat.lt_of_succ_lt_succ h1) (Nat.lt_of_succ_lt_succ h2)
section
variable {X : Cx} {pins : List (Addr × Obj)} {σ : L2.St} {H : Hp} {s : Shared}
theorem all_t (n : Nat) : ((List.range n).all fun _ => true) = true := List.all_eq_true.mpr fun _ _ => rfl
theorem sameW_rc (I : Inv X pins σ H s) {A : Around} {n : Nat} (hu : A.units < cLine) (ih : ∀ v w u u', sameW X.K H n v w → RelV v u → RelV w u' → SeqAt.EqAt A.in1 s u u' true) {a b : Addr} {xs ys : List V} (h : (SqL X.K H a xs ∧ SqL X.K H b ys) ∨ (SqT X.K H a xs ∧ SqT X.K H b ys)) (p : Paired (sameW X.K H n) xs ys) :
    SeqAt.RcAt A s (.ref a) (.ref b) true ∧ SeqAt.RcNeAt A s (.ref a) (.ref b) false := by
  have len := Paired.length p
  rcases h with ⟨h1, h2⟩ | ⟨h1, h2⟩
  · obtain ⟨us, r1, p1, _⟩ := I.list h1
    obtain ⟨ws, r2, p2, _⟩ := I.list h2
    have hsz : us.toArray.size = ws.toArray.size := by
      rw [List.size_toArray, List.size_toArray, ← r1.length, ← r2.length]
      exact len
    have it := sameW_items ih p r1 r2
    have q1 := SeqAt.RcAt.lists (A := A) (s := s) (e := fun _ => true) p1.isList p2.isList hsz hu (fun j k1 k2 => by
      have k := it j (by simpa using k1) (by simpa using k2)
      simpa using k)
    have q2 := SeqAt.RcNeAt.lists (A := A) (s := s) (e := fun _ => true) p1.isList p2.isList hsz hu (fun j k1 k2 => by
      have k := it j (by simpa using k1) (by simpa using k2)
      simpa using k)
    rw [all_t] at q1 q2
    exact ⟨q1, q2⟩
  · obtain ⟨us, r1, p1, _⟩ := I.tuple h1
    obtain ⟨ws, r2, p2, _⟩ := I.tuple h2
    have hsz : us.toArray.size = ws.toArray.size := by
      rw [List.size_toArray, List.size_toArray, ← r1.length, ← r2.length]
      exact len
    have it := sameW_items ih p r1 r2
    have q1 := SeqAt.RcAt.tuples (A := A) (s := s) (e := fun _ => true) p1 p2 hu (fun j k1 k2 => by
      have k := it j (by simpa using k1) (by simpa using k2)
      simpa using k)
    have q2 := SeqAt.RcNeAt.tuples (A := A) (s := s) (e := fun _ => true) p1 p2 hu (fun j k1 k2 => by
      have k := it j (by simpa using k1) (by simpa using k2)
      simpa using k)
    rw [all_t, hsz, beq_self_eq_true] at q1 q2
    exact ⟨q1, q2⟩
theorem sameW_at (I : Inv X pins σ H s) : ∀ (n : Nat) (A : Around), A.units + n < cLine → ∀ (v w : V) (u u' : Value), sameW X.K H n v w → RelV v u → RelV w u' → SeqAt.EqAt A s u u' true
  | 0, _, _, _, _, _, _, h, _, _ => (show False from h).elim
  | n + 1, A, hu, v, w, u, u', h, rv, rw_ => by
    rcases h with ⟨rfl, k⟩ | ⟨a, b, xs, ys, rfl, rfl, h, p⟩
    · exact same_run k rv rw_
    · cases (show u = Value.ref a from rv)
      cases (show u' = Value.ref b from rw_)
      by_cases e : a = b
      · subst e
        exact SeqAt.EqAt.same _
      · exact SeqAt.EqAt.of_refs e (sameW_rc I (by omega) (sameW_at I n A.in1 (by show A.units + 1 + n < cLine; omega)) h p).1
end
def rDp (K : PySem.W.Frag) (c : Bool) : R2 := fun x y H Q => ∃ n a b xs ys, n ≤ 60 ∧ x = .ref a ∧ y = .ref b ∧ ((SqL K H a xs ∧ SqL K H b ys) ∨ (SqT K H a xs ∧ SqT K H b ys)) ∧ Paired (sameW K H n) xs ys ∧ Q (.bl c) H
section
variable {X : Cx}
theorem op_eqDp (hu : X.A.units + 64 < cLine) : OpR X (compareOp .Eq) (rDp X.K true) := by
  intro pins s σ H x y v u Q I rx ry h
  obtain ⟨n, a, b, xs, ys, hn, rfl, rfl, h, p, q⟩ := h
  cases (show v = Value.ref a from rx)
  cases (show u = Value.ref b from ry)
  exact (sameW_rc I (A := X.A) (by omega) (sameW_at I n X.A.in1 (by show X.A.units + 1 + n < cLine; omega)) h p).1 X.prog X.w _ _ ⟨.bl true, H, I, rfl, q⟩
theorem op_neDp (hu : X.A.units + 64 < cLine) : OpR X (compareOp .NotEq) (rDp X.K false) := by
  intro pins s σ H x y v u Q I rx ry h
  obtain ⟨n, a, b, xs, ys, hn, rfl, rfl, h, p, q⟩ := h
  cases (show v = Value.ref a from rx)
  cases (show u = Value.ref b from ry)
  exact (sameW_rc I (A := X.A) (by omega) (sameW_at I n X.A.in1 (by show X.A.units + 1 + n < cLine; omega)) h p).2 X.prog X.w _ _ ⟨.bl false, H, I, rfl, q⟩
end
end QD

/-! QD3: operators and comparisons by values. -/
namespace QD
open PySem PySem.Spec PyProof.Rows L2
theorem Res.of_ok {α : Type} {o : Option α} {S S' : Store} {a : α} (h : Res.of o S = .ok a S') : o = some a ∧ S' = S := by
  cases o with
  | none => cases h
  | some b => cases h; exact ⟨rfl, rfl⟩
/-- what an operator does by values -/
def OpD (X : Cx) (L : Pl) (f : Value → Value → Sem Value) (g : Store → D → D → Res D) : Prop := ∀ (ρ : Nat → Addr) (S : Store) (H : Hp) (x y d : D) (S' : Store) (vx vy : V), Rel X.K L H ρ S → Rp X.K L H ρ S.n x vx → Rp X.K L H ρ S.n y vy → g S x y = .ok d S' →
  ∃ r : R2, OpR X f r ∧ ∀ Q : VK, (∀ ρ' H' v, Nx X.K L S H ρ S' H' ρ' → Rp X.K L H' ρ' S'.n d v → Q v H') → r vx vy H Q
/-- comparisons by values -/
def CmD (X : Cx) (L : Pl) (f : Value → Value → Sem Value) (g : Store → D → D → Option Bool) : Prop := ∀ (ρ : Nat → Addr) (S : Store) (H : Hp) (x y : D) (b : Bool) (vx vy : V), Rel X.K L H ρ S → Rp X.K L H ρ S.n x vx → Rp X.K L H ρ S.n y vy → g S x y = some b →
  ∃ r : R2, OpR X f r ∧ ∀ Q : VK, Q (.bl b) H → r vx vy H Q
section
variable {X : Cx} {L : Pl} {G : Gd}
theorem od_int {f : Value → Value → Sem Value} {o : Op} {g : Int → Int → Int} (P : Int → Int → Prop) (rule : OpR X f (rI P fun i j => .int (g i j)))
    (he : ∀ S x y d S', evOp S o x y = .ok d S' → ∃ i j, x = .int i ∧ y = .int j ∧ P i j ∧ d = .int (g i j) ∧ S' = S) : OpD X L f (fun S x y => evOp S o x y) := by
  intro ρ S H x y d S' vx vy r px py h
  obtain ⟨i, j, rfl, rfl, hp, rfl, rfl⟩ := he S x y d S' h
  cases (show vx = .int i from px)
  cases (show vy = .int j from py)
  exact ⟨_, rule, fun Q k => ⟨i, j, rfl, rfl, hp, k ρ H _ (Nx.refl r) rfl⟩⟩
theorem OpR.of0 {f : Value → Value → Sem Value} {g : Int → Int → V} (h : OpR X f (rI0 g)) : OpR X f (rI (fun _ _ => True) g) := fun pins s σ H x y v u Q I rx ry ⟨i, j, e1, e2, _, q⟩ => h pins s σ H x y v u Q I rx ry ⟨i, j, e1, e2, q⟩
local macro_rules | `(tactic| walk_at "pd_int") => `(tactic| (intro S x y d S' h; cases x <;> cases y <;> first | cases h; done | exact ⟨_, _, rfl, rfl, trivial, by cases h; rfl, by cases h; rfl⟩ | (simp only [evOp] at h; split at h; (rename_i hc; cases h; exact ⟨_, _, rfl, rfl, hc, rfl, rfl⟩); cases h)))
theorem od_sub : OpD X L (binaryOp .Sub) (fun S x y => evOp S .sub x y) := od_int _ (OpR.of0 op_sub) (by walk_at "pd_int")
theorem od_fdiv : OpD X L (binaryOp .FloorDiv) (fun S x y => evOp S .fdiv x y) := od_int _ op_fdivW (by walk_at "pd_int")
theorem od_mod : OpD X L (binaryOp .Mod) (fun S x y => evOp S .mod x y) := od_int _ op_mod (by walk_at "pd_int")
theorem od_pow : OpD X L (binaryOp .Pow) (fun S x y => evOp S .pow x y) := od_int _ op_pow (by walk_at "pd_int")
theorem od_shl : OpD X L (binaryOp .LShift) (fun S x y => evOp S .shl x y) := od_int _ op_shl (by walk_at "pd_int")
theorem od_shr : OpD X L (binaryOp .RShift) (fun S x y => evOp S .shr x y) := od_int _ op_shr (by walk_at "pd_int")
theorem od_band : OpD X L (binaryOp .BitAnd) (fun S x y => evOp S .band x y) := od_int _ (OpR.of0 op_and) (by walk_at "pd_int")
theorem od_bor : OpD X L (binaryOp .BitOr) (fun S x y => evOp S .bor x y) := od_int _ (OpR.of0 op_or) (by walk_at "pd_int")
theorem od_bxor : OpD X L (binaryOp .BitXor) (fun S x y => evOp S .bxor x y) := od_int _ (OpR.of0 op_xor) (by walk_at "pd_int")
/-! () + t is t itself -/
theorem tuple_addW0 (t b : Addr) (items items2 : Array Value) (n n2 : Nat) (dd dd2 : Option Addr) (sl sl2 : Array (Option Value)) (h1 : items.isEmpty = true) :
    PySem.Meets (Builtin.«tuple.__add__» ⟨[.ref t, .ref b], []⟩) (fun _ R s => s.heap.get? t = some { cls := .type "tuple", dict := dd, data := .seq items n, slots := sl } ∧ s.heap.get? b = some { cls := .type "tuple", dict := dd2, data := .seq items2 n2, slots := sl2 } ∧
      R (.ok (.ret (Value.ref b))) { s with heap := s.heap, toks := s.toks }) :=
  .of_wp fun prog w A R s h => by
    obtain ⟨hp, g, d, tk, os⟩ := s
    obtain ⟨hl, hb, h⟩ := h
    have f1 := PySem.AutoSeq1.idx_int
    have f2 := PySem.AutoSeq1.sub_tuple_tuple
    have f3 := PySem.AutoSeq1.sub_list_list
    have f4 := PySem.AutoSeq1.sub_tuple_list
    have f5 := PySem.AutoSeq1.sub_list_tuple
    wp_walk using wpAny_loadPart' hl, wpAny_loadPart' hb
    exact ⟨_, rfl, h⟩
theorem cat_tup0 {prog : Program} {w : World} {A : Around} {E : Value → Shared → Prop} {s : Shared} {t b : Addr} {ws : List Value} {Q : Value → Shared → Prop} (ht : IsTup s.heap t ([] : List Value).toArray) (hb : IsTup s.heap b ws.toArray) (h1 : Q (.ref b) s) : wpAny (model prog w) A (binaryOp .Add (.ref t) (.ref b)) Q E s := by
  obtain ⟨⟨cls, dd, data, sl⟩, ho, hc, n, hd⟩ := id ht
  obtain ⟨⟨cls2, dd2, data2, sl2⟩, ho2, hc2, n2, hd2⟩ := id hb
  simp only at hc hd hc2 hd2
  subst hc hd hc2 hd2
  exact concat_meets ⟨_, ho, rfl⟩ ⟨_, ho2, rfl⟩ noFill_tuple_add seq_tuple_add PySem.F.slot_tuple_add PySem.F.entry_tuple_add (PySem.F.args_tuple_add_2 _ _) (tuple_addW0 t b _ ws.toArray n n2 dd dd2 sl sl2 rfl) ⟨ho, ho2, h1⟩
def rCat0 (K : PySem.W.Frag) : R2 := fun x y H Q => ∃ a b ys, x = .ref a ∧ y = .ref b ∧ SqT K H a [] ∧ SqT K H b ys ∧ Q (.ref b) H
theorem op_cat0 : OpR X (binaryOp .Add) (rCat0 X.K) := by
  intro pins s σ H x y v u Q I rx ry h
  obtain ⟨a, b, ys, rfl, rfl, ha, hb, q⟩ := h
  cases rx
  cases ry
  obtain ⟨its, r1, p1, _⟩ := I.tuple ha
  obtain ⟨its2, r2, p2, _⟩ := I.tuple hb
  cases r1
  exact cat_tup0 p1 p2 ⟨.ref b, H, I, rfl, q⟩
theorem RpL.nil_iff {K : PySem.W.Frag} {H : Hp} {ρ : Nat → Addr} {n : Nat} {ds : List D} {vs : List V} (h : RpL K L H ρ n ds vs) : ds = [] ↔ vs = [] := by
  have e := h.length
  cases ds <;> cases vs <;> simp at e ⊢
theorem od_add : OpD X L (binaryOp .Add) (fun S x y => evOp S .add x y) := by
  intro ρ S H x y d S' vx vy r px py h
  cases x with
  | int i =>
    cases y <;> first | (cases h; done) | skip
    rename_i j
    cases h
    cases (show vx = .int i from px)
    cases (show vy = .int j from py)
    exact ⟨_, op_add, fun Q k => ⟨i, j, rfl, rfl, k ρ H _ (Nx.refl r) rfl⟩⟩
  | str i =>
    cases y <;> first | (cases h; done) | skip
    rename_i j
    have h1 : (if i.length + j.length ≤ sizeLine then Res.ok (D.str (i ++ j)) S else .stuck) = .ok d S' := h
    split at h1
    · rename_i hc
      cases h1
      cases (show vx = .str i from px)
      cases (show vy = .str j from py)
      exact ⟨_, op_add_str, fun Q k => ⟨i, j, rfl, rfl, hc, k ρ H _ (Nx.refl r) rfl⟩⟩
    · cases h1
  | tup i =>
    cases y <;> first | (cases h; done) | skip
    rename_i j
    have h1 : (if i.length + j.length ≤ sizeLine then Res.ok (D.tup (i ++ j)) S else .stuck) = .ok d S' := h
    split at h1
    · rename_i hc
      cases h1
      obtain ⟨a, xs, rfl, sa, la⟩ := (show ∃ a vs, vx = .ref a ∧ SqT X.K H a vs ∧ RpL X.K L H ρ S.n i vs from px)
      obtain ⟨b, ys, rfl, sb, lb⟩ := (show ∃ a vs, vy = .ref a ∧ SqT X.K H a vs ∧ RpL X.K L H ρ S.n j vs from py)
      by_cases hx : xs = []
      · subst hx
        have e := la.nil_iff.mpr rfl
        subst e
        exact ⟨_, op_cat0, fun Q k => ⟨a, b, ys, rfl, rfl, sa, sb, k ρ H _ (Nx.refl r) ⟨b, ys, rfl, sb, lb⟩⟩⟩
      · refine ⟨_, op_catT, fun Q k => ⟨a, b, xs, ys, rfl, rfl, sa, sb, hx, by rw [← la.length, ← lb.length]; exact hc, fun hy => ?_, fun hy q hq => ?_⟩⟩
        · have e := lb.nil_iff.mpr hy
          subst e
          refine k ρ H _ (Nx.refl r) ⟨a, xs, rfl, sa, ?_⟩
          rw [List.append_nil]
          exact la
        · have n2 := r.new (o := .tup (xs ++ ys)) hq
          exact k ρ _ _ n2 ⟨q, xs ++ ys, rfl, SqT.of upd_same, n2.rpl (la.append lb)⟩
    · cases h1
  | ref i =>
    cases y <;> first | (cases h; done) | skip
    rename_i j
    have h1 : (match S.get i, S.get j with
      | some (.lst true x), some (.lst true y) => if x.length + y.length ≤ sizeLine then Res.ok (D.ref S.n) (S.push (.lst true (x ++ y))) else .stuck
      | _, _ => .stuck) = .ok d S' := h
    split at h1
    · rename_i x y ei ej
      split at h1
      · rename_i hc
        cases h1
        obtain ⟨_, rfl⟩ := (show i < S.n ∧ vx = .ref (ρ i) from px)
        obtain ⟨_, rfl⟩ := (show j < S.n ∧ vy = .ref (ρ j) from py)
        obtain ⟨xs, ha, la⟩ := r.cell i _ ei
        obtain ⟨ys, hb, lb⟩ := r.cell j _ ej
        refine ⟨_, op_cat, fun Q k => ⟨_, _, xs, ys, rfl, rfl, ha, hb, by rw [← la.length, ← lb.length]; exact hc, fun q hq => ?_⟩⟩
        have n2 := r.push (o := .lst (xs ++ ys)) (c := .lst true (x ++ y)) hq ⟨_, upd_same, (la.append lb).mono (TM.new hq) more_agree (Nat.le_succ _)⟩
        exact k _ _ _ n2 ⟨Nat.lt_succ_self _, by rw [more_new]⟩
      · cases h1
    · cases h1
  | non => cases y <;> cases h
  | bl _ => cases y <;> cases h
  | kd _ => cases y <;> cases h
theorem od_mul : OpD X L (binaryOp .Mult) (fun S x y => evOp S .mul x y) := by
  intro ρ S H x y d S' vx vy r px py h
  cases x with
  | int i =>
    cases y <;> first | (cases h; done) | skip
    rename_i j
    have h1 : (if (-(2 ^ 64) < i ∧ i < 2 ^ 64) ∨ (-(2 ^ 64) < j ∧ j < 2 ^ 64) then Res.ok (D.int (i * j)) S else .stuck) = .ok d S' := h
    split at h1
    · rename_i hc
      cases h1
      cases (show vx = .int i from px)
      cases (show vy = .int j from py)
      exact ⟨_, op_mul, fun Q k => ⟨i, j, rfl, rfl, hc, k ρ H _ (Nx.refl r) rfl⟩⟩
    · cases h1
  | tup i =>
    cases y <;> first | (cases h; done) | skip
    rename_i j
    have h1 : (if (i.isEmpty = false) ∧ 0 ≤ j ∧ j ≤ 1000 ∧ i.length ≤ 1000 then Res.ok (D.tup (List.replicate j.toNat i).flatten) S else .stuck) = .ok d S' := h
    split at h1
    · rename_i hc
      obtain ⟨h0, h2, h3, h4⟩ := hc
      cases h1
      cases (show vy = .int j from py)
      obtain ⟨a, xs, rfl, sa, la⟩ := (show ∃ a vs, vx = .ref a ∧ SqT X.K H a vs ∧ RpL X.K L H ρ S.n i vs from px)
      have nz : xs ≠ [] := fun z => (by have e := la.nil_iff.mpr z; subst e; cases h0)
      by_cases j0 : j = 0
      · subst j0
        refine ⟨_, op_rep01, fun Q k => ⟨a, 0, xs, rfl, rfl, sa, nz, .inr ⟨rfl, fun q hq => ?_⟩⟩⟩
        have n2 := r.new (o := .tup []) hq
        exact k ρ _ _ n2 ⟨q, [], rfl, SqT.of upd_same, RpL.nil⟩
      · by_cases j1 : j = 1
        · subst j1
          have e1 : (List.replicate (1 : Int).toNat i).flatten = i := by simp
          refine ⟨_, op_rep01, fun Q k => ⟨a, 1, xs, rfl, rfl, sa, nz, .inl ⟨rfl, ?_⟩⟩⟩
          rw [e1] at k
          exact k ρ H _ (Nx.refl r) ⟨a, xs, rfl, sa, la⟩
        · refine ⟨_, op_repT, fun Q k => ⟨a, j, xs, rfl, rfl, sa, nz, by omega, h3, by rw [← la.length]; exact h4, fun q hq => ?_⟩⟩
          have n2 := r.new (o := .tup (List.replicate j.toNat xs).flatten) hq
          exact k ρ _ _ n2 ⟨q, _, rfl, SqT.of upd_same, n2.rpl (la.replicate _)⟩
    · cases h1
  | str z =>
    cases y <;> first | (cases h; done) | skip
    rename_i j
    have h1 : (if 0 ≤ j ∧ j ≤ 10000 ∧ z.length ≤ 1000 then Res.ok (D.str (mulS z j)) S else .stuck) = .ok d S' := h
    split at h1
    · rename_i hc
      cases h1
      cases (show vx = .str z from px)
      cases (show vy = .int j from py)
      exact ⟨_, op_mulS, fun Q k => ⟨z, j, rfl, rfl, hc.1, hc.2.1, hc.2.2, k ρ H _ (Nx.refl r) rfl⟩⟩
    · cases h1
  | ref i =>
    cases y <;> first | (cases h; done) | skip
    rename_i j
    have h1 : (match S.get i with
      | some (.lst true x) => if 0 ≤ j ∧ j < 2 ^ 62 ∧ x.length * j.toNat ≤ sizeLine then Res.ok (D.ref S.n) (S.push (.lst true (List.replicate j.toNat x).flatten)) else .stuck
      | _ => .stuck) = .ok d S' := h
    split at h1
    · rename_i x ei
      split at h1
      · rename_i hc
        obtain ⟨h0, h2, h3⟩ := hc
        cases h1
        obtain ⟨_, rfl⟩ := (show i < S.n ∧ vx = .ref (ρ i) from px)
        cases (show vy = .int j from py)
        obtain ⟨xs, ha, la⟩ := r.cell i _ ei
        refine ⟨_, op_rep, fun Q k => ⟨_, j, xs, rfl, rfl, ha, by omega, by omega, by rw [← la.length]; exact h3, fun q hq => ?_⟩⟩
        have n2 := r.push (o := .lst (List.replicate j.toNat xs).flatten) (c := .lst true (List.replicate j.toNat x).flatten) hq ⟨_, upd_same, (la.replicate _).mono (TM.new hq) more_agree (Nat.le_succ _)⟩
        exact k _ _ _ n2 ⟨Nat.lt_succ_self _, by rw [more_new]⟩
      · cases h1
    · cases h1
  | non => cases y <;> cases h
  | bl _ => cases y <;> cases h
  | kd _ => cases y <;> cases h

/-! ### comparisons -/
theorem cd_int {f : Value → Value → Sem Value} {o : Cm} {g : Int → Int → Bool} (rule : OpR X f (rI0 fun i j => .bl (g i j))) (he : ∀ S x y b, evCm G S o x y = some b → ∃ i j, x = .int i ∧ y = .int j ∧ b = g i j) : CmD X L f (fun S x y => evCm G S o x y) := by
  intro ρ S H x y b vx vy r px py h
  obtain ⟨i, j, rfl, rfl, rfl⟩ := he S x y b h
  cases (show vx = .int i from px)
  cases (show vy = .int j from py)
  exact ⟨_, rule, fun Q k => ⟨i, j, rfl, rfl, k⟩⟩
local macro_rules | `(tactic| walk_at "pd_cmi") => `(tactic| (intro S x y b h; cases x <;> cases y <;> first | (cases h; done) | (cases h; exact ⟨_, _, rfl, rfl, rfl⟩)))
theorem cd_lt : CmD X L (compareOp .Lt) (fun S x y => evCm G S .lt x y) := cd_int op_lt (by walk_at "pd_cmi")
theorem cd_le : CmD X L (compareOp .LtE) (fun S x y => evCm G S .le x y) := cd_int op_le (by walk_at "pd_cmi")
theorem cd_gt : CmD X L (compareOp .Gt) (fun S x y => evCm G S .gt x y) := cd_int op_gt (by walk_at "pd_cmi")
theorem cd_ge : CmD X L (compareOp .GtE) (fun S x y => evCm G S .ge x y) := cd_int op_ge (by walk_at "pd_cmi")
def toV : D → V
  | .non => .non | .bl b => .bl b | .int i => .int i | .str x => .str x | _ => .non
theorem flat_v {K : PySem.W.Frag} {H : Hp} {ρ : Nat → Addr} {n : Nat} {d : D} {v : V} (hf : flat d = true) (p : Rp K L H ρ n d v) : v = toV d ∧ flatV v = true := by
  cases d <;> first | (cases hf; done) | skip
  · cases (show v = .non from p); exact ⟨rfl, rfl⟩
  · rename_i b; cases (show v = .bl b from p); exact ⟨rfl, rfl⟩
  · rename_i b; cases (show v = .int b from p); exact ⟨rfl, rfl⟩
  · rename_i b; cases (show v = .str b from p); exact ⟨rfl, rfl⟩
theorem eqF_V {a b : D} (ha : flat a = true) (hb : flat b = true) : eqV (toV a) (toV b) = eqF a b := by
  cases a <;> cases b <;> first | rfl | (cases ha; done) | (cases hb; done)
/-- two flat values as data of the library -/
def pyF : D → PyData
  | .bl b => .bool b | .int i => .int i | .str x => .str x | _ => .none
theorem dp_flat {K : PySem.W.Frag} {H : Hp} {d : D} (hf : flat d = true) : Dp K H (toV d) (pyF d) := by
  cases d <;> first | (cases hf; done) | exact .non | exact .bl _ | exact .int _ | exact .str _
theorem eq_flat {f : Value → Value → Sem Value} {neg : Bool} {a b : D} (h1 : OpR X f (fun x y H Q => scal x y = true ∧ Q (.bl (if neg then !decide (x = y) else decide (x = y))) H))
    (h2 : OpR X f (fun x y H Q => ∃ d e, Dp X.K H x d ∧ Dp X.K H y e ∧ SeqAt.shaped d = true ∧ SeqAt.shaped e = true ∧ Q (.bl (if neg then !PyData.eqv d e else PyData.eqv d e)) H)) (ha : flat a = true) (hb : flat b = true) :
    ∃ r : R2, OpR X f r ∧ ∀ (H : Hp) (Q : VK), Q (.bl (if neg then !eqF a b else eqF a b)) H → r (toV a) (toV b) H Q := by
  have go : scal (toV a) (toV b) = true → decide (toV a = toV b) = eqF a b → ∃ r : R2, OpR X f r ∧ ∀ (H : Hp) (Q : VK), Q (.bl (if neg then !eqF a b else eqF a b)) H → r (toV a) (toV b) H Q := fun s e => ⟨_, h1, fun H Q q => ⟨s, by rw [e]; exact q⟩⟩
  cases a with
  | non => cases b <;> first | (cases hb; done) | exact go rfl (by simp [toV, eqF])
  | bl i =>
    cases b <;> first | (cases hb; done) | skip
    · exact go rfl (by simp [toV, eqF])
    · exact go rfl dec_bl
    · rename_i j
      exact ⟨_, h2, fun H Q q => ⟨_, _, .bl i, .int j, rfl, rfl, q⟩⟩
    · exact go rfl (by simp [toV, eqF])
  | int i =>
    cases b <;> first | (cases hb; done) | skip
    · exact go rfl (by simp [toV, eqF])
    · rename_i j
      exact ⟨_, h2, fun H Q q => ⟨_, _, .int i, .bl j, rfl, rfl, q⟩⟩
    · exact go rfl dec_int
    · exact go rfl (by simp [toV, eqF])
  | str i =>
    cases b <;> first | (cases hb; done) | skip
    · exact go rfl (by simp [toV, eqF])
    · exact go rfl (by simp [toV, eqF])
    · exact go rfl (by simp [toV, eqF])
    · exact go rfl dec_str
  | _ => cases ha
mutual
theorem py_dp {ρ : Nat → Addr} {S : Store} {H : Hp} (r : Rel X.K L H ρ S) : ∀ (n : Nat) {d : D} {v : V} {e : PyData}, Rp X.K L H ρ S.n d v → py S n d = some e → Dp X.K H v e
  | n, .non, v, e, p, h => by cases (show v = .non from p); cases n <;> (cases h; exact .non)
  | n, .bl b, v, e, p, h => by cases (show v = .bl b from p); cases n <;> (cases h; exact .bl b)
  | n, .int b, v, e, p, h => by cases (show v = .int b from p); cases n <;> (cases h; exact .int b)
  | n, .str b, v, e, p, h => by cases (show v = .str b from p); cases n <;> (cases h; exact .str b)
  | 0, .tup l, v, e, p, h => by cases h
  | n + 1, .tup l, v, e, p, h => by
    obtain ⟨a, xs, rfl, sa, la⟩ := (show ∃ a vs, v = .ref a ∧ SqT X.K H a vs ∧ RpL X.K L H ρ S.n l vs from p)
    obtain ⟨es, e1, rfl⟩ := Option.map_eq_some_iff.mp (show (pyL S n l).map .tuple = some e from h)
    exact .tup sa (pyL_dp r n la e1)
  | 0, .ref i, v, e, p, h => by cases h
  | n + 1, .ref i, v, e, p, h => by
    obtain ⟨_, rfl⟩ := (show i < S.n ∧ v = .ref (ρ i) from p)
    have h1 : (match S.get i with | some (.lst _ l) => (pyL S n l).map .list | _ => none) = some e := h
    split at h1
    · rename_i w l ei
      obtain ⟨es, e1, rfl⟩ := Option.map_eq_some_iff.mp h1
      have x := r.cell i _ ei
      cases w with
      | true =>
        obtain ⟨vs, hs, hl⟩ := x
        exact .lst (SqL.of hs) (pyL_dp r n hl e1)
      | false =>
        obtain ⟨vs, hs, hl⟩ := x
        exact .lst hs.sq (pyL_dp r n hl e1)
    · cases h1
  | n, .kd i, v, e, p, h => by cases n <;> cases h
theorem pyL_dp {ρ : Nat → Addr} {S : Store} {H : Hp} (r : Rel X.K L H ρ S) : ∀ (n : Nat) {ds : List D} {vs : List V} {es : List PyData}, RpL X.K L H ρ S.n ds vs → pyL S n ds = some es → DpAll X.K H vs es
  | n, [], vs, es, p, h => by
    cases (show vs = [] from p)
    cases n <;> (cases h; exact .nil)
  | 0, d :: ds, vs, es, p, h => by cases h
  | n + 1, d :: ds, vs, es, p, h => by
    obtain ⟨v, t, rfl, h1, h2⟩ := (show ∃ v r, vs = v :: r ∧ Rp X.K L H ρ S.n d v ∧ RpL X.K L H ρ S.n ds r from p)
    have h3 : (match py S n d, pyL S n ds with | some a, some b => some (a :: b) | _, _ => none) = some es := h
    split at h3
    · rename_i a b ea eb
      cases h3
      exact .cons (py_dp r n h1 ea) (pyL_dp r n h2 eb)
    · cases h3
end
theorem sameD_v {ρ : Nat → Addr} {H : Hp} {n : Nat} {a b : D} {v w : V} (h : sameD a b = true) (p : Rp X.K L H ρ n a v) (q : Rp X.K L H ρ n b w) : w = v ∧ sameV v := by
  cases a with
  | non => cases b <;> first | (cases h; done) | skip; cases (show v = .non from p); cases (show w = .non from q); exact ⟨rfl, .inl rfl⟩
  | bl i =>
    cases b <;> first | (cases h; done) | skip
    cases (show v = .bl i from p)
    cases (show w = .bl _ from q)
    rw [eq_of_beq (show (i == _) = true from h)]
    exact ⟨rfl, .inl rfl⟩
  | int i =>
    cases b <;> first | (cases h; done) | skip
    cases (show v = .int i from p)
    cases (show w = .int _ from q)
    rw [eq_of_beq (show (i == _) = true from h)]
    exact ⟨rfl, .inl rfl⟩
  | str i =>
    cases b <;> first | (cases h; done) | skip
    cases (show v = .str i from p)
    cases (show w = .str _ from q)
    rw [eq_of_beq (show (i == _) = true from h)]
    exact ⟨rfl, .inl rfl⟩
  | ref i =>
    cases b <;> first | (cases h; done) | skip
    obtain ⟨_, rfl⟩ := (show i < n ∧ v = .ref (ρ i) from p)
    obtain ⟨_, rfl⟩ := (show _ < n ∧ w = .ref (ρ _) from q)
    rw [eq_of_beq (show (i == _) = true from h)]
    exact ⟨rfl, .inr ⟨_, rfl⟩⟩
  | tup l => cases b <;> cases h
  | kd l => cases b <;> cases h
theorem sameL_v {ρ : Nat → Addr} {H : Hp} {n : Nat} : ∀ {l m : List D} {vs ws : List V}, sameL l m = true → RpL X.K L H ρ n l vs → RpL X.K L H ρ n m ws → ws = vs ∧ ∀ v ∈ vs, sameV v
  | [], [], vs, ws, _, p, q => by
    cases (show vs = [] from p)
    cases (show ws = [] from q)
    exact ⟨rfl, fun v h => absurd h List.not_mem_nil⟩
  | [], b :: s, _, _, h, _, _ => by cases h
  | a :: r, [], _, _, h, _, _ => by cases h
  | a :: r, b :: s, vs, ws, h, p, q => by
    obtain ⟨h1, h2⟩ := Bool.and_eq_true_iff.mp (show (sameD a b && sameL r s) = true from h)
    obtain ⟨v, t, rfl, p1, p2⟩ := p
    obtain ⟨w, t', rfl, q1, q2⟩ := q
    obtain ⟨rfl, k1⟩ := sameD_v h1 p1 q1
    obtain ⟨rfl, k2⟩ := sameL_v h2 p2 q2
    refine ⟨rfl, fun x hx => ?_⟩
    rcases List.mem_cons.mp hx with rfl | hx
    · exact k1
    · exact k2 x hx
theorem sameW_up {K : PySem.W.Frag} {H : Hp} : ∀ (n : Nat) {v w : V}, sameW K H n v w → sameW K H (n + 1) v w
  | 0, _, _, h => (show False from h).elim
  | n + 1, v, w, h => by
    rcases h with h | ⟨a, b, xs, ys, h1, h2, h3, h4⟩
    · exact .inl h
    · exact .inr ⟨a, b, xs, ys, h1, h2, h3, Paired.mapP h4 fun _ _ z => sameW_up n z⟩
theorem lst_of {ρ : Nat → Addr} {S : Store} {H : Hp} (r : Rel X.K L H ρ S) {k : Nat} {w : Bool} {l : List D} (e : S.get k = some (.lst w l)) : ∃ vs, SqL X.K H (ρ k) vs ∧ RpL X.K L H ρ S.n l vs := by
  have z := r.cell k _ e
  cases w with
  | true => obtain ⟨vs, hs, hl⟩ := z; exact ⟨vs, SqL.of hs, hl⟩
  | false => obtain ⟨vs, hs, hl⟩ := z; exact ⟨vs, hs.sq, hl⟩
mutual
theorem deepD_v {ρ : Nat → Addr} {S : Store} {H : Hp} (r : Rel X.K L H ρ S) : ∀ (n : Nat) {a b : D} {v w : V}, deepD S n a b = true → Rp X.K L H ρ S.n a v → Rp X.K L H ρ S.n b w → sameW X.K H n v w
  | 0, _, _, _, _, h, _, _ => by cases h
  | n + 1, a, b, v, w, h, p, q => by
    unfold deepD at h
    split at h
    · rename_i l m
      obtain ⟨a, xs, rfl, sa, la⟩ := (show ∃ a vs, v = .ref a ∧ SqT X.K H a vs ∧ RpL X.K L H ρ S.n l vs from p)
      obtain ⟨b, ys, rfl, sb, lb⟩ := (show ∃ a vs, w = .ref a ∧ SqT X.K H a vs ∧ RpL X.K L H ρ S.n m vs from q)
      exact .inr ⟨a, b, xs, ys, rfl, rfl, .inr ⟨sa, sb⟩, deepL_v r n h la lb⟩
    · rename_i i j
      obtain ⟨_, rfl⟩ := (show i < S.n ∧ v = .ref (ρ i) from p)
      obtain ⟨_, rfl⟩ := (show j < S.n ∧ w = .ref (ρ j) from q)
      rcases Bool.or_eq_true_iff.mp h with h | h
      · rw [eq_of_beq h]
        exact .inl ⟨rfl, .inr ⟨_, rfl⟩⟩
      · split at h
        · rename_i w1 l w2 m e1 e2
          obtain ⟨xs, s1, l1⟩ := lst_of r e1
          obtain ⟨ys, s2, l2⟩ := lst_of r e2
          exact .inr ⟨_, _, xs, ys, rfl, rfl, .inl ⟨s1, s2⟩, deepL_v r n h l1 l2⟩
        · cases h
    · obtain ⟨rfl, k⟩ := sameD_v h p q
      exact .inl ⟨rfl, k⟩
theorem deepL_v {ρ : Nat → Addr} {S : Store} {H : Hp} (r : Rel X.K L H ρ S) : ∀ (n : Nat) {l m : List D} {vs ws : List V}, deepL S n l m = true → RpL X.K L H ρ S.n l vs → RpL X.K L H ρ S.n m ws → Paired (sameW X.K H n) vs ws
  | 0, _, _, _, _, h, _, _ => by cases h
  | n + 1, l, m, vs, ws, h, p, q => by
    unfold deepL at h
    split at h
    · cases (show vs = [] from p)
      cases (show ws = [] from q)
      exact .nil
    · obtain ⟨h1, h2⟩ := Bool.and_eq_true_iff.mp h
      obtain ⟨v, t, rfl, p1, p2⟩ := p
      obtain ⟨w, t', rfl, q1, q2⟩ := q
      exact .cons (sameW_up n (deepD_v r n h1 p1 q1)) (Paired.mapP (deepL_v r n h2 p2 q2) fun _ _ z => sameW_up n z)
    · cases h
end
theorem eqI_v {ρ : Nat → Addr} {S : Store} {H : Hp} {x y : D} {b : Bool} {vx vy : V} (r : Rel X.K L H ρ S) (px : Rp X.K L H ρ S.n x vx) (py : Rp X.K L H ρ S.n y vy) (h : eqI S x y = some b) :
    (b = true ∧ ∀ (c : Bool) (Q : VK), Q (.bl c) H → rSame X.K c vx vy H Q) ∨ (b = false ∧ ∀ (c : Bool) (Q : VK), Q (.bl c) H → rDs c vx vy H Q) ∨ (b = true ∧ ∀ (c : Bool) (Q : VK), Q (.bl c) H → rDp X.K c vx vy H Q) := by
  unfold eqI at h
  split at h
  · rename_i i j
    split at h
    · rename_i w1 l w2 m e1 e2
      obtain ⟨_, rfl⟩ := (show i < S.n ∧ vx = .ref (ρ i) from px)
      obtain ⟨_, rfl⟩ := (show j < S.n ∧ vy = .ref (ρ j) from py)
      obtain ⟨vs, s1, l1⟩ := lst_of r e1
      obtain ⟨ws, s2, l2⟩ := lst_of r e2
      split at h
      · rename_i hs
        cases h
        obtain ⟨rfl, k⟩ := sameL_v hs l1 l2
        exact .inl ⟨rfl, fun c Q q => ⟨_, _, _, rfl, rfl, s1, s2, k, q⟩⟩
      · split at h
        · rename_i hs
          cases h
          exact .inr (.inr ⟨rfl, fun c Q q => ⟨50, _, _, _, _, by decide, rfl, rfl, .inl ⟨s1, s2⟩, deepL_v r 50 hs l1 l2, q⟩⟩)
        · cases h
    · cases h
  · rename_i l m
    split at h
    · rename_i hs
      cases h
      obtain ⟨a, xs, rfl, sa, la⟩ := (show ∃ a vs, vx = .ref a ∧ SqT X.K H a vs ∧ RpL X.K L H ρ S.n l vs from px)
      obtain ⟨b, ys, rfl, sb, lb⟩ := (show ∃ a vs, vy = .ref a ∧ SqT X.K H a vs ∧ RpL X.K L H ρ S.n m vs from py)
      exact .inr (.inr ⟨rfl, fun c Q q => ⟨50, _, _, _, _, by decide, rfl, rfl, .inr ⟨sa, sb⟩, deepL_v r 50 hs la lb, q⟩⟩)
    · cases h
  · rename_i i z
    split at h
    · rename_i l e1
      cases h
      obtain ⟨_, rfl⟩ := (show i < S.n ∧ vx = .ref (ρ i) from px)
      cases (show vy = .str z from py)
      obtain ⟨o, vs, e, _⟩ := (show ∃ o vs, H (ρ i) = some (.frz o (.dK vs)) ∧ RpK X.K L H ρ S.n l vs from r.cell i _ e1)
      exact .inr (.inl ⟨rfl, fun c Q q => ⟨_, vs, z, rfl, .inr ⟨o, e⟩, rfl, q⟩⟩)
    · cases h
  · cases h
theorem cd_eq (hu : X.A.units + 64 < cLine) : CmD X L (compareOp .Eq) (fun S x y => evCm G S .eq x y) := by
  intro ρ S H x y b vx vy r px py h
  have h1 : (if (flat x && flat y) = true then some (eqF x y) else (match QD.py S 64 x, QD.py S 64 y with
    | some d, some e => if (SeqAt.shaped d && SeqAt.shaped e) = true then some (PyData.eqv d e) else eqI S x y
    | _, _ => eqI S x y)) = some b := h
  split at h1
  · rename_i hf
    obtain ⟨hx, hy⟩ := Bool.and_eq_true_iff.mp hf
    obtain ⟨rfl, _⟩ := flat_v hx px
    obtain ⟨rfl, _⟩ := flat_v hy py
    cases h1
    obtain ⟨r2, ho, q⟩ := eq_flat (X := X) (f := compareOp .Eq) (neg := false) op_eq (op_eqD hu) hx hy
    exact ⟨r2, ho, fun Q k => q H Q k⟩
  · split at h1
    · rename_i d e ed ee
      split at h1
      · rename_i hs
        obtain ⟨s1, s2⟩ := Bool.and_eq_true_iff.mp hs
        cases h1
        exact ⟨_, op_eqD hu, fun Q k => ⟨d, e, py_dp r 64 px ed, py_dp r 64 py ee, s1, s2, k⟩⟩
      · rcases eqI_v r px py h1 with ⟨rfl, z⟩ | ⟨rfl, z⟩ | ⟨rfl, z⟩
        · exact ⟨_, op_eqI hu, fun Q k => z true Q k⟩
        · exact ⟨_, op_eqDs (by omega), fun Q k => z false Q k⟩
        · exact ⟨_, op_eqDp hu, fun Q k => z true Q k⟩
    · rcases eqI_v r px py h1 with ⟨rfl, z⟩ | ⟨rfl, z⟩ | ⟨rfl, z⟩
      · exact ⟨_, op_eqI hu, fun Q k => z true Q k⟩
      · exact ⟨_, op_eqDs (by omega), fun Q k => z false Q k⟩
      · exact ⟨_, op_eqDp hu, fun Q k => z true Q k⟩
theorem cd_ne (hu : X.A.units + 64 < cLine) : CmD X L (compareOp .NotEq) (fun S x y => evCm G S .ne x y) := by
  intro ρ S H x y b vx vy r px py h
  obtain ⟨b0, h1, rfl⟩ := Option.map_eq_some_iff.mp (show (eqD S x y).map (!·) = some b from h)
  have h1 : (if (flat x && flat y) = true then some (eqF x y) else (match QD.py S 64 x, QD.py S 64 y with
    | some d, some e => if (SeqAt.shaped d && SeqAt.shaped e) = true then some (PyData.eqv d e) else eqI S x y
    | _, _ => eqI S x y)) = some b0 := h1
  split at h1
  · rename_i hf
    obtain ⟨hx, hy⟩ := Bool.and_eq_true_iff.mp hf
    obtain ⟨rfl, _⟩ := flat_v hx px
    obtain ⟨rfl, _⟩ := flat_v hy py
    cases h1
    obtain ⟨r2, ho, q⟩ := eq_flat (X := X) (f := compareOp .NotEq) (neg := true) op_ne (op_neD hu) hx hy
    exact ⟨r2, ho, fun Q k => q H Q k⟩
  · split at h1
    · rename_i d e ed ee
      split at h1
      · rename_i hs
        obtain ⟨s1, s2⟩ := Bool.and_eq_true_iff.mp hs
        cases h1
        exact ⟨_, op_neD hu, fun Q k => ⟨d, e, py_dp r 64 px ed, py_dp r 64 py ee, s1, s2, k⟩⟩
      · rcases eqI_v r px py h1 with ⟨rfl, z⟩ | ⟨rfl, z⟩ | ⟨rfl, z⟩
        · exact ⟨_, op_neI hu, fun Q k => z false Q k⟩
        · exact ⟨_, op_neDs (by omega), fun Q k => z true Q k⟩
        · exact ⟨_, op_neDp hu, fun Q k => z false Q k⟩
    · rcases eqI_v r px py h1 with ⟨rfl, z⟩ | ⟨rfl, z⟩ | ⟨rfl, z⟩
      · exact ⟨_, op_neI hu, fun Q k => z false Q k⟩
      · exact ⟨_, op_neDs (by omega), fun Q k => z true Q k⟩
      · exact ⟨_, op_neDp hu, fun Q k => z false Q k⟩
theorem isNon_V {K : PySem.W.Frag} {H : Hp} {ρ : Nat → Addr} {n : Nat} {d : D} {v : V} (p : Rp K L H ρ n d v) : decide (v = .non) = isNon d := by
  cases d with
  | non => cases (show v = .non from p); rfl
  | bl b => cases (show v = .bl b from p); rfl
  | int b => cases (show v = .int b from p); rfl
  | str b => cases (show v = .str b from p); rfl
  | tup l =>
    obtain ⟨a, xs, rfl, sa, la⟩ := (show ∃ a vs, v = .ref a ∧ SqT K H a vs ∧ RpL K L H ρ n l vs from p)
    rfl
  | ref i => obtain ⟨_, rfl⟩ := (show i < n ∧ v = .ref (ρ i) from p); rfl
  | kd i => cases (show v = .ref (L.kda i) from p); rfl
theorem isNon_eq {d : D} (h : isNon d = true) : d = .non := by cases d <;> first | rfl | cases h
theorem op_isB : OpR X (compareOp .Is) (fun x y H Q => ∃ i j, x = .bl i ∧ y = .bl j ∧ Q (.bl (i == j)) H) := by
  intro pins s σ H x y v u Q I rx ry h
  obtain ⟨i, j, rfl, rfl, q⟩ := h
  cases (show v = Value.bool i from rx)
  cases (show u = Value.bool j from ry)
  exact wpAny_is_plain rfl (fin_bl I q (by cases i <;> cases j <;> rfl))
theorem cd_isN : CmD X L (compareOp .Is) (fun S x y => evCm G S .isN x y) := by
  intro ρ S H x y b vx vy r px py h
  have h1 : (if isNon y = true then some (isNon x) else isB x y) = some b := h
  split at h1
  · rename_i hn
    cases isNon_eq hn
    cases h1
    cases (show vy = .non from py)
    exact ⟨_, op_isN, fun Q k => ⟨rfl, by rw [isNon_V px]; exact k⟩⟩
  · unfold isB at h1
    split at h1
    · cases h1
      cases (show vx = .bl _ from px)
      cases (show vy = .bl _ from py)
      exact ⟨_, op_isB, fun Q k => ⟨_, _, rfl, rfl, k⟩⟩
    · cases h1
theorem cd_notN : CmD X L (compareOp .IsNot) (fun S x y => evCm G S .notN x y) := by
  intro ρ S H x y b vx vy r px py h
  have h1 : (if isNon y = true then some (!isNon x) else none) = some b := h
  split at h1
  · rename_i hn
    cases isNon_eq hn
    cases h1
    cases (show vy = .non from py)
    exact ⟨_, op_notN, fun Q k => ⟨rfl, by rw [isNon_V px]; exact k⟩⟩
  · cases h1
theorem flatL_v {K : PySem.W.Frag} {H : Hp} {ρ : Nat → Addr} {n : Nat} {x : D} (hx : flat x = true) : ∀ {l : List D} {vs : List V}, RpL K L H ρ n l vs → l.all flat = true → vs.all flatV = true ∧ inV (toV x) vs = l.any fun y => eqF y x
  | [], vs, p, _ => by cases (show vs = [] from p); exact ⟨rfl, rfl⟩
  | d :: ds, vs, p, h => by
    obtain ⟨v, t, rfl, h1, h2⟩ := (show ∃ v r, vs = v :: r ∧ Rp K L H ρ n d v ∧ RpL K L H ρ n ds r from p)
    rw [List.all_cons, Bool.and_eq_true] at h
    obtain ⟨e1, e2⟩ := flat_v h.1 h1
    obtain ⟨f1, f2⟩ := flatL_v hx h2 h.2
    refine ⟨by rw [List.all_cons, e2, f1]; rfl, ?_⟩
    show (v :: t).any (fun y => eqV y (toV x)) = _
    rw [List.any_cons, List.any_cons, e1, eqF_V h.1 hx]
    exact congrArg _ f2
theorem RpK.any {K : PySem.W.Frag} {L : Pl} {H : Hp} {ρ : Nat → Addr} {n : Nat} (k : Key) : ∀ {ds : List (Key × D)} {vs : List (Key × V)}, RpK K L H ρ n ds vs → (ds.any fun p => decide (p.1 = k)) = (valV vs k).isSome
  | [], vs, h => by
    cases (show vs = [] from h)
    rfl
  | p :: ds, vs, h => by
    obtain ⟨v, r, rfl, h1, h2⟩ := h
    rw [List.any_cons, RpK.any k h2]
    by_cases q : p.1 = k
    · rw [decide_eq_true q, valV_pos q]
      rfl
    · rw [decide_eq_false q, valV_neg q, Bool.false_or]
theorem op_inDk : OpR X (compareOp .In) (fun x y H Q => ∃ a kvs z, x = .str z ∧ y = .ref a ∧ Rd H a (.dK kvs) ∧ Q (.bl (valV kvs (.inr z)).isSome) H) := by
  intro pins s σ H x y v u Q I rx ry h
  obtain ⟨a, kvs, z, rfl, rfl, e, q⟩ := h
  cases (show u = Value.ref a from ry)
  obtain ⟨_, hd, vs, rel, dd⟩ := dk_rd I.hok e
  refine wpAny_in_of (kV_is (k := .inr z) rx) hd dd.mapOf ?_
  rw [← (rel.val _).isSome_eq]
  exact ⟨.bl _, H, I.tok _, rfl, q⟩
theorem op_notInDk : OpR X (compareOp .NotIn) (fun x y H Q => ∃ a kvs z, x = .str z ∧ y = .ref a ∧ Rd H a (.dK kvs) ∧ Q (.bl (!(valV kvs (.inr z)).isSome)) H) := by
  intro pins s σ H x y v u Q I rx ry h
  obtain ⟨a, kvs, z, rfl, rfl, e, q⟩ := h
  cases (show u = Value.ref a from ry)
  obtain ⟨_, hd, vs, rel, dd⟩ := dk_rd I.hok e
  refine wpAny_notIn_of (kV_is (k := .inr z) rx) hd dd.mapOf ?_
  rw [← (rel.val _).isSome_eq]
  exact ⟨.bl _, H, I.tok _, rfl, q⟩
theorem inD_run {f : Value → Value → Sem Value} {neg : Bool} (hk : ∀ i t, G.kdt i = some t → KdOk X L i t)
    (h1 : OpR X f (fun x y H Q => ∃ p xs, y = .ref p ∧ (SqL X.K H p xs ∨ SqT X.K H p xs) ∧ flatV x = true ∧ xs.all flatV = true ∧ Q (.bl (if neg then !inV x xs else inV x xs)) H))
    (h2 : OpR X f (fun x y H Q => ∃ i j, x = .str i ∧ y = .str j ∧ Q (.bl (if neg then !(!(Builtin.Str.occurrences j i 0 j.length 1).isEmpty) else !(Builtin.Str.occurrences j i 0 j.length 1).isEmpty)) H))
    (h3 : OpR X f (fun x y H Q => ∃ (c : Nat) (z : Str), x = .str ⟨#[c]⟩ ∧ y = .str z ∧ Q (.bl (if neg then !decide (c ∈ z.cps.toList) else decide (c ∈ z.cps.toList))) H))
    (h4 : ∀ d es n, KDict X.K X.w d es n → OpR X f (fun x y H Q => ∃ (z : Str) (r : Option Value), x = .str z ∧ y = .ref d ∧ PySem.W.nsIn X.K d z = some r ∧ Q (.bl (if neg then !r.isSome else r.isSome)) H))
    (h6 : OpR X f (fun x y H Q => ∃ a kvs z, x = .str z ∧ y = .ref a ∧ Rd H a (.dK kvs) ∧ Q (.bl (if neg then !(valV kvs (.inr z)).isSome else (valV kvs (.inr z)).isSome)) H)) :
    CmD X L f (fun S x y => (inD S G x y).map fun b => if neg then !b else b) := by
  intro ρ S H x y b vx vy r px py h
  obtain ⟨b0, h0, rfl⟩ := Option.map_eq_some_iff.mp h
  have lst : ∀ (l : List D) (p : Addr) (vs : List V), (SqL X.K H p vs ∨ SqT X.K H p vs) → RpL X.K L H ρ S.n l vs → vy = .ref p → (if (flat x && l.all flat) = true then some (l.any fun y => eqF y x) else none) = some b0 → ∃ r2 : R2, OpR X f r2 ∧ ∀ Q : VK, Q (.bl (if neg then !b0 else b0)) H → r2 vx vy H Q := by
    intro l p vs hs hl ey hq
    split at hq
    · rename_i hf
      obtain ⟨hx, hy⟩ := Bool.and_eq_true_iff.mp hf
      obtain ⟨rfl, fx⟩ := flat_v hx px
      obtain ⟨f1, f2⟩ := flatL_v hx hl hy
      cases hq
      exact ⟨_, h1, fun Q k => ⟨p, vs, ey, hs, fx, f1, by rw [f2]; exact k⟩⟩
    · cases hq
  cases y with
  | str z =>
    cases x with
    | str w =>
      cases h0
      cases (show vx = .str w from px)
      cases (show vy = .str z from py)
      by_cases hc : ∃ c, w.cps.toList = [c]
      · obtain ⟨c, hc⟩ := hc
        have ew : w = ⟨#[c]⟩ := by
          cases w with
          | mk a => cases a with
            | mk l => simp at hc; rw [hc]
        refine ⟨_, h3, fun Q k => ⟨c, z, by rw [ew], rfl, ?_⟩⟩
        have e : inS w z = decide (c ∈ z.cps.toList) := by unfold inS; rw [hc]
        rw [e] at k
        exact k
      · refine ⟨_, h2, fun Q k => ⟨w, z, rfl, rfl, ?_⟩⟩
        have e : inS w z = !(Builtin.Str.occurrences z w 0 z.length 1).isEmpty := by
          unfold inS
          split
          · rename_i c e; exact (hc ⟨c, e⟩).elim
          · rfl
        rw [e] at k
        exact k
    | _ => cases h0
  | tup l =>
    obtain ⟨a, xs, ev, sa, la⟩ := (show ∃ a vs, vy = .ref a ∧ SqT X.K H a vs ∧ RpL X.K L H ρ S.n l vs from py)
    exact lst l a xs (.inr sa) la ev (by cases x <;> exact h0)
  | ref i =>
    obtain ⟨_, ev⟩ := (show i < S.n ∧ vy = .ref (ρ i) from py)
    have h5 : (match S.get i with
      | some (.lst _ l) => if (flat x && l.all flat) = true then some (l.any fun y => eqF y x) else none
      | some (.dct l) => (match x with
        | .str x => some (l.any fun p => decide (p.1 = .inr x))
        | _ => none)
      | _ => none) = some b0 := by cases x <;> exact h0
    split at h5
    · rename_i w l ei
      have c := r.cell i _ ei
      cases w with
      | true =>
        obtain ⟨vs, hs, hl⟩ := c
        exact lst l _ vs (.inl (SqL.of hs)) hl ev h5
      | false =>
        obtain ⟨vs, hs, hl⟩ := c
        exact lst l _ vs (.inl hs.sq) hl ev h5
    · rename_i l ei
      obtain ⟨o, vs, e, hl⟩ := (show ∃ o vs, H (ρ i) = some (.frz o (.dK vs)) ∧ RpK X.K L H ρ S.n l vs from r.cell i _ ei)
      cases x with
      | str z =>
        cases h5
        cases (show vx = .str z from px)
        refine ⟨_, h6, fun Q k => ⟨ρ i, vs, z, rfl, ev, .inr ⟨o, e⟩, ?_⟩⟩
        rw [RpK.any (.inr z) hl] at k
        exact k
      | _ => cases h5
    · cases h5
  | kd i =>
    cases (show vy = .ref (L.kda i) from py)
    cases x with
    | str z =>
      obtain ⟨t, ht, rfl⟩ := Option.map_eq_some_iff.mp (show ((G.kdt i).map fun t => (t.lookup z).isSome) = some b0 from h0)
      cases (show vx = .str z from px)
      obtain ⟨⟨es, n, D, _⟩, at_⟩ := hk i t ht
      refine ⟨_, h4 _ _ _ D, fun Q k => ?_⟩
      rcases at_ z with ⟨e1, e2⟩ | ⟨x, u, v, e1, e2, _⟩
      · refine ⟨z, none, rfl, rfl, e2, ?_⟩
        rw [e1] at k
        exact k
      · refine ⟨z, some u, rfl, rfl, e2, ?_⟩
        rw [e1] at k
        exact k
    | _ => cases h0
  | non => cases x <;> cases h0
  | bl _ => cases x <;> cases h0
  | int _ => cases x <;> cases h0
theorem cd_in (hk : ∀ i t, G.kdt i = some t → KdOk X L i t) : CmD X L (compareOp .In) (fun S x y => evCm G S .in_ x y) := by
  have h := inD_run (X := X) (L := L) (G := G) (f := compareOp .In) (neg := false) hk op_in_seq op_in_str op_in_sign (fun d es n D => op_in_kd D) op_inDk
  intro ρ S H x y b vx vy r px py hb
  refine h ρ S H x y b vx vy r px py ?_
  show (inD S G x y).map (fun b => b) = some b
  rw [show (inD S G x y) = some b from hb]
  rfl
theorem cd_nin (hk : ∀ i t, G.kdt i = some t → KdOk X L i t) : CmD X L (compareOp .NotIn) (fun S x y => evCm G S .nin x y) := by
  have h := inD_run (X := X) (L := L) (G := G) (f := compareOp .NotIn) (neg := true) hk op_notIn_seq op_notin_str op_notIn_sign (fun d es n D => op_notIn_kd D) op_notInDk
  intro ρ S H x y b vx vy r px py hb
  exact h ρ S H x y b vx vy r px py hb
end
end QD

/-! QD4: calls, instances made, attributes, methods, subscripts. -/
namespace QD
open PySem PySem.Spec PyProof.Rows L2
theorem Res.Good.eqn {α : Type} {r : Res α} {k : α → Store → Prop} {x : Nat → Nat → Store → Prop} (h : r.Good k x) : r.Good (fun a S => r = .ok a S ∧ k a S) (fun c d S => r = .ex c d S ∧ x c d S) := by
  cases r with
  | ok a S => exact ⟨rfl, h⟩
  | ex c d S => exact ⟨rfl, h⟩
  | stuck => exact h
theorem Res.bind_ok {α β : Type} {r : Res α} {f : α → Store → Res β} {b : β} {S : Store} (h : r.bind f = .ok b S) : ∃ a S1, r = .ok a S1 ∧ f a S1 = .ok b S := by
  cases r with
  | ok a S1 => exact ⟨a, S1, rfl, h⟩
  | ex c d S1 => cases h
  | stuck => cases h
theorem Res.Good.ns {α : Type} {r : Res α} {k : α → Store → Prop} {x : Nat → Nat → Store → Prop} (h : r.Good k x) : r ≠ .stuck := fun e => by
  rw [e] at h
  exact h
section
variable {X : Cx} {L : Pl} {G : Gd} {cf : Nat → List D → Store → Res D}
theorem evCs_len : ∀ (cs : Cs) {σ : Sl} {S : Store} {ds : List D} {S' : Store}, evCs cf G cs σ S = .ok ds S' → ds.length = cs.len
  | .nil, σ, S, ds, S', h => by cases h; rfl
  | .cons c r, σ, S, ds, S', h => by
    obtain ⟨x, T1, e1, h⟩ := Res.bind_ok (r := evC cf G c σ S) h
    obtain ⟨xs, T2, e2, h⟩ := Res.bind_ok h
    cases h
    show xs.length + 1 = r.len + 1
    rw [evCs_len r e2]
theorem good_len {cs : Cs} {σ : Sl} {S : Store} {k : List D → Store → Prop} {x : Nat → Nat → Store → Prop} (h : (evCs cf G cs σ S).Good k x) : (evCs cf G cs σ S).Good (fun ds S' => ds.length = cs.len ∧ k ds S') x :=
  h.eqn.imp (fun _ _ ⟨e, k⟩ => ⟨evCs_len cs e, k⟩) fun _ _ _ ⟨_, k⟩ => k
/-- two lists one behind another -/
theorem evCs_app : ∀ (a b : Cs) (σ : Sl) (S : Store), evCs cf G (a.app b) σ S = (evCs cf G a σ S).bind fun xs S1 => (evCs cf G b σ S1).bind fun ys S2 => .ok (xs ++ ys) S2
  | .nil, b, σ, S => by
    show evCs cf G b σ S = (evCs cf G b σ S).bind fun ys S2 => .ok ys S2
    cases evCs cf G b σ S <;> rfl
  | .cons c r, b, σ, S => by
    show ((evC cf G c σ S).bind fun d S1 => (evCs cf G (r.app b) σ S1).bind fun ds S2 => .ok (d :: ds) S2) = ((evC cf G c σ S).bind fun d S1 => (evCs cf G r σ S1).bind fun ds S2 => .ok (d :: ds) S2).bind fun xs S1 => (evCs cf G b σ S1).bind fun ys S2 => .ok (xs ++ ys) S2
    cases evC cf G c σ S with
    | ok d S1 =>
      show ((evCs cf G (r.app b) σ S1).bind fun ds S2 => Res.ok (d :: ds) S2) = ((evCs cf G r σ S1).bind fun ds S2 => Res.ok (d :: ds) S2).bind fun xs S1 => (evCs cf G b σ S1).bind fun ys S2 => .ok (xs ++ ys) S2
      rw [evCs_app r b σ S1]
      cases evCs cf G r σ S1 with
      | ok xs S2 =>
        show ((evCs cf G b σ S2).bind fun ys S3 => Res.ok (xs ++ ys) S3).bind (fun ds S2 => Res.ok (d :: ds) S2) = (evCs cf G b σ S2).bind fun ys S3 => Res.ok (d :: xs ++ ys) S3
        cases evCs cf G b σ S2 <;> rfl
      | ex _ _ _ => rfl
      | stuck => rfl
    | ex _ _ _ => rfl
    | stuck => rfl
/-- the keywords' values -/
structure SimK (X : Cx) (L : Pl) (G : Gd) (cf : Nat → List D → Store → Res D) (kws : List Keyword) (cs : Cs) : Prop where
  run : ∃ tk : TA, PK X kws tk ∧ ∀ (W : WX) (_ : Takes X W) (ρ : Nat → Addr) (σd : Sl) (σ : L2.St) (S : Store) (H : Hp) (Q : List V → Hp → Prop), Rel X.K L H ρ S → RX X L G H ρ S.n σd σ → (evCs cf G cs σd S).Good (kL X.K L S H ρ Q) (kX X.K L S H ρ (WE W σ)) → tk σ H Q
theorem sk_nil : SimK X L G cf [] .nil := ⟨⟨tNil, pk_nil, fun W tk ρ σd σ S H Q r rs h => h ρ H _ (Nx.refl r) RpL.nil⟩⟩
theorem sk_cons {nm : Option Str} {e : Expr} {kpos : Pos} {kws : List Keyword} {c : C} {cs : Cs} (ha : Sim X L G cf e c) (hr : SimK X L G cf kws cs) : SimK X L G cf (⟨nm, e, kpos⟩ :: kws) (.cons c cs) := by
  obtain ⟨tk, pk, run⟩ := hr.run
  refine ⟨⟨_, pk_cons (pE e) pk, fun W wk ρ σd σ S H Q r rs h => ?_⟩⟩
  have h := Res.good_bind (r := evC cf G c σd S) h
  refine ha.run W wk ρ σd σ S H _ r rs (h.imp (fun x S1 g ρ' H' v n p => ?_) fun _ _ _ k => k)
  refine run W wk ρ' σd σ S1 H' _ n.r (n.rs rs) ((Res.good_bind g).imp (fun xs S2 k ρ2 H2 vs n2 p2 => ?_) fun _ _ _ k => k.at n)
  exact k ρ2 H2 _ (n.trans n2) (RpL.cons (n2.rp p) p2)

/-! ### calls -/
theorem pass {W : WX} (tk : Takes X W) (σ : L2.St) : PassesAt (L2.CX X.prog X.w) X σ (WE W σ) := L2.passAt tk σ
theorem passNo {xe : Value → Shared → Prop} : Passes (L2.CX X.prog X.w) { X with xe := xe } fun _ _ _ => False := fun pins σ H s e s' I ⟨_, _, _, _, _, _, _, _, _, _, _, _, f⟩ => f.elim
theorem si_call {x : Str} {f : Nat} {sh : List Src} {e : Expr} {es : List Expr} {p pos : Pos} {cs : Cs} (hc : CallOk X L cf x f cs.len sh) (hg : Gl X x) (ha : SimA X L G cf (e :: es) cs) (hdb : (x == ("__debug__" : Str)) = false := by decide)
    (he : starEach (e :: es) X.env = (false, eval e X.env) :: starEach es X.env := by rfl) (hpl : (backTo pos (starEach es X.env)).any (·.1) = false := by rfl) : Sim X L G cf (.Call (.Name x p) (e :: es) [] pos) (.call f sh cs) := by
  refine ⟨fun W tk ρ σd σ S H Q r rs h => ?_⟩
  have h := good_len (Res.good_bind (r := evCs cf G cs σd S) h)
  obtain ⟨kk, fa, fd, ps, j, dsv, dvs, dl, F, hm, hk, hb, hd, hl, hs, hdl⟩ := hc.ex
  refine ofE (pe_callSD (E := WE W) F.ok (F.room.mono (by omega)) hg hm hk hb hd (fun σ => pass tk σ) (pA (e :: es)) hdb he hpl) (ha.run W tk ρ σd σ S H _ r rs (h.imp (fun ds S1 ⟨hlen, g⟩ ρ' H' vs n q => ?_) fun _ _ _ k => k))
  obtain ⟨as, e3, g⟩ := Res.good_of (Res.good_bind g)
  have e4 := hs ds hlen
  rw [e3] at e4
  cases e4
  exact ⟨ρ', S1, ds ++ dl, by rw [List.length_append, ← q.length, hlen]; exact hl, n.r, q.append (hdl _ _ _), g.at n⟩
theorem si_call0 {x : Str} {f : Nat} {sh : List Src} {p pos : Pos} (hc : CallOk X L cf x f 0 sh) (hg : Gl X x) (hdb : (x == ("__debug__" : Str)) = false := by decide) : Sim X L G cf (.Call (.Name x p) [] [] pos) (.call f sh .nil) := by
  refine ⟨fun W tk ρ σd σ S H Q r rs h => fun pins s I => ?_⟩
  obtain ⟨kk, fa, fd, ps, j, dsv, dvs, dl, F, hm, hk, hb, hd, hl, hs, hdl⟩ := hc.ex
  obtain ⟨as, e3, g⟩ := Res.good_of (Res.good_bind (r := Res.of (srcs [] sh) S) h)
  have e4 := hs [] rfl
  rw [e3] at e4
  cases e4
  refine wpAny_Call_Name_kw (ld_glob I hg hm ?_ hdb)
  refine PySem.W.callWith_K0 I.kIn hk (run_fnSD (us := []) (vs := []) F.ok (F.room.mono (by omega)) hb hd (pass tk σ) I .nil ?_)
  exact ⟨ρ, S, dl, by rw [List.nil_append]; omega, r, hdl _ _ _, g⟩
section
variable {W : WX} {k : Nat} {f C : Addr} {fd : FuncData} {ps : List Str} {sp : Sp} {pins : List (Addr × Obj)} {σ : L2.St} {H : Hp} {s : Shared} {Q : VK}
/-- a def is called with keywords -/
theorem run_kw {us ws all : List Value} {ks : List Str} {vs : List V} (tk : Takes X W) (F : FnOk X.prog X.w X.K X.mg X.base (L2.CX X.prog X.w) k f fd ps sp) (hr : Room k X.A) (I : Inv X pins σ H s) (hb : BindsTo s fd ⟨us, ks.zip ws⟩ (ps.zip all)) (rv : Vals vs all) (h : sp vs H Q (WE W σ)) :
    wpAny (model X.prog X.w) X.A (call (.ref f) us (ks.zip ws)) (EP X pins σ Q) X.xe s := by
  have z := F.run X.A X.stack s H ⟨us, ks.zip ws⟩ all vs Q (WE W σ) hr I.env0 hb rv h
  refine wpAny_call (codeAny_mono z fun o t y => ?_)
  match o, y with
  | .error q, y => exact pass tk σ pins H s q t I y
  | .ok (.ret _), y => exact I.after y
  | .ok .next, y => exact y.elim
  | .ok .brk, y => exact y.elim
  | .ok .cont, y => exact y.elim
/-- an instance is made: self ahead of what all tells -/
theorem run_mk {us : List Value} {kw : List (Str × Value)} {all : Addr → List Value} {vs : Addr → List V} (tk : Takes X W) (M : Mk X.K C f) (F : FnOk X.prog X.w X.K X.mg X.base (L2.CX X.prog X.w) k f fd ps sp) (hr : Room (k + 1) X.A) (I : Inv X pins σ H s)
    (hb : ∀ (x : Addr) (t : Shared), X.K.In t.heap → (all x).length = ps.length → BindsTo t fd ⟨.ref x :: us, kw⟩ (ps.zip (all x))) (rv : ∀ x, Vals (vs x) (all x))
    (h : ∀ x dx, H x = none → H dx = none → dx ≠ x → sp (vs x) (upd (upd H dx (.own x)) x (.ins C dx [])) (fun v H2 => v = .non ∧ Q (.ref x) H2) (WE W σ)) : wpAny (model X.prog X.w) X.A (call (.ref C) us kw) (EP X pins σ Q) X.xe s := by
  let a := s.heap.objs.size
  have hp := h (a + 1) a (I.hok.fresh (Nat.le_succ _)) (I.hok.fresh (Nat.le_refl _)) (Nat.ne_of_lt (Nat.lt_succ_self _))
  have J := Inv.made (C := C) I
  have z := F.run _ X.stack _ _ ⟨.ref (a + 1) :: us, kw⟩ (all (a + 1)) (vs (a + 1)) _ (WE W σ) (hr.make C us kw) (J.env0.make C us kw) (hb _ _ J.kIn ((rv (a + 1)).length.symm.trans (F.len _ _ _ _ hp))) (rv _) hp
  refine wpAny_call (make_map (f := f) I.kIn M.makes M.init (beq_iff_eq.mp M.fn) (codeAny_mono z fun o t y => ?_))
  match o, y with
  | .error q, y => exact pass tk σ pins _ _ q t J y
  | .ok (.ret _), y =>
    obtain ⟨v, H3, J3, r3, rfl, q3⟩ := J.after y
    exact ⟨r3, V.ref (a + 1), H3, J3, rfl, q3⟩
  | .ok .next, y => exact y.elim
  | .ok .brk, y => exact y.elim
  | .ok .cont, y => exact y.elim
end
theorem si_callK {x : Str} {f : Nat} {sh : List Src} {ks : List Str} {e : Expr} {es : List Expr} {kws : List Keyword} {p pos : Pos} {cs ck : Cs} (hc : CallK X L cf x f cs.len ks sh) (hg : Gl X x) (ha : SimA X L G cf (e :: es) cs) (hk : SimK X L G cf kws ck) (hck : ck.len = ks.length)
    (hall : (backToKw pos (keywordEach kws X.env)).all (·.1.isSome) = true := by rfl) (hks : (backToKw pos (keywordEach kws X.env)).filterMap (·.1) = ks := by rfl)
    (hdb : (x == ("__debug__" : Str)) = false := by decide) (he : starEach (e :: es) X.env = (false, eval e X.env) :: starEach es X.env := by rfl)
    (hpl : ((backTo pos (starEach (e :: es) X.env)).any (·.1) || (backToKw pos (keywordEach kws X.env)).any (·.1.isNone)) = false := by rfl) :
    Sim X L G cf (.Call (.Name x p) (e :: es) kws pos) (.call f sh (cs.app ck)) := by
  refine ⟨fun W tk ρ σd σ S H Q r rs h => fun pins s I => ?_⟩
  have h := Res.good_bind (r := evCs cf G (cs.app ck) σd S) h
  rw [evCs_app] at h
  have h := good_len (Res.good_bind h)
  obtain ⟨kk, fa, fd, ps, j, g, gV, F, hm, hkp, hb, hs⟩ := hc.ex
  obtain ⟨t2, pk, run⟩ := hk.run
  refine wpAny_Call_Name_kw (ld_glob I hg hm ?_ hdb)
  refine PySem.W.callWith_KW (h₀ := X.base) I.ok.mod.kin hkp hall (thn (ha.run W tk ρ σd σ S H (fun vs H1 => ∃ ρ1 S1 ds, Nx X.K L S H ρ S1 H1 ρ1 ∧ RpL X.K L H1 ρ1 S1.n ds vs ∧ ds.length = cs.len ∧ ((evCs cf G ck σd S1).bind fun ys S2 => .ok (ds ++ ys) S2).Good (fun ds S2 => ((Res.of (srcs ds sh) S2).bind fun as S3 => cf f as S3).Good (kV X.K L S H ρ Q) (kX X.K L S H ρ (WE W σ))) (kX X.K L S H ρ (WE W σ)))
    r rs (h.imp (fun ds S1 ⟨hlen, gg⟩ ρ' H' vs n q => ⟨ρ', S1, ds, n, q, hlen, gg⟩) fun _ _ _ k => k) pos pins s I) fun us s1 ⟨vs, H1, I1, rv, ρ1, S1, ds, n, q, l1, gg⟩ => ?_) hpl he
  have gg := good_len (Res.good_bind gg)
  refine thn (pk.run pos pins s1 σ H1 (fun zs H2 => ∃ ρ2 S2 es, Nx X.K L S1 H1 ρ1 S2 H2 ρ2 ∧ RpL X.K L H2 ρ2 S2.n es zs ∧ es.length = ck.len ∧ ((Res.of (srcs (ds ++ es) sh) S2).bind fun as S3 => cf f as S3).Good (kV X.K L S H ρ Q) (kX X.K L S H ρ (WE W σ))) I1
    (run W tk ρ1 σd σ S1 H1 _ n.r (n.rs rs) (gg.imp (fun es S2 ⟨hlen, g3⟩ ρ' H' zs n2 q2 => ⟨ρ', S2, es, n2, q2, hlen, g3⟩) fun _ _ _ k => k.at n))) fun ws s2 ⟨zs, H2, I2, rz, ρ2, S2, es, n2, q2, l2, g3⟩ => ⟨I2.kIn, ?_⟩
  obtain ⟨as, e3, g4⟩ := Res.good_of (Res.good_bind g3)
  obtain ⟨hl, bs, e6, q3⟩ := hs ds es vs zs H2 ρ2 S2.n (n2.rpl q) q2 l1 (l2.trans hck)
  rw [e3] at e6
  cases e6
  rw [hks]
  have m1 : us.length = cs.len := by rw [← rv.length, ← q.length, l1]
  have m2 : ws.length = ks.length := by rw [← rz.length, ← q2.length, l2]; exact hck
  exact run_kw tk F.ok (F.room.mono (by omega)) I2 (hb.to s2 us ws I2.kIn m1 m2) (hb.rel rv rz) ⟨ρ2, S2, as, hl, n2.r, q3, g4.at (n.trans n2)⟩

/-! ### instances made -/
theorem mk_self {c : Nat} {S1 : Store} {H1 : Hp} {ρ1 : Nat → Addr} {x dx : Addr} (r : Rel X.K L H1 ρ1 S1) (hx : H1 x = none) (hdx : H1 dx = none) (hne : dx ≠ x) :
    Nx X.K L S1 H1 ρ1 (S1.push (.ins c [])) (upd (upd H1 dx (.own x)) x (.ins (L.cla c) dx [])) (more ρ1 S1.n x) ∧ Rp X.K L (upd (upd H1 dx (.own x)) x (.ins (L.cla c) dx [])) (more ρ1 S1.n x) (S1.push (.ins c [])).n (.ref S1.n) (.ref x) := by
  have n1 := r.new (o := .own x) hdx
  have hx2 : upd H1 dx (.own x) x = none := by rw [upd_ne (Ne.symm hne)]; exact hx
  have n2 := n1.r.push (o := .ins (L.cla c) dx []) (c := .ins c []) hx2 ⟨dx, [], upd_same, rfl⟩
  exact ⟨n1.trans n2, Nat.lt_succ_self _, by rw [more_new]⟩
/-- behind __init__ -/
theorem mk_end {c f : Nat} {as : List D} {S S1 : Store} {k : Nat} {H H1 : Hp} {ρ ρ1 : Nat → Addr} {vs : List V} {x dx : Addr} {Q : VK} {E : XK} (n0 : Nx X.K L S H ρ S1 H1 ρ1) (hx : H1 x = none) (hdx : H1 dx = none) (hne : dx ≠ x)
    (g : ((cf f as (S1.push (.ins c []))).bind fun v S3 => if isNon v then .ok (.ref S1.n) S3 else .stuck).Good (kV X.K L S H ρ Q) (kX X.K L S H ρ E)) (hl : vs.length = k)
    (p : RpL X.K L (upd (upd H1 dx (.own x)) x (.ins (L.cla c) dx [])) (more ρ1 S1.n x) (S1.push (.ins c [])).n as vs) :
    spD X.K L cf f k vs (upd (upd H1 dx (.own x)) x (.ins (L.cla c) dx [])) (fun v H2 => v = .non ∧ Q (.ref x) H2) E := by
  obtain ⟨n2, p2⟩ := mk_self (L := L) (c := c) n0.r hx hdx hne
  refine ⟨_, _, as, hl, n2.r, p, (Res.good_bind g).imp (fun v0 S3 g3 ρ' H' v n3 p3 => ?_) fun _ _ _ k => k.at (n0.trans n2)⟩
  split at g3
  · rename_i hn
    cases isNon_eq hn
    exact ⟨p3, g3 ρ' H' _ ((n0.trans n2).trans n3) (n3.rp p2)⟩
  · exact g3.elim
theorem si_mk {x : Str} {c f : Nat} {sh : List Src} {e : Expr} {es : List Expr} {p pos : Pos} {cs : Cs} (hc : MkOk X L cf x c f cs.len sh) (hg : Gl X x) (ha : SimA X L G cf (e :: es) cs) (hdb : (x == ("__debug__" : Str)) = false := by decide)
    (he : starEach (e :: es) X.env = (false, eval e X.env) :: starEach es X.env := by rfl) (hpl : (backTo pos (starEach es X.env)).any (·.1) = false := by rfl) : Sim X L G cf (.Call (.Name x p) (e :: es) [] pos) (.mk c f sh cs) := by
  refine ⟨fun W tk ρ σd σ S H Q r rs h => fun pins s I => ?_⟩
  have h := good_len (Res.good_bind (r := evCs cf G cs σd S) h)
  obtain ⟨kk, fa, fd, ps, j, dsv, dvs, dl, F, M, hm, hb, hd, hl, hs, hdl⟩ := hc.ex
  refine wpAny_Call_Name_kw (ld_glob I hg hm ?_ hdb)
  refine PySem.W.callWith_K (h₀ := X.base) I.ok.mod.kin M.kp (thn (ha.run W tk ρ σd σ S H (fun vs H1 => ∃ ρ1 S1 ds, Nx X.K L S H ρ S1 H1 ρ1 ∧ RpL X.K L H1 ρ1 S1.n ds vs ∧ ds.length = cs.len ∧ ((Res.of (srcs (.ref S1.n :: ds) sh) S1).bind fun as S2 => (cf f as (S2.push (.ins c []))).bind fun v S3 => if isNon v then .ok (.ref S1.n) S3 else .stuck).Good (kV X.K L S H ρ Q) (kX X.K L S H ρ (WE W σ)))
    r rs (h.imp (fun ds S1 ⟨hlen, gg⟩ ρ' H' vs n q => ⟨ρ', S1, ds, n, q, hlen, gg⟩) fun _ _ _ k => k) pos pins s I) fun us s1 ⟨vs, H1, I1, rv, ρ1, S1, ds, n, q, l1, gg⟩ => ⟨I1.kIn, ?_⟩) he hpl
  obtain ⟨as, e3, g4⟩ := Res.good_of (Res.good_bind gg)
  have e5 := hs (.ref S1.n :: ds) (by rw [List.length_cons, l1])
  rw [e3] at e5
  cases e5
  have len : (V.ref 0 :: (vs ++ dvs)).length = kk := by
    rw [List.length_cons, List.length_append, ← q.length, l1]
    omega
  refine run_mk (all := fun a => .ref a :: (us ++ dsv)) (vs := fun a => .ref a :: (vs ++ dvs)) tk M F.ok (F.room.mono (by omega)) I1 (fun a t hk hz => hb t (.ref a :: us) hk hz) (fun a => .cons rfl (rv.append hd)) fun a da ha hda hne => ?_
  obtain ⟨n2, p2⟩ := mk_self (L := L) (c := c) n.r ha hda hne
  exact mk_end n ha hda hne g4 len (RpL.cons p2 ((n2.rpl q).append (hdl _ _ _)))
theorem si_mkK {x : Str} {c f : Nat} {sh : List Src} {ks : List Str} {e : Expr} {es : List Expr} {kws : List Keyword} {p pos : Pos} {cs ck : Cs} (hc : MkK X L cf x c f cs.len ks sh) (hg : Gl X x) (ha : SimA X L G cf (e :: es) cs) (hk : SimK X L G cf kws ck) (hck : ck.len = ks.length)
    (hall : (backToKw pos (keywordEach kws X.env)).all (·.1.isSome) = true := by rfl) (hks : (backToKw pos (keywordEach kws X.env)).filterMap (·.1) = ks := by rfl)
    (hdb : (x == ("__debug__" : Str)) = false := by decide) (he : starEach (e :: es) X.env = (false, eval e X.env) :: starEach es X.env := by rfl)
    (hpl : ((backTo pos (starEach (e :: es) X.env)).any (·.1) || (backToKw pos (keywordEach kws X.env)).any (·.1.isNone)) = false := by rfl) :
    Sim X L G cf (.Call (.Name x p) (e :: es) kws pos) (.mk c f sh (cs.app ck)) := by
  refine ⟨fun W tk ρ σd σ S H Q r rs h => fun pins s I => ?_⟩
  have h := Res.good_bind (r := evCs cf G (cs.app ck) σd S) h
  rw [evCs_app] at h
  have h := good_len (Res.good_bind h)
  obtain ⟨kk, fa, fd, ps, j, g, gV, F, M, hm, hb, hs⟩ := hc.ex
  obtain ⟨t2, pk, run⟩ := hk.run
  refine wpAny_Call_Name_kw (ld_glob I hg hm ?_ hdb)
  refine PySem.W.callWith_KW (h₀ := X.base) I.ok.mod.kin M.kp hall (thn (ha.run W tk ρ σd σ S H (fun vs H1 => ∃ ρ1 S1 ds, Nx X.K L S H ρ S1 H1 ρ1 ∧ RpL X.K L H1 ρ1 S1.n ds vs ∧ ds.length = cs.len ∧ ((evCs cf G ck σd S1).bind fun ys S2 => .ok (ds ++ ys) S2).Good (fun ds S2 => ((Res.of (srcs (.ref S2.n :: ds) sh) S2).bind fun as S9 => (cf f as (S9.push (.ins c []))).bind fun v S3 => if isNon v then .ok (.ref S2.n) S3 else .stuck).Good (kV X.K L S H ρ Q) (kX X.K L S H ρ (WE W σ))) (kX X.K L S H ρ (WE W σ)))
    r rs (h.imp (fun ds S1 ⟨hlen, gg⟩ ρ' H' vs n q => ⟨ρ', S1, ds, n, q, hlen, gg⟩) fun _ _ _ k => k) pos pins s I) fun us s1 ⟨vs, H1, I1, rv, ρ1, S1, ds, n, q, l1, gg⟩ => ?_) hpl he
  have gg := good_len (Res.good_bind gg)
  refine thn (pk.run pos pins s1 σ H1 (fun zs H2 => ∃ (ρ2 : Nat → Addr) (S2 : Store) (es : List D), Nx X.K L S1 H1 ρ1 S2 H2 ρ2 ∧ RpL X.K L H2 ρ2 S2.n es zs ∧ es.length = ck.len ∧ ((Res.of (srcs (.ref S2.n :: (ds ++ es)) sh) S2).bind fun as S9 => (cf f as (S9.push (.ins c []))).bind fun v S3 => if isNon v then Res.ok (D.ref S2.n) S3 else .stuck).Good (kV X.K L S H ρ Q) (kX X.K L S H ρ (WE W σ))) I1
    (run W tk ρ1 σd σ S1 H1 _ n.r (n.rs rs) (gg.imp (fun es S2 ⟨hlen, g3⟩ ρ' H' zs n2 q2 => ⟨ρ', S2, es, n2, q2, hlen, g3⟩) fun _ _ _ k => k.at n))) fun ws s2 ⟨zs, H2, I2, rz, ρ2, S2, es, n2, q2, l2, g3⟩ => ⟨I2.kIn, ?_⟩
  obtain ⟨as, e3, g4⟩ := Res.good_of (Res.good_bind g3)
  rw [hks]
  have m1 : us.length = cs.len := by rw [← rv.length, ← q.length, l1]
  have m2 : ws.length = ks.length := by rw [← rz.length, ← q2.length, l2]; exact hck
  refine run_mk (all := fun a => g (.ref a :: us) ws) (vs := fun a => gV (.ref a :: vs) zs) tk M F.ok (F.room.mono (by omega)) I2 (fun a t hk hz => hb.to t (.ref a :: us) ws hk (by rw [List.length_cons, m1]) m2) (fun a => hb.rel (.cons rfl rv) rz) fun a da ha hda hne => ?_
  obtain ⟨n3, p3⟩ := mk_self (L := L) (c := c) n2.r ha hda hne
  obtain ⟨hl, bs, e6, q3⟩ := hs (.ref S2.n :: ds) es (.ref a :: vs) zs _ _ _ (RpL.cons p3 (n3.rpl (n2.rpl q))) (n3.rpl q2) (by rw [List.length_cons, l1]) (l2.trans hck)
  rw [List.cons_append, e3] at e6
  cases e6
  exact mk_end (n.trans n2) ha hda hne g4 hl q3

/-! ### attributes, methods -/
theorem lookup_none_of {K : PySem.W.Frag} {H : Hp} {ρ : Nat → Addr} {n : Nat} {ds : List (Str × D)} {vs : List (Str × V)} {m : Str} (hf : RpF K L H ρ n ds vs) (h : (ds.lookup m).isNone = true) : vs.lookup m = none := by
  rcases hf.look m with ⟨_, e⟩ | ⟨d, v, e, _⟩
  · exact e
  · rw [e] at h; cases h
theorem si_attr {o : Expr} {f : Str} {c : C} {pos : Pos} (E : EnvOk X L G cf) (ha : Sim X L G cf o c) (hb : attributeBase o f X.env (eval o X.env) = eval o X.env := by rfl) : Sim X L G cf (.Attribute o f pos) (.attr c f) := by
  refine ⟨fun W tk ρ σd σ S H Q r rs h => fun pins s I => ?_⟩
  have h := Res.good_bind (r := evC cf G c σd S) h
  refine attr_of hb (thn (ha.run W tk ρ σd σ S H (fun v H1 => ∃ ρ1 S1 d, Nx X.K L S H ρ S1 H1 ρ1 ∧ Rp X.K L H1 ρ1 S1.n d v ∧ (match d with
      | .ref i => (match S1.get i with
        | some (.ins c fs) => (match (G.props c).lookup f with
          | some g => (cf g [.ref i] S1).nox
          | none => if (G.flds c).contains f then Res.of (fs.lookup f) S1 else .stuck)
        | _ => .stuck)
      | _ => .stuck).Good (kV X.K L S H ρ Q) (kX X.K L S H ρ (WE W σ))) r rs (h.imp (fun d S1 g ρ' H' v n p => ⟨ρ', S1, d, n, p, g⟩) fun _ _ _ k => k) pins s I) fun u s1 ⟨v, H1, I1, rv, ρ1, S1, d, n1, p1, g⟩ => ?_)
  split at g
  · rename_i i
    split at g
    · rename_i cc fs ei
      obtain ⟨hi, rfl⟩ := (show i < S1.n ∧ v = .ref (ρ1 i) from p1)
      obtain rfl : u = Value.ref (ρ1 i) := rv
      obtain ⟨dx, vs, hH, hf⟩ := n1.r.cell i _ ei
      split at g
      · rename_i g0 eg
        obtain ⟨cl, p, fa, fd, ps, j, hp, F, hbn⟩ := (E.cls cc).prop f g0 eg
        refine getprop_ok I1 hH cl hp F.ok (F.room.mono (by omega)) hbn .nil passNo ?_
        exact ⟨ρ1, S1, [.ref i], rfl, n1.r, RpL.cons p1 RpL.nil, (Res.good_nox g).imp (fun _ _ k => k.at n1) fun _ _ _ k => k.elim⟩
      · split at g
        · rename_i eg hc
          obtain ⟨d', e2, k⟩ := Res.good_of g
          obtain ⟨cl, na⟩ := (E.cls cc).fld f hc
          rcases hf.look f with ⟨e3, _⟩ | ⟨d2, v', e3, e4, p3⟩
          · rw [e2] at e3; cases e3
          · rw [e2] at e3; cases e3
            exact getattr_ok I1 hH cl na e4 fun u' s2 I2 ru => ⟨v', H1, I2, ru, k ρ1 H1 v' n1 p3⟩
        · exact g.elim
    · exact g.elim
  · exact g.elim
theorem si_attrE {o : Expr} {f g : Str} {c : C} {pos : Pos} (E : EnvOk X L G cf) (h : f = g) (ha : Sim X L G cf o c) (hb : attributeBase o f X.env (eval o X.env) = eval o X.env := by rfl) : Sim X L G cf (.Attribute o f pos) (.attr c g) := by
  subst h
  exact si_attr E ha hb
theorem si_meth {o e : Expr} {es : List Expr} {m : Str} {c : C} {cs : Cs} {apos pos : Pos} {pl : Sem Bool} (E : EnvOk X L G cf) (ho : Sim X L G cf o c) (ha : SimA X L G cf (e :: es) cs)
    (hst : starEach (e :: es) X.env = (false, eval e X.env) :: starEach es X.env := by rfl) (hpl : (backTo pos (starEach es X.env)).any (·.1) = false := by rfl)
    (ht : eval (.Call (.Attribute o m apos) (e :: es) [] pos) X.env = (do
      let ov ← eval o X.env
      standAt apos.atName
      let (f, first) ← holding [ov] (getMethod ov m pl)
      callWith pos f first (backTo pos (starEach (e :: es) X.env)) (backToKw pos (keywordEach [] X.env))) := by rfl) :
    Sim X L G cf (.Call (.Attribute o m apos) (e :: es) [] pos) (.meth c m cs) := by
  refine ⟨fun W tk ρ σd σ S H Q r rs h => fun pins s I => ?_⟩
  have h := Res.good_bind (r := evC cf G c σd S) h
  refine PySem.W.methodCall_KW (pl := pl) (thn (ho.run W tk ρ σd σ S H (fun v H1 => ∃ ρ1 S1 d, Nx X.K L S H ρ S1 H1 ρ1 ∧ Rp X.K L H1 ρ1 S1.n d v ∧ (match d with
      | .ref i => (match S1.get i with
        | some (.ins c fs) => if (fs.lookup m).isNone then (Res.of ((G.meths c).lookup m) S1).bind fun f S2 => (evCs cf G cs σd S2).bind fun ds S3 => cf f (.ref i :: ds) S3 else .stuck
        | _ => .stuck)
      | _ => .stuck).Good (kV X.K L S H ρ Q) (kX X.K L S H ρ (WE W σ))) r rs (h.imp (fun d S1 g ρ' H' v n p => ⟨ρ', S1, d, n, p, g⟩) fun _ _ _ k => k) pins s I) fun u s1 ⟨v, H1, I1, rv, ρ1, S1, d, n1, p1, g⟩ => ?_) ht
  split at g
  · rename_i i
    split at g
    · rename_i cc fs ei
      split at g
      · rename_i hno
        obtain ⟨g0, eg, g⟩ := Res.good_of (Res.good_bind g)
        have g := Res.good_bind g
        obtain ⟨hi, rfl⟩ := (show i < S1.n ∧ v = .ref (ρ1 i) from p1)
        obtain rfl : u = Value.ref (ρ1 i) := rv
        obtain ⟨dx, vs, hH, hf⟩ := n1.r.cell i _ ei
        obtain ⟨cl, fa, fd, ps, j, kk, hm, F, hbn, hlen⟩ := (E.cls cc).meth m g0 eg
        refine getmeth_ok I1 hH cl hm (lookup_none_of hf hno) ?_
        refine PySem.W.callWith_K (first := [.ref (ρ1 i)]) (h₀ := X.base) I.ok.mod.kin hm.kp (thn (ha.run W tk ρ1 σd σ S1 H1 (fun vs H2 => ∃ ρ2 S2 ds, Nx X.K L S1 H1 ρ1 S2 H2 ρ2 ∧ RpL X.K L H2 ρ2 S2.n ds vs ∧ (cf g0 (.ref i :: ds) S2).Good (kV X.K L S H ρ Q) (kX X.K L S H ρ (WE W σ))) n1.r (n1.rs rs)
          (g.imp (fun ds S2 gg ρ' H' vs n q => ⟨ρ', S2, ds, n, q, gg⟩) fun _ _ _ k => k.at n1) pos pins s1 I1) fun us s2 ⟨vs2, H2, I2, r2, ρ2, S2, ds, n2, p2, gg⟩ => ⟨I2.kIn, ?_⟩) hst hpl
        have hall := RpL.cons (n2.rp p1) p2
        have hk : (V.ref (ρ1 i) :: vs2).length = kk := by
          rw [← hall.length]
          exact F.ar _ _ gg.ns
        refine run_fnSD (us := .ref (ρ1 i) :: us) (vs := .ref (ρ1 i) :: vs2) F.ok (F.room.mono (by omega)) hbn .nil (pass tk σ) I2 (.cons rfl r2) ?_
        rw [List.append_nil]
        exact ⟨ρ2, S2, .ref i :: ds, hk, n2.r, hall, gg.at (n1.trans n2)⟩
      · exact g.elim
    · exact g.elim
  · exact g.elim
theorem si_methE {o e : Expr} {es : List Expr} {m m' : Str} {c : C} {cs : Cs} {apos pos : Pos} {pl : Sem Bool} (E : EnvOk X L G cf) (h : m = m') (ho : Sim X L G cf o c) (ha : SimA X L G cf (e :: es) cs)
    (hst : starEach (e :: es) X.env = (false, eval e X.env) :: starEach es X.env := by rfl) (hpl : (backTo pos (starEach es X.env)).any (·.1) = false := by rfl)
    (ht : eval (.Call (.Attribute o m apos) (e :: es) [] pos) X.env = (do
      let ov ← eval o X.env
      standAt apos.atName
      let (f, first) ← holding [ov] (getMethod ov m pl)
      callWith pos f first (backTo pos (starEach (e :: es) X.env)) (backToKw pos (keywordEach [] X.env))) := by rfl) :
    Sim X L G cf (.Call (.Attribute o m apos) (e :: es) [] pos) (.meth c m' cs) := by
  subst h
  exact si_meth E ho ha hst hpl ht

/-! ### subscripts -/
theorem si_sub {a b : Expr} {ca cb : C} {pos : Pos} (E : EnvOk X L G cf) (ha : Sim X L G cf a ca) (hb : Sim X L G cf b cb) (hs : PlainIx b := by exact fun _ _ => rfl) : Sim X L G cf (.Subscript a b pos) (.sub ca cb) := by
  refine ⟨fun W tk ρ σd σ S H Q r rs h => fun pins s I => ?_⟩
  have h := Res.good_bind (r := evC cf G ca σd S) h
  refine Subscript_ ?_
  refine thn (ha.run W tk ρ σd σ S H (fun v H1 => ∃ ρ1 S1 x, Nx X.K L S H ρ S1 H1 ρ1 ∧ Rp X.K L H1 ρ1 S1.n x v ∧ ((evC cf G cb σd S1).bind fun y S2 => Res.of (evSub S2 G x y) S2).Good (kV X.K L S H ρ Q) (kX X.K L S H ρ (WE W σ))) r rs (h.imp (fun x S1 g ρ' H' v n p => ⟨ρ', S1, x, n, p, g⟩) fun _ _ _ k => k) pins s I) fun u s1 ⟨v, H1, I1, rv, ρ1, S1, x, n1, p1, g⟩ => ?_
  have g := Res.good_bind g
  refine thn (hb.run W tk ρ1 σd σ S1 H1 (fun w H2 => ∃ ρ2 S2 y d, Nx X.K L S1 H1 ρ1 S2 H2 ρ2 ∧ Rp X.K L H2 ρ2 S2.n y w ∧ evSub S2 G x y = some d ∧ kV X.K L S H ρ Q d S2) n1.r (n1.rs rs) (g.imp (fun y S2 gg ρ2 H2 w n p => ?_) fun _ _ _ k => k.at n1) pins s1 I1) fun u2 s2 ⟨w, H2, I2, rw', ρ2, S2, y, d, n2, p2, e3, kd⟩ => ?_
  · obtain ⟨d, e, k⟩ := Res.good_of gg
    exact ⟨ρ2, S2, y, d, n, p, e, k⟩
  have p3 := n2.rp p1
  have fin : ∀ {v' : V}, Rp X.K L H2 ρ2 S2.n d v' → Q v' H2 := fun p => kd ρ2 H2 _ (n1.trans n2) p
  have at_ : ∀ {l : List D} {vs : List V} {i : Int}, RpL X.K L H2 ρ2 S2.n l vs → atI l i = some d → ∃ v', atI vs i = some v' ∧ Rp X.K L H2 ρ2 S2.n d v' := fun {l vs i} hl he => by
    unfold atI at he ⊢
    rw [← hl.length]
    cases q : ixN l.length i with
    | none => rw [q] at he; cases he
    | some j =>
      rw [q] at he
      obtain ⟨v', e4, e5⟩ := hl.get (show l[j]? = some d from he)
      exact ⟨v', e4, e5⟩
  cases x with
  | tup l =>
    obtain ⟨q, vs, rfl, sa, la⟩ := (show ∃ a vs, v = .ref a ∧ SqT X.K H2 a vs ∧ RpL X.K L H2 ρ2 S2.n l vs from p3)
    cases y with
    | int i =>
      cases (show w = .int i from p2)
      obtain ⟨v', e4, e5⟩ := at_ la (show atI l i = some d from e3)
      exact ix_tup a b pins s2 σ H2 _ _ u u2 Q I2 rv rw' ⟨q, vs, i, v', rfl, rfl, sa, e4, fin e5⟩ (hs _ _)
    | _ => cases e3
  | ref j =>
    obtain ⟨_, rfl⟩ := (show j < S2.n ∧ v = .ref (ρ2 j) from p3)
    cases y with
    | int i =>
      cases (show w = .int i from p2)
      have h4 : (match S2.get j with | some (.lst _ l) => atI l i | _ => none) = some d := e3
      split at h4
      · rename_i wr l ei
        have c := n2.r.cell j _ ei
        cases wr with
        | true =>
          obtain ⟨vs, hv, la⟩ := c
          obtain ⟨v', e4, e5⟩ := at_ la h4
          exact ix_list a b pins s2 σ H2 _ _ u u2 Q I2 rv rw' ⟨_, vs, i, v', rfl, rfl, SqL.of hv, e4, fin e5⟩ (hs _ _)
        | false =>
          obtain ⟨vs, hv, la⟩ := c
          obtain ⟨v', e4, e5⟩ := at_ la h4
          exact ix_list a b pins s2 σ H2 _ _ u u2 Q I2 rv rw' ⟨_, vs, i, v', rfl, rfl, hv.sq, e4, fin e5⟩ (hs _ _)
      · cases h4
    | str z =>
      cases (show w = .str z from p2)
      have h4 : (match S2.get j with | some (.dct l) => (l.find? fun p => decide (p.1 = .inr z)).map (·.2) | _ => none) = some d := e3
      split at h4
      · rename_i l ei
        obtain ⟨o, vs, hv0, la⟩ := n2.r.cell j _ ei
        have hv : Rd H2 (ρ2 j) (.dK vs) := .inr ⟨o, hv0⟩
        obtain ⟨v', e4, e5⟩ := RpK.val (.inr z) la h4
        obtain rfl : u = Value.ref (ρ2 j) := rv
        have hu := E.hu
        exact tail_any (dict_typeIs I2 (DGet.k' hv e4)) PySem.F.slot_dict_getitem.lookup (d_getItem (by omega) I2 (DGet.k' hv e4) rw' fun w' s' I' r' => ⟨v', H2, I', r', fin e5⟩) (hs _ _)
      · cases h4
    | _ => cases e3
  | str z =>
    cases (show v = .str z from p3)
    cases y with
    | int i =>
      cases (show w = .int i from p2)
      have h4 : (if z.length ≤ sizeLine then (atI z.cps.toList i).map fun c => D.str ⟨#[c]⟩ else none) = some d := e3
      split at h4
      · rename_i hz
        obtain ⟨c, e4, rfl⟩ := Option.map_eq_some_iff.mp h4
        exact ix_str a b pins s2 σ H2 _ _ u u2 Q I2 rv rw' ⟨z, i, c, rfl, rfl, hz, e4, fin rfl⟩ (hs _ _)
      · cases h4
    | _ => cases e3
  | kd j =>
    cases (show v = .ref (L.kda j) from p3)
    cases y with
    | str z =>
      cases (show w = .str z from p2)
      obtain ⟨t, ht, e4⟩ := Option.bind_eq_some_iff.mp (show (G.kdt j).bind (fun t => t.lookup z) = some d from e3)
      obtain ⟨⟨es, n, kdd, _⟩, hat⟩ := E.kd j t ht
      rcases hat z with ⟨e5, _⟩ | ⟨x, uu, vv, e5, e6, e7, e8⟩
      · rw [e4] at e5; cases e5
      · rw [e4] at e5; cases e5
        obtain rfl : u = Value.ref (L.kda j) := rv
        have hget := op_item_kd kdd pins s2 σ H2 (.ref (L.kda j)) (.str z) (.ref (L.kda j)) u2 Q I2 rfl rw' ⟨z, uu, vv, rfl, rfl, e6, e7, fin (e8 _ _ _)⟩
        exact tail_any (kd_type kdd I2) slot_dict_getitem.lookup hget (hs _ _)
    | _ => cases e3
  | non => cases y <;> cases e3
  | bl _ => cases y <;> cases e3
  | int _ => cases y <;> cases e3
end
end QD

/-! QD5: built-ins. -/
namespace QD
open PySem PySem.Spec PyProof.Rows L2
section
variable {X : Cx} {L : Pl} {G : Gd} {cf : Nat → List D → Store → Res D}
/-- a call by values, whatever it asks -/
def wCall (X : Cx) (f : Value) : List V → Hp → VK → Prop := fun vs H Q => ∀ (pins : List (Addr × Obj)) (s : Shared) (σ : L2.St) (us : List Value), Inv X pins σ H s → Vals vs us → wpAny (model X.prog X.w) X.A (call f us) (EP X pins σ Q) X.xe s
theorem crW {f : Value} : CallR X f (wCall X f) := fun pins s σ H xs us Q I r h => h pins s σ us I r
/-- a built-in of the code, by the value that is called -/
def BlOk (X : Cx) (L : Pl) (G : Gd) (cf : Nat → List D → Store → Res D) (f : Value) (b : Bl) : Prop := ∀ (ρ : Nat → Addr) (S : Store) (H : Hp) (ds : List D) (vs : List V) (d : D) (S' : Store) (Q : VK), Rel X.K L H ρ S → RpL X.K L H ρ S.n ds vs → evBlO G cf b ds S = .ok d S' → kV X.K L S H ρ Q d S' → wCall X f vs H Q
theorem nox_ok {α : Type} {r : Res α} {a : α} {S : Store} (h : r.nox = .ok a S) : r = .ok a S := by
  cases r <;> first | exact h | cases h
theorem blo_cases {b : Bl} {l : List D} {S S' : Store} {d : D} (h : evBlO G cf b l S = .ok d S') : (∃ x c, l = [x] ∧ insOf S x = some c) ∨ evBl G S b l = .ok d S' := by
  cases l with
  | nil => exact .inr (nox_ok h)
  | cons x t =>
    cases t with
    | cons y t => exact .inr (nox_ok h)
    | nil =>
      cases e : insOf S x with
      | some c => exact .inl ⟨x, c, rfl, e⟩
      | none =>
        refine .inr (nox_ok (r := evBl G S b [x]) ?_)
        unfold evBlO at h
        dsimp only at h
        rw [e] at h
        exact h
/-- a rule of the library, where an instance has no way of its own -/
theorem bl_of {f : Value} {b : Bl} {r : List V → Hp → VK → Prop} (hc : CallR X f r) (hr : ∀ (ρ : Nat → Addr) (S : Store) (H : Hp) (ds : List D) (vs : List V) (d : D) (S' : Store) (Q : VK), Rel X.K L H ρ S → RpL X.K L H ρ S.n ds vs → evBl G S b ds = .ok d S' → kV X.K L S H ρ Q d S' → r vs H Q)
    (hn : ∀ x c S d S', insOf S x = some c → evBlO G cf b [x] S = .ok d S' → False) : BlOk X L G cf f b := by
  intro ρ S H ds vs d S' Q r0 p h k pins s σ us I rv
  rcases blo_cases h with ⟨x, c, rfl, e⟩ | h1
  · exact (hn x c S d S' e h).elim
  · exact hc pins s σ H vs us Q I rv (hr ρ S H ds vs d S' Q r0 p h1 k)
def plainB : Bl → Bool
  | .len => false | .bool1 => false | .str1 => false | .repr1 => false | .isi _ => false | _ => true
theorem no_own {b : Bl} {x : D} {c : Nat} {S S' : Store} {d : D} (e : insOf S x = some c) (h : evBlO G cf b [x] S = .ok d S') (hb : plainB b = true) : False := by
  unfold evBlO at h
  dsimp only at h
  rw [e] at h
  cases b <;> first | (cases hb; done) | (cases h; done)
theorem si_blt {x : Str} {fv : Value} {e : Expr} {es : List Expr} {p pos : Pos} {cs : Cs} {b : Bl} (hv : (∃ id, fv = .builtin id ∧ bootBuiltins x = some (.builtin id)) ∨ ∃ id, fv = .type id ∧ bootBuiltins x = some (.type id)) (hb : BlOk X L G cf fv b)
    (hg : Gl X x) (hm : X.mg x = none) (ha : SimA X L G cf (e :: es) cs) (hn : x ≠ "__name__" := by decide) (hdb : (x == ("__debug__" : Str)) = false := by decide)
    (he : starEach (e :: es) X.env = (false, eval e X.env) :: starEach es X.env := by rfl) (hpl : (backTo pos (starEach es X.env)).any (·.1) = false := by rfl) : Sim X L G cf (.Call (.Name x p) (e :: es) [] pos) (.blt b cs) := by
  refine ⟨fun W tk ρ σd σ S H Q r rs h => ?_⟩
  have h := Res.good_bind (r := evCs cf G cs σd S) h
  have go : wA X (e :: es) σ H fun vs H1 => wCall X fv vs H1 Q := ha.run W tk ρ σd σ S H _ r rs (h.imp (fun ds S1 g ρ' H' vs n p => ?_) fun _ _ _ k => k)
  · rcases hv with ⟨id, rfl, hv⟩ | ⟨id, rfl, hv⟩
    · exact ofE (pe_callB crW hg hm hv (pA (e :: es)) hn hdb he hpl) go
    · exact ofE (pe_callTy crW hg hm hv (pA (e :: es)) hn hdb he hpl) go
  · have g2 := (Res.good_nox g).eqn
    cases e1 : evBlO G cf b ds S1 with
    | ok d S2 =>
      rw [e1] at g2
      exact hb ρ' S1 H' ds vs d S2 Q n.r p e1 (g2.2.at n)
    | ex c d S2 => rw [e1] at g2; exact g2.2.elim
    | stuck => rw [e1] at g2; exact g2.elim
theorem rp1 {K : PySem.W.Frag} {H : Hp} {ρ : Nat → Addr} {n : Nat} {d : D} {vs : List V} (h : RpL K L H ρ n [d] vs) : ∃ v, vs = [v] ∧ Rp K L H ρ n d v := by
  obtain ⟨v, r, rfl, h1, h2⟩ := h
  cases (show r = [] from h2)
  exact ⟨v, rfl, h1⟩
/-- the cell of a list -/
theorem cell_lst {K : PySem.W.Frag} {H : Hp} {ρ : Nat → Addr} {S : Store} {i : Nat} {w : Bool} {l : List D} (r : Rel K L H ρ S) (e : S.get i = some (.lst w l)) : ∃ vs, SqL K H (ρ i) vs ∧ RpL K L H ρ S.n l vs := by
  have x := r.cell i _ e
  cases w with
  | true => obtain ⟨vs, h1, h2⟩ := x; exact ⟨vs, SqL.of h1, h2⟩
  | false => obtain ⟨vs, h1, h2⟩ := x; exact ⟨vs, h1.sq, h2⟩
theorem bl_len : ∀ (ρ : Nat → Addr) (S : Store) (H : Hp) (ds : List D) (vs : List V) (d : D) (S' : Store) (Q : VK), Rel X.K L H ρ S → RpL X.K L H ρ S.n ds vs → evBl G S .len ds = .ok d S' → (∀ i l, ds = [.ref i] → S.get i ≠ some (.dct l)) → (∀ ρ' H' v, Nx X.K L S H ρ S' H' ρ' → Rp X.K L H' ρ' S'.n d v → Q v H') →
    ∃ x n, vs = [x] ∧ LenV X.K x H n ∧ Q (.int n) H := by
  intro ρ S H ds vs d S' Q r p h hnd k
  cases ds with
  | nil => cases h
  | cons x t =>
    cases t with
    | cons _ _ => cases x <;> cases h
    | nil =>
      obtain ⟨v, rfl, px⟩ := rp1 p
      cases x with
      | str z =>
        cases (show v = .str z from px)
        have h1 : (if z.length ≤ sizeLine then Res.ok (.int z.length) S else .stuck) = Res.ok d S' := h
        split at h1
        · cases h1
          exact ⟨_, z.length, rfl, ⟨by assumption, rfl⟩, k ρ H _ (Nx.refl r) rfl⟩
        · cases h1
      | tup l =>
        obtain ⟨a, us, rfl, s, q⟩ := (show ∃ a vs, v = .ref a ∧ SqT X.K H a vs ∧ RpL X.K L H ρ S.n l vs from px)
        cases h
        refine ⟨_, us.length, rfl, .inr ⟨us, s, rfl⟩, ?_⟩
        rw [← q.length]
        exact k ρ H _ (Nx.refl r) rfl
      | ref i =>
        obtain ⟨_, rfl⟩ := (show i < S.n ∧ v = .ref (ρ i) from px)
        have h1 : (match S.get i with | some (.lst _ l) => Res.ok (.int l.length) S | some (.dct l) => .ok (.int l.length) S | _ => .stuck) = Res.ok d S' := h
        split at h1
        · rename_i w l e
          cases h1
          obtain ⟨us, s, q⟩ := cell_lst r e
          refine ⟨_, us.length, rfl, .inl ⟨us, s, rfl⟩, ?_⟩
          rw [← q.length]
          exact k ρ H _ (Nx.refl r) rfl
        · rename_i l e
          exact (hnd i l rfl e).elim
        · cases h1
      | _ => cases h

/-! ### own __len__, __str__, __repr__, bool -/
theorem ins_of {S : Store} {x : D} {c : Nat} (h : insOf S x = some c) : ∃ i fs, x = .ref i ∧ S.get i = some (.ins c fs) := by
  cases x with
  | ref i =>
    have h1 : (match S.get i with | some (.ins c _) => some c | _ => none) = some c := h
    split at h1
    · rename_i c' fs e
      cases h1
      exact ⟨i, fs, rfl, e⟩
    · cases h1
  | _ => cases h
section
variable {A : Around} {k : Nat} {f : Addr} {fd : FuncData} {ps : List Str} {sp : Sp} {pins : List (Addr × Obj)} {σ : L2.St} {H : Hp} {s : Shared} {Q : VK} {E : XK} {E' : Value → Shared → Prop}
/-- a def runs somewhere below -/
theorem run_in {us : List Value} {vs : List V} (F : FnOk X.prog X.w X.K X.mg X.base (L2.CX X.prog X.w) k f fd ps sp) (hr : Room k A) (e0 : Env0 X.prog X.w X.K X.mg X.base A X.stack s H) (hb : Binds X.K fd ps []) (I : Inv X pins σ H s) (rv : Vals vs us) (h : sp vs H Q E)
    (hE : ∀ e t, L2.CX X.prog X.w X.stack H s E e t → E' e t) : wpAny (model X.prog X.w) A (call (.ref f) us) (EP X pins σ Q) E' s := by
  have m := hb s us I.kIn (by rw [List.append_nil, ← rv.length]; exact F.len _ _ _ _ h)
  rw [List.append_nil] at m
  refine wpAny_call (codeAny_mono (F.run A X.stack s H ⟨us, []⟩ us vs Q E hr e0 m rv h) fun o t y => ?_)
  match o, y with
  | .error q, y => exact hE q t y
  | .ok (.ret _), y => exact I.after y
  | .ok .next, y => exact y.elim
  | .ok .brk, y => exact y.elim
  | .ok .cont, y => exact y.elim
theorem noE {H0 : Hp} {s0 : Shared} : ∀ (e : Value) (t : Shared), L2.CX X.prog X.w X.stack H0 s0 (fun _ _ _ => False) e t → E' e t := fun e t ⟨_, _, _, _, _, _, _, _, _, _, _, _, z⟩ => z.elim
end
/-- where an instance stands -/
theorem own_at {S : Store} {ρ : Nat → Addr} {H : Hp} {i c : Nat} {fs : List (Str × D)} {pins : List (Addr × Obj)} {σ : L2.St} {s : Shared} (r : Rel X.K L H ρ S) (e : S.get i = some (.ins c fs)) (I : Inv X pins σ H s) : ∃ (ox : Obj) (od : Option Obj), PySem.W.InstAt s.heap (ρ i) ox (L.cla c) od := by
  obtain ⟨dx, vs, hH, hf⟩ := r.cell i _ e
  obtain ⟨mA, O, _, _, _, _⟩ := ins_get I.hok hH
  obtain ⟨od, J, _⟩ := O.look
  exact ⟨_, _, J⟩
/-- what an own method of one argument tells -/
theorem own_one {S S' : Store} {ρ : Nat → Addr} {H : Hp} {i g : Nat} {d : D} {Q : VK} (r : Rel X.K L H ρ S) (hi : i < S.n) (e : cf g [.ref i] S = .ok d S') (k : kV X.K L S H ρ Q d S') : spD X.K L cf g 1 [.ref (ρ i)] H Q fun _ _ _ => False :=
  ⟨ρ, S, [.ref i], rfl, r, RpL.cons ⟨hi, rfl⟩ RpL.nil, Res.Good.ok e k⟩
theorem bl_lenO (E : EnvOk X L G cf) : BlOk X L G cf (.builtin "len") .len := by
  intro ρ S H ds vs d S' Q r0 p h k pins s σ us I rv
  rcases blo_cases h with ⟨x, c, rfl, e⟩ | h1
  · obtain ⟨i, fs, rfl, ei⟩ := ins_of e
    unfold evBlO at h
    dsimp only at h
    rw [e] at h
    dsimp only at h
    split at h
    · rename_i f ef
      obtain ⟨v, S1, e1, e2⟩ := Res.bind_ok h
      split at e2
      · rename_i n
        split at e2
        · rename_i hn
          cases e2
          obtain ⟨v0, rfl, px⟩ := rp1 p
          obtain ⟨hi, rfl⟩ := (show i < S.n ∧ v0 = .ref (ρ i) from px)
          obtain ⟨u, rfl, ru⟩ := rv.one
          cases (show u = Value.ref (ρ i) from ru)
          obtain ⟨O, cl, fa, fd, ps, j, kk, hf1, hf2, F, hbn, hl⟩ := (E.cls c).op _ f ef
          have hk : kk = 1 := (F.ar [.ref i] S (by rw [e1]; exact fun z => nomatch z)).symm
          subst hk
          obtain ⟨ox, od, J⟩ := own_at r0 ei I
          obtain ⟨m, hF⟩ := I.fr
          refine PySem.W.len_K hF I.ok.mod.kin J hf1 hf2 (wpAny_mono (run_in (us := [.ref (ρ i)]) (vs := [.ref (ρ i)]) F.ok (F.room.in1.mono (by omega)) I.env0.in1 hbn I (.cons rfl .nil) (own_one (Q := fun v H' => v = .int n ∧ Q v H') r0 hi e1 fun ρ' H' v n' q => ?_) noE) (fun w s' z => ?_) fun _ _ z => z)
          · cases (show v = .int n from q)
            exact ⟨rfl, k ρ' H' _ n' rfl⟩
          · obtain ⟨v, H', I', rz, rfl, q⟩ := z
            obtain ⟨t, rfl⟩ := rz
            exact ⟨⟨hn.1, by omega⟩, .int n, H', I'.tok _, ⟨_, rfl⟩, q⟩
        · cases e2
      · cases e2
    · cases h
  · by_cases hd : ∃ i l, ds = [.ref i] ∧ S.get i = some (.dct l)
    · obtain ⟨i, l, rfl, e⟩ := hd
      obtain ⟨v, rfl, px⟩ := rp1 p
      obtain ⟨_, rfl⟩ := (show i < S.n ∧ v = .ref (ρ i) from px)
      have h2 : (match S.get i with | some (.lst _ l) => Res.ok (.int l.length) S | some (.dct l) => .ok (.int l.length) S | _ => .stuck) = Res.ok d S' := h1
      rw [e] at h2
      cases h2
      obtain ⟨o, vs2, g1, g2⟩ := r0.cell i _ e
      obtain ⟨u, rfl, ru⟩ := rv.one
      cases (show u = Value.ref (ρ i) from ru)
      refine d_len I (.inr ⟨o, g1⟩) fun t s' I' => ⟨.int vs2.length, H, I', ⟨t, rfl⟩, ?_⟩
      rw [g2.length]
      exact k _ _ _ (Nx.refl r0) rfl
    · exact call_len pins s σ H vs us Q I rv (bl_len ρ S H ds vs d S' Q r0 p h1 (fun i l e g => hd ⟨i, l, e, g⟩) k)

/-! ### own __str__, __repr__, bool -/
namespace Own
open Builtin PySem.W PySem.Calls
variable {prog : Program} {w : World} {A : Around} {E : Value → Shared → Prop} {s : Shared} {K : Frag} {x C f : Addr} {ox : Obj} {od : Option Obj}
theorem truthy_len {Q : Bool → Shared → Prop} (X : K.In s.heap) (I : InstAt s.heap x ox C od) (hb : findIn K (.ref C) "__bool__" = some none) (hs : findIn K (.ref C) "__len__" = some (some (.ref f))) (hf : isFn K (.ref f) = true)
    (h : wpAny (model prog w) A.in1 (call (.ref f) [.ref x]) (PySem.W.LenBack fun v s' => ∃ n t, v = .int n t ∧ Q (n != 0) s') E s) : wpAny (model prog w) A (truthy (.ref x)) Q E s := by
  have key : wpAny (model prog w) A (runValue (.builtin "len" ⟨[.ref x], []⟩)) (fun v s' => ∃ n t, v = .int n t ∧ Q (n != 0) s') E s := by
    refine wpAny_runValue (codeAny_builtin entry_len ?_)
    rw [Around.under_plainId plain_len _]
    unfold Builtin.«len»
    refine wpAny_bind (m := oneArg "len" _) (wpAny_pure ?_)
    refine wpAny_bind (m := callSpecial? (.ref x) (Str.ofString "__len__")) (special_fn X I hs (beq_iff_eq.mp hf) (wpAny_mono h (fun r s' hr => ?_) fun _ _ y => y))
    cases r <;> first | exact hr.elim | skip
    rename_i n u
    obtain ⟨⟨h0, h1⟩, hq⟩ := hr
    refine wpAny_bind (wpAny_holding (wpAny_pure ?_))
    refine wpAny_bind (wpAny_letGo ?_)
    show wpAny _ _ (if n < 0 then _ else _) _ _ _
    rw [if_neg (by omega)]
    show wpAny _ _ (if n ≥ 2 ^ 63 then _ else _) _ _ _
    rw [if_neg (by omega)]
    exact wpAny_bind (wpAny_mkInt (wpAny_pure hq))
  unfold truthy
  refine wpAny_bind (m := callSpecial? (.ref x) (Str.ofString "__bool__")) (wpAny_bind (wpAny_bind (I.type.here ((looks_findIn X hb).here (wpAny_pure ?_)))))
  refine wpAny_bind (wpAny_bind (I.type.here ((looks_findIn X hs).here ?_)))
  exact wpAny_bind (wpAny_mono key (fun r s' h' => by obtain ⟨n, t, rfl, hq⟩ := h'; exact wpAny_pure hq) fun _ _ e => e)
theorem bool_call {Q : Value → Shared → Prop} (h : wpAny (model prog w) A.in1.in1 (truthy (.ref x)) (fun b s' => Q (.bool b) s') E s) : wpAny (model prog w) A (call (.type "bool") [.ref x]) Q E s := by
  refine callType_codes (T := "bool") (Bi := Builtin.«object.__init__») (Q₁ := fun r s₁ => ∃ b, r = .bool b ∧ Q r s₁) PySem.F.called_bool (PySem.F.typeCall_bool_1 _) PySem.F.entry_object_init ?_ ?_
  · refine codeAny_of_tree ?_
    show wpAny _ A.in1.in1 (do checkBuiltinCall "bool.__new__" ⟨[.type "bool", .ref x], []⟩; again (.builtin "bool.__new__" ⟨[.type "bool", .ref x], []⟩)) _ _ s
    refine wpAny_bind (wpAny_of_eq (PySem.F.newCall_bool_1 _) (wpAny_pure ⟨plainId_quiet (by decide +kernel) _, codeAny_builtin PySem.F.entry_bool_new ?_⟩))
    rw [Around.under_plainId (by decide +kernel) _]
    unfold Builtin.«bool.__new__»
    refine wpAny_bind (m := isType (.type "bool")) (wpAny_pure ?_)
    refine wpAny_bind (wpAny_of_eq PySem.F.conv_sub_bool ?_)
    refine wpAny_bind (m := someArgs "bool" 0 1 _) (wpAny_pure ?_)
    refine wpAny_bind (wpAny_mono h (fun b s₁ hr => wpAny_pure ⟨b, rfl, hr⟩) fun _ _ y => y)
  · rintro obj s₁ ⟨b, rfl, hq⟩
    exact ⟨PySem.typeIs_bool _ _, PySem.F.args_object_init_2 _ _, object_init_meets PySem.F.called_bool.init.lookup PySem.F.called_bool.made (by decide) prog w A.in1 _ s₁ ⟨PySem.typeIs_bool _ _, rfl, hq⟩⟩
end Own
theorem bl_int1 : ∀ (ρ : Nat → Addr) (S : Store) (H : Hp) (ds : List D) (vs : List V) (d : D) (S' : Store) (Q : VK), Rel X.K L H ρ S → RpL X.K L H ρ S.n ds vs → evBl G S .int1 ds = .ok d S' → (∀ ρ' H' v, Nx X.K L S H ρ S' H' ρ' → Rp X.K L H' ρ' S'.n d v → Q v H') →
    ((∃ i, vs = [.int i] ∧ Q (.int i) H) ∨ ∃ k, vs = [.bl k] ∧ Q (.int (if k then 1 else 0)) H) ∨ (∃ a n, vs = [.str a] ∧ PySem.intText? a = some n ∧ a.length ≤ 640 ∧ Q (.int n) H) := by
  intro ρ S H ds vs d S' Q r p h k
  cases ds with
  | nil => cases h
  | cons x t =>
    cases t with
    | cons _ _ => cases x <;> cases h
    | nil =>
      obtain ⟨v, rfl, px⟩ := rp1 p
      cases x with
      | int i =>
        cases (show v = .int i from px)
        cases h
        exact .inl (.inl ⟨i, rfl, k ρ H _ (Nx.refl r) rfl⟩)
      | bl b =>
        cases (show v = .bl b from px)
        cases h
        exact .inl (.inr ⟨b, rfl, k ρ H _ (Nx.refl r) rfl⟩)
      | str z =>
        cases (show v = .str z from px)
        have h1 : (if z.length ≤ 640 then Res.of ((PySem.intText? z).map D.int) S else .stuck) = Res.ok d S' := h
        split at h1
        · rename_i hl
          obtain ⟨e1, rfl⟩ := Res.of_ok h1
          obtain ⟨n, e2, rfl⟩ := Option.map_eq_some_iff.mp e1
          exact .inr ⟨z, n, rfl, e2, hl, k ρ H _ (Nx.refl r) rfl⟩
        · cases h1
      | _ => cases h

theorem bl_abs : ∀ (ρ : Nat → Addr) (S : Store) (H : Hp) (ds : List D) (vs : List V) (d : D) (S' : Store) (Q : VK), Rel X.K L H ρ S → RpL X.K L H ρ S.n ds vs → evBl G S .abs ds = .ok d S' → (∀ ρ' H' v, Nx X.K L S H ρ S' H' ρ' → Rp X.K L H' ρ' S'.n d v → Q v H') →
    ∃ i, vs = [.int i] ∧ Q (.int (if i < 0 then -i else i)) H := by
  intro ρ S H ds vs d S' Q r p h k
  cases ds with
  | nil => cases h
  | cons x t =>
    cases t with
    | cons _ _ => cases x <;> cases h
    | nil =>
      obtain ⟨v, rfl, px⟩ := rp1 p
      cases x with
      | int i =>
        cases (show v = .int i from px)
        cases h
        exact ⟨i, rfl, k ρ H _ (Nx.refl r) rfl⟩
      | _ => cases h

theorem bls_v {K : PySem.W.Frag} {H : Hp} {ρ : Nat → Addr} {n : Nat} : ∀ {l : List D} {bs : List Bool} {vs : List V}, bls l = some bs → RpL K L H ρ n l vs → vs = bs.map V.bl
  | [], bs, vs, h, r => by cases h; exact r
  | x :: t, bs, vs, h, r => by
    obtain ⟨v, u, rfl, h1, h2⟩ := r
    cases x with
    | bl b =>
      obtain ⟨cs, h3, rfl⟩ := Option.map_eq_some_iff.mp (show (bls t).map (b :: ·) = some bs from h)
      cases (show v = .bl b from h1)
      rw [bls_v h3 h2]
      rfl
    | _ => cases h

theorem bl_all : ∀ (ρ : Nat → Addr) (S : Store) (H : Hp) (ds : List D) (vs : List V) (d : D) (S' : Store) (Q : VK), Rel X.K L H ρ S → RpL X.K L H ρ S.n ds vs → evBl G S .all ds = .ok d S' → (∀ ρ' H' v, Nx X.K L S H ρ S' H' ρ' → Rp X.K L H' ρ' S'.n d v → Q v H') →
    rAll X.K vs H Q := by
  intro ρ S H ds vs d S' Q r p h k
  cases ds with
  | nil => cases h
  | cons x t =>
    cases t with
    | cons _ _ => cases x <;> cases h
    | nil =>
      obtain ⟨v, rfl, px⟩ := rp1 p
      cases x with
      | ref i =>
        obtain ⟨_, rfl⟩ := (show i < S.n ∧ v = .ref (ρ i) from px)
        have h1 : (match S.get i with | some (.lst _ l) => Res.of ((bls l).map fun bs => .bl (bs.all id)) S | _ => .stuck) = Res.ok d S' := h
        split at h1
        · rename_i w l e
          obtain ⟨h2, rfl⟩ := Res.of_ok h1
          obtain ⟨bs, h3, rfl⟩ := Option.map_eq_some_iff.mp h2
          obtain ⟨us, s, q⟩ := cell_lst r e
          cases bls_v h3 q
          exact ⟨_, bs, rfl, s, k ρ H _ (Nx.refl r) rfl⟩
        · cases h1
      | _ => cases h

theorem bl_any : ∀ (ρ : Nat → Addr) (S : Store) (H : Hp) (ds : List D) (vs : List V) (d : D) (S' : Store) (Q : VK), Rel X.K L H ρ S → RpL X.K L H ρ S.n ds vs → evBl G S .any ds = .ok d S' → (∀ ρ' H' v, Nx X.K L S H ρ S' H' ρ' → Rp X.K L H' ρ' S'.n d v → Q v H') →
    rAny X.K vs H Q := by
  intro ρ S H ds vs d S' Q r p h k
  cases ds with
  | nil => cases h
  | cons x t =>
    cases t with
    | cons _ _ => cases x <;> cases h
    | nil =>
      obtain ⟨v, rfl, px⟩ := rp1 p
      cases x with
      | ref i =>
        obtain ⟨_, rfl⟩ := (show i < S.n ∧ v = .ref (ρ i) from px)
        have h1 : (match S.get i with | some (.lst _ l) => Res.of ((bls l).map fun bs => .bl (bs.any id)) S | _ => .stuck) = Res.ok d S' := h
        split at h1
        · rename_i w l e
          obtain ⟨h2, rfl⟩ := Res.of_ok h1
          obtain ⟨bs, h3, rfl⟩ := Option.map_eq_some_iff.mp h2
          obtain ⟨us, s, q⟩ := cell_lst r e
          cases bls_v h3 q
          exact ⟨_, bs, rfl, s, k ρ H _ (Nx.refl r) rfl⟩
        · cases h1
      | _ => cases h

theorem bl_tup : ∀ (ρ : Nat → Addr) (S : Store) (H : Hp) (ds : List D) (vs : List V) (d : D) (S' : Store) (Q : VK), Rel X.K L H ρ S → RpL X.K L H ρ S.n ds vs → evBl G S .tuple1 ds = .ok d S' → (∀ ρ' H' v, Nx X.K L S H ρ S' H' ρ' → Rp X.K L H' ρ' S'.n d v → Q v H') →
    ∃ p ys, vs = [.ref p] ∧ ((SqL X.K H p ys ∧ ∀ l, H l = none → Q (.ref l) (upd H l (.tup ys))) ∨ (SqT X.K H p ys ∧ Q (.ref p) H)) := by
  intro ρ S H ds vs d S' Q r p h k
  cases ds with
  | nil => cases h
  | cons x t =>
    cases t with
    | cons _ _ => cases x <;> cases h
    | nil =>
      obtain ⟨v, rfl, px⟩ := rp1 p
      cases x with
      | ref i =>
        obtain ⟨_, rfl⟩ := (show i < S.n ∧ v = .ref (ρ i) from px)
        have h1 : (match S.get i with | some (.lst _ l) => Res.ok (.tup l) S | _ => .stuck) = Res.ok d S' := h
        split at h1
        · rename_i w l e
          cases h1
          obtain ⟨us, s, q⟩ := cell_lst r e
          refine ⟨_, us, rfl, .inl ⟨s, fun a ha => ?_⟩⟩
          have n2 := r.new (o := .tup us) ha
          exact k ρ _ _ n2 ⟨a, us, rfl, SqT.of upd_same, n2.rpl q⟩
        · cases h1
      | tup l =>
        obtain ⟨a, us, rfl, s, q⟩ := (show ∃ a vs, v = .ref a ∧ SqT X.K H a vs ∧ RpL X.K L H ρ S.n l vs from px)
        cases h
        exact ⟨a, us, rfl, .inr ⟨s, k ρ H _ (Nx.refl r) ⟨a, us, rfl, s, q⟩⟩⟩
      | _ => cases h

theorem bl_list : ∀ (ρ : Nat → Addr) (S : Store) (H : Hp) (ds : List D) (vs : List V) (d : D) (S' : Store) (Q : VK), Rel X.K L H ρ S → RpL X.K L H ρ S.n ds vs → evBl G S .list1 ds = .ok d S' → (∀ z, ds ≠ [.str z]) → (∀ z, ds ≠ [.kd z]) → (∀ i l, ds = [.ref i] → S.get i ≠ some (.dct l)) → (∀ ρ' H' v, Nx X.K L S H ρ S' H' ρ' → Rp X.K L H' ρ' S'.n d v → Q v H') →
    ∃ p ys, vs = [.ref p] ∧ (SqL X.K H p ys ∨ SqT X.K H p ys) ∧ ∀ l, H l = none → Q (.ref l) (upd H l (.lst ys)) := by
  intro ρ S H ds vs d S' Q r p h hns hnk hnd k
  have fin : ∀ {l : List D} {us : List V}, RpL X.K L H ρ S.n l us → (∀ ρ' H' v, Nx X.K L S H ρ (S.push (.lst true l)) H' ρ' → Rp X.K L H' ρ' (S.push (.lst true l)).n (.ref S.n) v → Q v H') → ∀ a, H a = none → Q (.ref a) (upd H a (.lst us)) := fun {l us} q k a ha => by
    have n2 := r.push (o := .lst us) (c := .lst true l) ha ⟨us, upd_same, q.mono (TM.new ha) more_agree (Nat.le_succ _)⟩
    exact k _ _ _ n2 ⟨Nat.lt_succ_self _, by rw [more_new]⟩
  cases ds with
  | nil => cases h
  | cons x t =>
    cases t with
    | cons _ _ => cases x <;> cases h
    | nil =>
      obtain ⟨v, rfl, px⟩ := rp1 p
      cases x with
      | ref i =>
        obtain ⟨_, rfl⟩ := (show i < S.n ∧ v = .ref (ρ i) from px)
        have h1 : (match S.get i with | some (.lst _ l) => Res.ok (.ref S.n) (S.push (.lst true l)) | some (.dct l) => .ok (.ref S.n) (S.push (.lst true (l.map fun q => keyD q.1))) | _ => .stuck) = Res.ok d S' := h
        split at h1
        · rename_i w l e
          cases h1
          obtain ⟨us, s, q⟩ := cell_lst r e
          exact ⟨_, us, rfl, .inl s, fin q k⟩
        · rename_i l e
          exact (hnd i l rfl e).elim
        · cases h1
      | tup l =>
        obtain ⟨a, us, rfl, s, q⟩ := (show ∃ a vs, v = .ref a ∧ SqT X.K H a vs ∧ RpL X.K L H ρ S.n l vs from px)
        cases h
        exact ⟨a, us, rfl, .inr s, fin q k⟩
      | str z => exact (hns z rfl).elim
      | kd z => exact (hnk z rfl).elim
      | _ => cases h

theorem crW' {f : Value} {r : List V → Hp → VK → Prop} (h : CallR X f r) : CallR X f r := h
theorem no_b {b : Bl} (hb : plainB b = true) : ∀ x c S d S', insOf S x = some c → evBlO G cf b [x] S = .ok d S' → False := fun x c S d S' e h => no_own e h hb

theorem si_len {e : Expr} {p pos : Pos} {cs : Cs} (E : EnvOk X L G cf) (hg : Gl X "len") (hm : X.mg "len" = none) (ha : SimA X L G cf [e] cs) (he : starEach [e] X.env = (false, eval e X.env) :: starEach [] X.env := by rfl) (hpl : (backTo pos (starEach [] X.env)).any (·.1) = false := by rfl) : Sim X L G cf (.Call (.Name "len" p) [e] [] pos) (.blt .len cs) :=
  si_blt (.inl ⟨_, rfl, by rfl⟩) (bl_lenO E) hg hm ha (by decide) (by decide) he hpl

theorem si_int1 {e : Expr} {p pos : Pos} {cs : Cs} (hg : Gl X "int") (hm : X.mg "int" = none) (ha : SimA X L G cf [e] cs) (he : starEach [e] X.env = (false, eval e X.env) :: starEach [] X.env := by rfl) (hpl : (backTo pos (starEach [] X.env)).any (·.1) = false := by rfl) : Sim X L G cf (.Call (.Name "int" p) [e] [] pos) (.blt .int1 cs) :=
  si_blt (.inr ⟨_, rfl, by rfl⟩) (bl_of (call_int1.or call_int_str) bl_int1 (no_b rfl)) hg hm ha (by decide) (by decide) he hpl

theorem si_abs {e : Expr} {p pos : Pos} {cs : Cs} (hg : Gl X "abs") (hm : X.mg "abs" = none) (ha : SimA X L G cf [e] cs) (he : starEach [e] X.env = (false, eval e X.env) :: starEach [] X.env := by rfl) (hpl : (backTo pos (starEach [] X.env)).any (·.1) = false := by rfl) : Sim X L G cf (.Call (.Name "abs" p) [e] [] pos) (.blt .abs cs) :=
  si_blt (.inl ⟨_, rfl, by rfl⟩) (bl_of call_abs bl_abs (no_b rfl)) hg hm ha (by decide) (by decide) he hpl

theorem si_all {e : Expr} {p pos : Pos} {cs : Cs} (hc : X.calm = true) (hg : Gl X "all") (hm : X.mg "all" = none) (ha : SimA X L G cf [e] cs) (he : starEach [e] X.env = (false, eval e X.env) :: starEach [] X.env := by rfl) (hpl : (backTo pos (starEach [] X.env)).any (·.1) = false := by rfl) : Sim X L G cf (.Call (.Name "all" p) [e] [] pos) (.blt .all cs) :=
  si_blt (.inl ⟨_, rfl, by rfl⟩) (bl_of (cr_all hc) bl_all (no_b rfl)) hg hm ha (by decide) (by decide) he hpl

theorem si_any {e : Expr} {p pos : Pos} {cs : Cs} (hc : X.calm = true) (hg : Gl X "any") (hm : X.mg "any" = none) (ha : SimA X L G cf [e] cs) (he : starEach [e] X.env = (false, eval e X.env) :: starEach [] X.env := by rfl) (hpl : (backTo pos (starEach [] X.env)).any (·.1) = false := by rfl) : Sim X L G cf (.Call (.Name "any" p) [e] [] pos) (.blt .any cs) :=
  si_blt (.inl ⟨_, rfl, by rfl⟩) (bl_of (cr_any hc) bl_any (no_b rfl)) hg hm ha (by decide) (by decide) he hpl

theorem si_tuple1 {e : Expr} {p pos : Pos} {cs : Cs} (hg : Gl X "tuple") (hm : X.mg "tuple" = none) (ha : SimA X L G cf [e] cs) (he : starEach [e] X.env = (false, eval e X.env) :: starEach [] X.env := by rfl) (hpl : (backTo pos (starEach [] X.env)).any (·.1) = false := by rfl) : Sim X L G cf (.Call (.Name "tuple" p) [e] [] pos) (.blt .tuple1 cs) :=
  si_blt (.inr ⟨_, rfl, by rfl⟩) (bl_of call_tuple_of bl_tup (no_b rfl)) hg hm ha (by decide) (by decide) he hpl

end
end QD

/-! QD5c: more built-ins. -/
namespace QD
open PySem PySem.Spec PyProof.Rows L2
section
variable {X : Cx} {L : Pl} {G : Gd} {cf : Nat → List D → Store → Res D}

/-- what an own method of one argument is, at its class -/
structure OneAt (X : Cx) (L : Pl) (cf : Nat → List D → Store → Res D) (f : Nat) (fa : Addr) (fd : FuncData) (ps : List Str) (j : Nat) : Prop where
  F : FnAt X L cf f 1 fa fd ps j
  b : Binds X.K fd ps []
theorem one_of (E : EnvOk X L G cf) {c f : Nat} {m : Str} {S S1 : Store} {i : Nat} {v : D} (ef : (G.ops c).lookup m = some f) (e1 : cf f [.ref i] S = .ok v S1) : OwnOk X L c ∧ Cls X.K (L.cla c) ∧ ∃ fa fd ps j, PySem.W.findIn X.K (.ref (L.cla c)) m = some (some (.ref fa)) ∧ PySem.W.isFn X.K (.ref fa) = true ∧ OneAt X L cf f fa fd ps j := by
  obtain ⟨O, cl, fa, fd, ps, j, kk, hf1, hf2, F, hbn, hl⟩ := (E.cls c).op m f ef
  have hk : kk = 1 := (F.ar [.ref i] S (by rw [e1]; exact fun z => nomatch z)).symm
  subst hk
  exact ⟨O, cl, fa, fd, ps, j, hf1, hf2, ⟨F, hbn⟩⟩
theorem strBack {P : Value → Shared → Prop} {z : Str} {v : Value} {s' : Shared} (r : RelV (.str z) v) (h : P v s') : PySem.W.StrBack P v s' := by
  obtain ⟨t, rfl⟩ := r
  exact h
/-- own str, repr: what is told is a text -/
theorem own_text {b : Bl} {m : Str} {c i : Nat} {S S' : Store} {d : D} (e : insOf S (.ref i) = some c) (hb : ∀ l, insOf S (.ref i) = some c → evBlO G cf b [.ref i] S = l → l = (match (G.ops c).lookup m with
        | some f => (cf f [.ref i] S).bind fun v S1 => (match v with | .str z => .ok (.str z) S1 | _ => .stuck)
        | none => .stuck)) (h : evBlO G cf b [.ref i] S = .ok d S') : ∃ f z, (G.ops c).lookup m = some f ∧ d = .str z ∧ cf f [.ref i] S = .ok (.str z) S' := by
  have h := (hb _ e rfl).symm.trans h
  split at h
  · rename_i f ef
    obtain ⟨v, S1, e1, e2⟩ := Res.bind_ok h
    split at e2
    · rename_i z
      cases e2
      exact ⟨f, z, ef, rfl, e1⟩
    · cases e2
  · cases h
theorem bl_strO (E : EnvOk X L G cf) : BlOk X L G cf (.type "str") .str1 := by
  intro ρ S H ds vs d S' Q r0 p h k pins s σ us I rv
  rcases blo_cases h with ⟨x, c, rfl, e⟩ | h1
  · obtain ⟨i, fs, rfl, ei⟩ := ins_of e
    obtain ⟨f, z, ef, rfl, e1⟩ := own_text (m := "__str__") e (fun l e h => by subst h; unfold evBlO; dsimp only; rw [e] <;> rfl) h
    obtain ⟨v0, rfl, px⟩ := rp1 p
    obtain ⟨hi, rfl⟩ := (show i < S.n ∧ v0 = .ref (ρ i) from px)
    obtain ⟨u, rfl, ru⟩ := rv.one
    cases (show u = Value.ref (ρ i) from ru)
    obtain ⟨O, cl, fa, fd, ps, j, hf1, hf2, F⟩ := one_of E ef e1
    obtain ⟨ox, od, J⟩ := own_at r0 ei I
    have hu := E.hu
    refine PySem.W.kso_call (by simp only [Around.in1_units] at hu ⊢; omega) I.kIn J hf1 hf2 (wpAny_mono (run_in (us := [.ref (ρ i)]) (vs := [.ref (ρ i)]) F.F.ok ((F.F.room.in1.mono (by omega : j + 1 ≤ _)).in1.mono (by omega)) I.env0.in1.in1 F.b I (.cons rfl .nil) (own_one (Q := fun v H' => v = .str z ∧ Q v H') r0 hi e1 fun ρ' H' v n' q => ?_) noE) (fun w s' y => ?_) fun _ _ y => y)
    · cases (show v = .str z from q)
      exact ⟨rfl, k ρ' H' _ n' rfl⟩
    · obtain ⟨v, H', I', rz, rfl, q⟩ := y
      exact strBack rz ⟨.str z, H', I', rz, q⟩
  · cases ds with
    | nil => cases h1
    | cons x t =>
      cases t with
      | cons _ _ => cases x <;> cases h1
      | nil =>
        obtain ⟨v, rfl, px⟩ := rp1 p
        cases x with
        | int i =>
          cases (show v = .int i from px)
          have h2 : (if i.natAbs.log2 < 1920 then Res.ok (.str (toString i)) S else .stuck) = Res.ok d S' := h1
          split at h2
          · cases h2
            exact call_str_int pins s σ H _ us Q I rv ⟨i, rfl, by assumption, k ρ H _ (Nx.refl r0) rfl⟩
          · cases h2
        | str z =>
          cases (show v = .str z from px)
          cases h1
          exact SkE.call_str_str pins s σ H _ us Q I rv ⟨z, rfl, k ρ H _ (Nx.refl r0) rfl⟩
        | _ => cases h1
theorem bl_reprO (E : EnvOk X L G cf) : BlOk X L G cf (.builtin "repr") .repr1 := by
  intro ρ S H ds vs d S' Q r0 p h k pins s σ us I rv
  rcases blo_cases h with ⟨x, c, rfl, e⟩ | h1
  · obtain ⟨i, fs, rfl, ei⟩ := ins_of e
    obtain ⟨f, z, ef, rfl, e1⟩ := own_text (m := "__repr__") e (fun l e h => by subst h; unfold evBlO; dsimp only; rw [e] <;> rfl) h
    obtain ⟨v0, rfl, px⟩ := rp1 p
    obtain ⟨hi, rfl⟩ := (show i < S.n ∧ v0 = .ref (ρ i) from px)
    obtain ⟨u, rfl, ru⟩ := rv.one
    cases (show u = Value.ref (ρ i) from ru)
    obtain ⟨O, cl, fa, fd, ps, j, hf1, hf2, F⟩ := one_of E ef e1
    obtain ⟨ox, od, J⟩ := own_at r0 ei I
    obtain ⟨m, hF⟩ := I.fr
    have hu := E.hu
    refine PySem.W.repr_K (by simp only [Around.in1_units] at hu ⊢; omega) hF I.ok.mod.kin J hf1 hf2 (wpAny_mono (run_in (us := [.ref (ρ i)]) (vs := [.ref (ρ i)]) F.F.ok (F.F.room.in1.mono (by omega)) I.env0.in1 F.b I (.cons rfl .nil) (own_one (Q := fun v H' => v = .str z ∧ Q v H') r0 hi e1 fun ρ' H' v n' q => ?_) noE) (fun w s' y => ?_) fun _ _ y => y)
    · cases (show v = .str z from q)
      exact ⟨rfl, k ρ' H' _ n' rfl⟩
    · obtain ⟨v, H', I', rz, rfl, q⟩ := y
      exact strBack rz ⟨.str z, H', I', rz, q⟩
  · cases ds with
    | nil => cases h1
    | cons x t => cases t <;> cases x <;> cases h1
theorem bl_boolO (E : EnvOk X L G cf) : BlOk X L G cf (.type "bool") .bool1 := by
  intro ρ S H ds vs d S' Q r0 p h k pins s σ us I rv
  rcases blo_cases h with ⟨x, c, rfl, e⟩ | h1
  · obtain ⟨i, fs, rfl, ei⟩ := ins_of e
    unfold evBlO at h
    dsimp only at h
    rw [e] at h
    dsimp only at h
    split at h
    · rename_i f ef
      obtain ⟨v, S1, e1, e2⟩ := Res.bind_ok h
      split at e2
      · rename_i n
        split at e2
        · rename_i hn
          cases e2
          obtain ⟨v0, rfl, px⟩ := rp1 p
          obtain ⟨hi, rfl⟩ := (show i < S.n ∧ v0 = .ref (ρ i) from px)
          obtain ⟨u, rfl, ru⟩ := rv.one
          cases (show u = Value.ref (ρ i) from ru)
          obtain ⟨O, cl, fa, fd, ps, j, hf1, hf2, F⟩ := one_of E ef e1
          obtain ⟨ox, od, J⟩ := own_at r0 ei I
          refine Own.bool_call (Own.truthy_len I.kIn J O.bool hf1 hf2 (wpAny_mono (run_in (us := [.ref (ρ i)]) (vs := [.ref (ρ i)]) F.F.ok ((F.F.room.in1).in1.in1) I.env0.in1.in1.in1 F.b I (.cons rfl .nil) (own_one (Q := fun v H' => v = .int n ∧ Q (.bl (n != 0)) H') r0 hi e1 fun ρ' H' v n' q => ?_) noE) (fun w s' y => ?_) fun _ _ y => y))
          · cases (show v = .int n from q)
            exact ⟨rfl, k ρ' H' _ n' rfl⟩
          · obtain ⟨v, H', I', rz, rfl, q⟩ := y
            obtain ⟨t, rfl⟩ := rz
            exact ⟨⟨hn.1, by omega⟩, n, _, rfl, .bl (n != 0), H', I'.tok _, rfl, q⟩
        · cases e2
      · cases e2
    · cases h
  · cases ds with
    | nil => cases h1
    | cons x t =>
      cases t with
      | cons _ _ => cases x <;> cases h1
      | nil =>
        obtain ⟨v, rfl, px⟩ := rp1 p
        cases x with
        | int i =>
          cases (show v = .int i from px)
          cases h1
          exact call_bool1 pins s σ H _ us Q I rv (.inl ⟨i, rfl, k ρ H _ (Nx.refl r0) rfl⟩)
        | bl z =>
          cases (show v = .bl z from px)
          cases h1
          exact call_bool1 pins s σ H _ us Q I rv (.inr ⟨z, rfl, k ρ H _ (Nx.refl r0) rfl⟩)
        | _ => cases h1

theorem si_str1 {e : Expr} {p pos : Pos} {cs : Cs} (E : EnvOk X L G cf) (hg : Gl X "str") (hm : X.mg "str" = none) (ha : SimA X L G cf [e] cs) (he : starEach [e] X.env = (false, eval e X.env) :: starEach [] X.env := by rfl) (hpl : (backTo pos (starEach [] X.env)).any (·.1) = false := by rfl) : Sim X L G cf (.Call (.Name "str" p) [e] [] pos) (.blt .str1 cs) :=
  si_blt (.inr ⟨_, rfl, by rfl⟩) (bl_strO E) hg hm ha (by decide) (by decide) he hpl

theorem si_repr1 {e : Expr} {p pos : Pos} {cs : Cs} (E : EnvOk X L G cf) (hg : Gl X "repr") (hm : X.mg "repr" = none) (ha : SimA X L G cf [e] cs) (he : starEach [e] X.env = (false, eval e X.env) :: starEach [] X.env := by rfl) (hpl : (backTo pos (starEach [] X.env)).any (·.1) = false := by rfl) : Sim X L G cf (.Call (.Name "repr" p) [e] [] pos) (.blt .repr1 cs) :=
  si_blt (.inl ⟨_, rfl, by rfl⟩) (bl_reprO E) hg hm ha (by decide) (by decide) he hpl

theorem si_bool1 {e : Expr} {p pos : Pos} {cs : Cs} (E : EnvOk X L G cf) (hg : Gl X "bool") (hm : X.mg "bool" = none) (ha : SimA X L G cf [e] cs) (he : starEach [e] X.env = (false, eval e X.env) :: starEach [] X.env := by rfl) (hpl : (backTo pos (starEach [] X.env)).any (·.1) = false := by rfl) : Sim X L G cf (.Call (.Name "bool" p) [e] [] pos) (.blt .bool1 cs) :=
  si_blt (.inr ⟨_, rfl, by rfl⟩) (bl_boolO E) hg hm ha (by decide) (by decide) he hpl

theorem bl_max2 : ∀ (ρ : Nat → Addr) (S : Store) (H : Hp) (ds : List D) (vs : List V) (d : D) (S' : Store) (Q : VK), Rel X.K L H ρ S → RpL X.K L H ρ S.n ds vs → evBl G S .max2 ds = .ok d S' → kV X.K L S H ρ Q d S' →
    ∃ i j, vs = [.int i, .int j] ∧ Q (.int (if j > i then j else i)) H := by
  intro ρ S H ds vs d S' Q r p h k
  cases ds with
  | nil => cases h
  | cons x t =>
    cases t with
    | nil => cases x <;> cases h
    | cons y t =>
      cases t with
      | cons _ _ => cases x <;> cases y <;> cases h
      | nil =>
        obtain ⟨v, w1, rfl, px, w2⟩ := p
        obtain ⟨v2, w3, rfl, py, w4⟩ := w2
        cases (show w3 = [] from w4)
        cases x <;> first | (cases h; done) | skip
        rename_i i
        cases y <;> first | (cases h; done) | skip
        rename_i j
        cases (show v = .int i from px)
        cases (show v2 = .int j from py)
        cases h
        exact ⟨i, j, rfl, k ρ H _ (Nx.refl r) rfl⟩
theorem si_max2 {e e2 : Expr} {p pos : Pos} {cs : Cs} (hc : X.calm = true) (hg : Gl X "max") (hm : X.mg "max" = none) (ha : SimA X L G cf [e, e2] cs) (he : starEach [e, e2] X.env = (false, eval e X.env) :: starEach [e2] X.env := by rfl) (hpl : (backTo pos (starEach [e2] X.env)).any (·.1) = false := by rfl) : Sim X L G cf (.Call (.Name "max" p) [e, e2] [] pos) (.blt .max2 cs) :=
  si_blt (.inl ⟨_, rfl, by rfl⟩) (bl_of (call_max2 hc) bl_max2 (no_b rfl)) hg hm ha (by decide) (by decide) he hpl

theorem bl_min2 : ∀ (ρ : Nat → Addr) (S : Store) (H : Hp) (ds : List D) (vs : List V) (d : D) (S' : Store) (Q : VK), Rel X.K L H ρ S → RpL X.K L H ρ S.n ds vs → evBl G S .min2 ds = .ok d S' → kV X.K L S H ρ Q d S' →
    ∃ i j, vs = [.int i, .int j] ∧ Q (.int (if j < i then j else i)) H := by
  intro ρ S H ds vs d S' Q r p h k
  cases ds with
  | nil => cases h
  | cons x t =>
    cases t with
    | nil => cases x <;> cases h
    | cons y t =>
      cases t with
      | cons _ _ => cases x <;> cases y <;> cases h
      | nil =>
        obtain ⟨v, w1, rfl, px, w2⟩ := p
        obtain ⟨v2, w3, rfl, py, w4⟩ := w2
        cases (show w3 = [] from w4)
        cases x <;> first | (cases h; done) | skip
        rename_i i
        cases y <;> first | (cases h; done) | skip
        rename_i j
        cases (show v = .int i from px)
        cases (show v2 = .int j from py)
        cases h
        exact ⟨i, j, rfl, k ρ H _ (Nx.refl r) rfl⟩
theorem si_min2 {e e2 : Expr} {p pos : Pos} {cs : Cs} (hc : X.calm = true) (hg : Gl X "min") (hm : X.mg "min" = none) (ha : SimA X L G cf [e, e2] cs) (he : starEach [e, e2] X.env = (false, eval e X.env) :: starEach [e2] X.env := by rfl) (hpl : (backTo pos (starEach [e2] X.env)).any (·.1) = false := by rfl) : Sim X L G cf (.Call (.Name "min" p) [e, e2] [] pos) (.blt .min2 cs) :=
  si_blt (.inl ⟨_, rfl, by rfl⟩) (bl_of (call_min2 hc) bl_min2 (no_b rfl)) hg hm ha (by decide) (by decide) he hpl

/-! ### isinstance -/
def tyV' (L : Pl) : Ty → Value
  | .bt b => btV b
  | .own c => .ref (L.cla c)
theorem ty_of {ρ : Nat → Addr} {S : Store} {H : Hp} {d : D} {v : V} {t : Ty} (E : EnvOk X L G cf) (r : Rel X.K L H ρ S) (p : Rp X.K L H ρ S.n d v) (h : QD.tyD G S d = some t) : TyX X.K H v (tyV' L t) := by
  cases d with
  | non => cases h; cases (show v = .non from p); exact .base .non
  | bl b => cases h; cases (show v = .bl b from p); exact .base (.bl b)
  | int i => cases h; cases (show v = .int i from p); exact .base (.int i)
  | str z => cases h; cases (show v = .str z from p); exact .base (.str z)
  | tup l =>
    cases h
    obtain ⟨a, us, rfl, s, q⟩ := (show ∃ a vs, v = .ref a ∧ SqT X.K H a vs ∧ RpL X.K L H ρ S.n l vs from p)
    rcases s with (s | ⟨o, s⟩) | ⟨o, its, n, lk, hc, _⟩
    · exact .base (.tup s)
    · exact .fTuple s
    · exact .kTuple lk hc
  | kd i =>
    have h1 : (if (G.kdt i).isSome = true then some (Ty.bt .dict) else none) = some t := h
    split at h1
    · rename_i e
      cases h1
      cases (show v = .ref (L.kda i) from p)
      obtain ⟨tb, ht⟩ := Option.isSome_iff_exists.mp e
      obtain ⟨⟨es, n, kd, _⟩, _⟩ := E.kd i tb ht
      exact .kDict kd.at_ rfl
    · cases h1
  | ref i =>
    obtain ⟨_, rfl⟩ := (show i < S.n ∧ v = .ref (ρ i) from p)
    have h1 : (match S.get i with
      | some (.lst _ _) => some (Ty.bt .list)
      | some (.ins c _) => if G.isc c then some (.own c) else none
      | some (.dct _) => some (Ty.bt .dict)
      | _ => none) = some t := h
    split at h1
    · rename_i w l e
      cases h1
      have x := r.cell i _ e
      cases w with
      | true => obtain ⟨us, s, _⟩ := x; exact .base (.lst s)
      | false =>
        obtain ⟨us, s, _⟩ := x
        rcases s with ⟨o, s⟩ | ⟨o, its, n, lk, hc, _⟩
        · exact .base (.frz s)
        · exact .kList lk hc
    · rename_i c fs e
      split at h1
      · rename_i hc
        cases h1
        obtain ⟨dx, us, s, _⟩ := r.cell i _ e
        have q := E.isi c hc
        exact .base (.ins s q.cls q.ha q.hn q.htk q.hm)
      · cases h1
    · rename_i l e
      cases h1
      obtain ⟨o, us, s, _⟩ := r.cell i _ e
      exact .fDict s
    · cases h1
theorem kit_bt : ∀ (K : PySem.W.Frag) (b : Bt) (t : Tk), (∀ c, t ≠ .cls c) → PySem.W.kitOne K (btV b) (tkV L t) = some (btIs b t) := fun K b t h => by
  cases t with
  | cls c => exact absurd rfl (h c)
  | int => cases b <;> exact kit_ty (by decide +kernel)
  | bool => cases b <;> exact kit_ty (by decide +kernel)
  | str => cases b <;> exact kit_ty (by decide +kernel)
  | list => cases b <;> exact kit_ty (by decide +kernel)
  | tuple => cases b <;> exact kit_ty (by decide +kernel)
  | dict => cases b <;> exact kit_ty (by decide +kernel)
theorem kit_one {S : Store} {d : D} {t : Ty} {k : Tk} {b : Bool} (E : EnvOk X L G cf) (ht : QD.tyD G S d = some t) (h : isTk G S d k = some b) (hown : ∀ c, t = .own c → G.isc c = true) : PySem.W.kitOne X.K (tyV' L t) (tkV L k) = some b := by
  have nc : ∀ {k : Tk}, (∀ c, k ≠ .cls c) → isTk G S d k = some b → PySem.W.kitOne X.K (tyV' L t) (tkV L k) = some b := fun {k} hk h => by
    have h1 : (match QD.tyD G S d with | some (.own _) => some false | some (.bt n) => some (btIs n k) | none => none) = some b := by
      cases k with
      | cls c => exact absurd rfl (hk c)
      | _ => exact h
    rw [ht] at h1
    cases t with
    | bt n => cases h1; exact kit_bt X.K n k hk
    | own c => cases h1; exact E.kob c k (hown c rfl) hk
  cases k with
  | cls c =>
    have h1 : (if G.isc c = true then (match QD.tyD G S d with | some (.own c') => some (c == c') | some (.bt _) => some false | none => none) else none) = some b := h
    split at h1
    · rename_i hc
      rw [ht] at h1
      cases t with
      | bt n => cases h1; exact E.kbo c n hc
      | own c' => cases h1; exact E.koo c c' hc (hown c' rfl)
    · cases h1
  | int => exact nc (fun _ z => by cases z) h
  | bool => exact nc (fun _ z => by cases z) h
  | str => exact nc (fun _ z => by cases z) h
  | list => exact nc (fun _ z => by cases z) h
  | tuple => exact nc (fun _ z => by cases z) h
  | dict => exact nc (fun _ z => by cases z) h
theorem own_isc {S : Store} {d : D} {c : Nat} (h : QD.tyD G S d = some (.own c)) : G.isc c = true := by
  cases d with
  | ref i =>
    have h1 : (match S.get i with
      | some (.lst _ _) => some (Ty.bt .list)
      | some (.ins c _) => if G.isc c then some (.own c) else none
      | some (.dct _) => some (Ty.bt .dict)
      | _ => none) = some (.own c) := h
    split at h1
    · cases h1
    · split at h1
      · cases h1; assumption
      · cases h1
    · cases h1
    · cases h1
  | kd i =>
    have h1 : (if (G.kdt i).isSome = true then some (Ty.bt .dict) else none) = some (.own c) := h
    split at h1 <;> cases h1
  | _ => cases h
theorem isTk_ty {S : Store} {d : D} {k : Tk} {b : Bool} (h : isTk G S d k = some b) : ∃ t, QD.tyD G S d = some t := by
  cases e : QD.tyD G S d with
  | some t => exact ⟨t, rfl⟩
  | none =>
    have nc : ∀ {k : Tk}, (∀ c, k ≠ .cls c) → isTk G S d k = some b → False := fun {k} hk h => by
      have h1 : (match QD.tyD G S d with | some (.own _) => some false | some (.bt n) => some (btIs n k) | none => none) = some b := by
        cases k with
        | cls c => exact absurd rfl (hk c)
        | _ => exact h
      rw [e] at h1
      cases h1
    cases k with
    | cls c =>
      have h1 : (if G.isc c = true then (match QD.tyD G S d with | some (.own c') => some (c == c') | some (.bt _) => some false | none => none) else none) = some b := h
      rw [e] at h1
      split at h1 <;> cases h1
    | int => exact (nc (fun _ z => by cases z) h).elim
    | bool => exact (nc (fun _ z => by cases z) h).elim
    | str => exact (nc (fun _ z => by cases z) h).elim
    | list => exact (nc (fun _ z => by cases z) h).elim
    | tuple => exact (nc (fun _ z => by cases z) h).elim
    | dict => exact (nc (fun _ z => by cases z) h).elim
theorem kit_any {S : Store} {d : D} {t : Ty} (E : EnvOk X L G cf) (ht : QD.tyD G S d = some t) : ∀ {ks : List Tk} {b : Bool}, anyTk G S d ks = some b → PySem.W.kitAny X.K (tyV' L t) (ks.map (tkV L)) = some b
  | [], b, h => by cases h; rfl
  | k :: ks, b, h => by
    have h1 : (match isTk G S d k with | some true => some true | some false => anyTk G S d ks | none => none) = some b := h
    cases e : isTk G S d k with
    | none => rw [e] at h1; cases h1
    | some c =>
      have h2 := kit_one E ht e fun c hc => own_isc (hc ▸ ht)
      cases c with
      | true =>
        rw [e] at h1
        cases h1
        exact kitAny_cons h2 (fun z => nomatch z) fun _ => rfl
      | false =>
        rw [e] at h1
        exact kitAny_cons h2 (fun _ => kit_any E ht h1) fun z => nomatch z
/-- a class as written -/
theorem tk_cls (t : Tk) : ClsV (tkT L t) (tkV L t) := by
  cases t <;> first | exact .ty _ | exact .own _
structure TkName (X : Cx) (L : Pl) (e : Expr) (t : Tk) : Prop where
  pe : PE X e (tC (tkT L t))
theorem tk_name {x : Str} {pos : Pos} {T : String} {t : Tk} (hT : tkT L t = .ty T) (hg : Gl X x) (hm : X.mg x = none) (hv : bootBuiltins x = some (.type T)) (hn : x ≠ "__name__" := by decide) (hd : (x == ("__debug__" : Str)) = false := by decide) : TkName X L (.Name x pos) t :=
  ⟨by rw [hT]; exact pe_bltn hg hm hv (v := .ty T) rfl hn hd⟩
theorem tk_own {x : Str} {pos : Pos} {c : Nat} (hg : Gl X x) (hm : X.mg x = some (.ref (L.cla c))) (hd : (x == ("__debug__" : Str)) = false := by decide) : TkName X L (.Name x pos) (.cls c) :=
  ⟨pe_glob hg hm (v := .ref (L.cla c)) rfl hd⟩
theorem blo_isi {ts : List Tk} {x : D} {S : Store} : evBlO G cf (.isi ts) [x] S = (evBl G S (.isi ts) [x]).nox := by
  unfold evBlO
  dsimp only
  split <;> rfl
theorem isi_good {c : C} {ts : List Tk} {σd : Sl} {S : Store} {k : D → Store → Prop} {xx : Nat → Nat → Store → Prop} (h : (evC cf G (.blt (.isi ts) (.cons c .nil)) σd S).Good k xx) : (evC cf G c σd S).Good (fun x S1 => ∃ b, anyTk G S1 x ts = some b ∧ k (.bl b) S1) xx := by
  have h := Res.good_bind (r := evCs cf G (.cons c .nil) σd S) h
  have h := Res.good_bind (r := evC cf G c σd S) h
  refine h.imp (fun x S1 g => ?_) fun _ _ _ k => k
  have g := Res.good_nox (show (evBlO G cf (.isi ts) [x] S1).nox.Good k xx from g)
  rw [blo_isi] at g
  obtain ⟨d, e, q⟩ := Res.good_of (Res.good_nox g)
  obtain ⟨b, e2, rfl⟩ := Option.map_eq_some_iff.mp e
  exact ⟨b, e2, q⟩
theorem si_isi {e k : Expr} {p pos : Pos} {c : C} {t : Tk} (E : EnvOk X L G cf) (hg : Gl X "isinstance") (hm : X.mg "isinstance" = none) (ha : Sim X L G cf e c) (hk : TkName X L k t)
    (he : starEach [e, k] X.env = (false, eval e X.env) :: starEach [k] X.env := by rfl) (he2 : starEach [k] X.env = (false, eval k X.env) :: starEach [] X.env := by rfl) (hpl : (backTo pos (starEach [k] X.env)).any (·.1) = false := by rfl) :
    Sim X L G cf (.Call (.Name "isinstance" p) [e, k] [] pos) (.blt (.isi [t]) (.cons c .nil)) := by
  refine ⟨fun W tk ρ σd σ S H Q r rs h => ?_⟩
  refine ofE (pe_callB call_isi hg hm (by rfl) (pa_cons (pE e) (pa_cons hk.pe pa_nil he2) he) (by decide) (by decide) he hpl) (ha.run W tk ρ σd σ S H _ r rs ((isi_good h).imp (fun x S1 ⟨b, h5, kk⟩ ρ' H' v n q => ?_) fun _ _ _ k => k))
  have h6 : (match isTk G S1 x t with | some true => some true | some false => some false | none => none) = some b := h5
  cases e3 : isTk G S1 x t with
  | none => rw [e3] at h6; cases h6
  | some b' =>
    obtain ⟨ty, hty⟩ := isTk_ty e3
    have e4 : b' = b := by rw [e3] at h6; cases b' <;> cases h6 <;> rfl
    subst e4
    exact ⟨v, tkT L t, tyV' L ty, tkV L t, b', rfl, tk_cls t, ty_of E n.r q hty, kit_one E hty e3 fun c hc => own_isc (hc ▸ hty), kk ρ' H' _ n rfl⟩
theorem tk_all : ∀ ts : List Tk, Paired ClsV (ts.map (tkT L)) (ts.map (tkV L))
  | [] => .nil
  | t :: ts => .cons (tk_cls t) (tk_all ts)
/-- isinstance(e, (A, B)) -/
theorem si_isi2 {e k1 k2 : Expr} {x1 : Nat} {p pos tpos : Pos} {c : C} {t1 t2 : Tk} (E : EnvOk X L G cf) (hg : Gl X "isinstance") (hm : X.mg "isinstance" = none) (ha : Sim X L G cf e c) (hk1 : TkName X L k1 t1) (hk2 : TkName X L k2 t2)
    (he : starEach [e, .Tuple [k1, k2] x1 tpos] X.env = (false, eval e X.env) :: starEach [.Tuple [k1, k2] x1 tpos] X.env := by rfl) (he2 : starEach [.Tuple [k1, k2] x1 tpos] X.env = (false, eval (.Tuple [k1, k2] x1 tpos) X.env) :: starEach [] X.env := by rfl)
    (he3 : starEach [k1, k2] X.env = (false, eval k1 X.env) :: starEach [k2] X.env := by rfl) (he4 : starEach [k2] X.env = (false, eval k2 X.env) :: starEach [] X.env := by rfl) (hpl : (backTo pos (starEach [.Tuple [k1, k2] x1 tpos] X.env)).any (·.1) = false := by rfl) :
    Sim X L G cf (.Call (.Name "isinstance" p) [e, .Tuple [k1, k2] x1 tpos] [] pos) (.blt (.isi [t1, t2]) (.cons c .nil)) := by
  refine ⟨fun W tk ρ σd σ S H Q r rs h => ?_⟩
  refine ofE (pe_callB call_isiT hg hm (by rfl) (pa_cons (pE e) (pa_cons (pe_tup (pa_cons hk1.pe (pa_cons hk2.pe pa_nil he4) he3)) pa_nil he2) he) (by decide) (by decide) he hpl) (ha.run W tk ρ σd σ S H _ r rs ((isi_good h).imp (fun x S1 ⟨b, h5, kk⟩ ρ' H' v n q => ?_) fun _ _ _ k => k))
  refine ⟨by show 2 ≤ sizeLine; decide, fun a ha => ?_⟩
  have h6 : (match isTk G S1 x t1 with | some true => some true | some false => anyTk G S1 x [t2] | none => none) = some b := h5
  have hh : ∃ b', isTk G S1 x t1 = some b' := by
    cases e3 : isTk G S1 x t1 with
    | none => rw [e3] at h6; cases h6
    | some b' => exact ⟨b', rfl⟩
  obtain ⟨b', e3⟩ := hh
  obtain ⟨ty, hty⟩ := isTk_ty e3
  have n2 := n.r.new (o := .tup [tkT L t1, tkT L t2]) ha
  exact ⟨v, a, [tkT L t1, tkT L t2], tyV' L ty, [tkV L t1, tkV L t2], b, rfl, upd_same, tk_all [t1, t2], ty_of E n2.r (n2.rp q) hty, kit_any E hty h5, kk ρ' _ _ (n.trans n2) rfl⟩
end
end QD

/-! QD6: own operators. -/
namespace QD
open PySem PySem.Spec PyProof.Rows L2
theorem opS_eq (o : Op) : (PySem.dunder (opL o).info.2 : Str) = opS o := by cases o <;> rfl
theorem opR_eq (o : Op) : (dunderR (opL o).info.2 : Str) = opR o := by cases o <;> rfl
theorem bt_has (o : Op) (b : Bt) (K : PySem.W.Frag) : (∃ fo, PySem.W.findIn K (btV b) (PySem.dunder (opL o).info.2) = some fo) ∧ ∃ ro, PySem.W.findIn K (btV b) (dunderR (opL o).info.2) = some ro := by
  have h1 : (fastLookup (btN b) (PySem.dunder (opL o).info.2)).isSome = true := by cases o <;> cases b <;> decide +kernel
  have h2 : (fastLookup (btN b) (dunderR (opL o).info.2)).isSome = true := by cases o <;> cases b <;> decide +kernel
  exact ⟨Option.isSome_iff_exists.mp h1, Option.isSome_iff_exists.mp h2⟩
theorem str_no (o : Op) (K : PySem.W.Frag) (h : strNo o = true) : PySem.W.findIn K (.type "str") (PySem.dunder (opL o).info.2) = some none ∧ PySem.W.findIn K (.type "str") (dunderR (opL o).info.2) = some none := by
  have h1 : fastLookup "str" (PySem.dunder (opL o).info.2) = some none := by cases o <;> first | (cases h; done) | kernel_rfl
  have h2 : fastLookup "str" (dunderR (opL o).info.2) = some none := by cases o <;> first | (cases h; done) | kernel_rfl
  exact ⟨h1, h2⟩
theorem obj_no (o : Op) (K : PySem.W.Frag) : PySem.W.findIn K (.type "object") (dunderI (opL o).info.2) = some none := by
  have h1 : fastLookup "object" (dunderI (opL o).info.2) = some none := by cases o <;> kernel_rfl
  exact h1
namespace Own
open PySem.W PySem.Calls
section
variable {prog : Program} {w : World} {A : Around} {E : Value → Shared → Prop} {s : Shared} {K : Frag} {x C f : Addr} {ox : Obj} {od : Option Obj} {nm : String} {b tb : Value} {P : Value → Shared → Prop} {cd : ClassData} {rest : List Value} {rc : Option Value}
/-- the type of the right one: the same class, or a built-in one -/
def Right (K : Frag) (C : Addr) (nm : String) (tb : Value) : Prop := tb = .ref C ∨ ∃ T fo ro, tb = .type T ∧ findIn K (.type T) (PySem.dunder nm) = some fo ∧ findIn K (.type T) (dunderR nm) = some ro ∧ subIn K (.type T) (.ref C) = some false
abbrev Som (P : Value → Shared → Prop) : Option Value → Shared → Prop := fun r s' => ∃ v, r = some v ∧ P v s'
theorem bin1 (X : K.In s.heap) (I : InstAt s.heap x ox C od) (hc : clsIn K C = some cd) (hm : cd.mro = .ref C :: rest) (hs : findIn K (.ref C) (PySem.dunder nm) = some (some (.ref f))) (hr : findIn K (.ref C) (dunderR nm) = some rc) (hp : rc = none ∨ ∃ g : Addr, rc = some (.ref g))
    (hb : Looks (model prog w) s.heap (typeOf b) tb) (hk : Right K C nm tb) (one : wpAny (model prog w) A (tryMethod (.ref x) (PySem.dunder nm) b) (Som P) E s) : wpAny (model prog w) A (binaryOp1 nm (.ref x) b) (Som P) E s := by
  obtain ⟨hh, g, d, tt, os⟩ := s
  have L1 : Looks (model prog w) hh (typeOf (.ref x)) (.ref C) := I.type
  have L2 : Looks (model prog w) hh (typeOf b) tb := hb
  have L3 : Looks (model prog w) hh (fillsNumberSlot (.ref C) nm) true := fills_K X hc hm hs
  have L6 : Looks (model prog w) hh (numberSlotInPython (.ref C) nm) true := ksp_inPy X hs hr hp
  unfold binaryOp1
  refine wpAny_bind (L1.at (wpAny_bind (L2.at (wpAny_bind (L3.at ?_)))))
  rcases hk with rfl | ⟨T, fo, ro, rfl, h1, h2, h3⟩
  · simp only [beq_self_eq_true, if_true]
    ksp_lk
    refine wpAny_mono one (fun r s' z => ?_) fun _ _ e => e
    obtain ⟨v, rfl, hq⟩ := z
    exact wpAny_pure ⟨v, rfl, hq⟩
  · have L4 : Looks (model prog w) hh (fillsNumberSlot (.type T) nm) ((fo.isSome && !isSeqSlot fo) || (ro.isSome && !isSeqSlot ro)) := ksp_fillsT X h1 h2
    have L5 : Looks (model prog w) hh (isSubtype (.type T) (.ref C)) false := looks_subIn X h3
    have L7 : Looks (model prog w) hh (numberSlotInPython (.type T) nm) false := Looks.of_pure rfl
    have L8 : Looks (model prog w) hh (typeLookup (.type T) (dunderR nm)) ro := looks_findIn X h2
    generalize ((fo.isSome && !isSeqSlot fo) || (ro.isSome && !isSeqSlot ro)) = right at L4
    have hne : (Value.ref C == Value.type T) = false := rfl
    simp only [hne, Bool.false_eq_true, if_false]
    cases right <;>
    · ksp_lk
      refine wpAny_mono one (fun r s' z => ?_) fun _ _ e => e
      obtain ⟨v, rfl, hq⟩ := z
      ksp_lk
      exact ⟨v, rfl, hq⟩
end
section
variable {prog : Program} {w : World} {A : Around} {E : Value → Shared → Prop} {s : Shared} {K : Frag} {x C f f0 : Addr} {ox : Obj} {od : Option Obj} {op : Operator} {b tb : Value} {P : Value → Shared → Prop} {cd : ClassData} {rest : List Value} {rc : Option Value} {z : Str} {t : Tok}
theorem binOp (h : wpAny (model prog w) A (binaryOp1 op.info.2 (.ref x) b) (Som P) E s) : wpAny (model prog w) A (binaryOp op (.ref x) b) P E s := by
  unfold binaryOp
  refine wpAny_holding (wpAny_bind (wpAny_mono h (fun r s' y => ?_) fun _ _ e => e))
  obtain ⟨v, rfl, hq⟩ := y
  exact wpAny_pure hq
theorem tryOne {name : Str} (X : K.In s.heap) (I : InstAt s.heap x ox C od) (hs : findIn K (.ref C) name = some (some (.ref f))) (hf : isFn K (.ref f) = true) (h : wpAny (model prog w) A (call (.ref f) [.ref x, b]) (PySem.W.CmpBack P) E s) : wpAny (model prog w) A (tryMethod (.ref x) name b) (Som P) E s := ksp_try X I hs hf h
/-- a text on the left, no way of its own -/
theorem binR (X : K.In s.heap) (I : InstAt s.heap x ox C od) (hc : clsIn K C = some cd) (hm : cd.mro = .ref C :: rest) (hs : findIn K (.ref C) (PySem.dunder op.info.2) = some (some (.ref f0))) (hr : findIn K (.ref C) (dunderR op.info.2) = some (some (.ref f))) (hf : isFn K (.ref f) = true)
    (h1 : findIn K (.type "str") (PySem.dunder op.info.2) = some none) (h2 : findIn K (.type "str") (dunderR op.info.2) = some none) (h : wpAny (model prog w) A (call (.ref f) [.ref x, .str z t]) (PySem.W.CmpBack P) E s) : wpAny (model prog w) A (binaryOp op (.str z t) (.ref x)) P E s := by
  have one := tryOne X I hr hf h
  rcases hi : op.info with ⟨sym, nm⟩
  rw [hi] at hs hr h1 h2 one
  dsimp only at hs hr h1 h2 one
  obtain ⟨hh, g, d, tt, os⟩ := s
  have L1 : Looks (model prog w) hh (typeOf (.str z t)) (.type "str") := Looks.of_pure rfl
  have L2 : Looks (model prog w) hh (typeOf (.ref x)) (.ref C) := I.type
  have L3 : Looks (model prog w) hh (fillsNumberSlot (.type "str") nm) false := ksp_fillsT X h1 h2
  have L4 : Looks (model prog w) hh (fillsNumberSlot (.ref C) nm) true := fills_K X hc hm hs
  have hne : (Value.type "str" == Value.ref C) = false := rfl
  simp only [binaryOp, hi]
  refine wpAny_holding (wpAny_bind ?_)
  unfold binaryOp1
  refine wpAny_bind (L1.at (wpAny_bind (L2.at (wpAny_bind (L3.at ?_)))))
  simp only [hne, Bool.false_eq_true, if_false]
  ksp_lk
  refine wpAny_mono one (fun r s' y => ?_) fun _ _ e => e
  obtain ⟨v, rfl, hq⟩ := y
  ksp_lk
  exact hq
/-- a op= b without an own way: as a op b -/
theorem augOp (X : K.In s.heap) (I : InstAt s.heap x ox C od) (hc : clsIn K C = some cd) (hm : cd.mro = [.ref C, .type "object"]) (hi : findIn K (.ref C) (dunderI op.info.2) = some none) (ho : findIn K (.type "object") (dunderI op.info.2) = some none)
    (h : wpAny (model prog w) A (binaryOp1 op.info.2 (.ref x) b) (Som P) E s) : wpAny (model prog w) A (inplaceOp op (.ref x) b) P E s := by
  obtain ⟨hh, g, d, tt, os⟩ := s
  have L1 : Looks (model prog w) hh (typeOf (.ref x)) (.ref C) := I.type
  have L2 : Looks (model prog w) hh (fillsInplaceSlot (.ref C) op.info.2 (op == .Add)) false := by
    intro A Q E s k q
    have Lm' := ((looks_clsIn (M := model prog w) X hc).andThen (f := fun cd => pure cd.mro) .now).keeps k
    obtain ⟨h2, g2, d2, t2, o2⟩ := s
    have X' : K.In h2 := X.keeps k
    have M1 : Looks (model prog w) h2 (typeLookup (.ref C) (dunderI op.info.2)) none := looks_findIn X' hi
    have M2 : Looks (model prog w) h2 (typeLookup (.type "object") (dunderI op.info.2)) none := looks_findIn X' ho
    unfold fillsInplaceSlot
    refine wpAny_bind (Lm'.at ?_)
    rw [hm, List.anyM_cons]
    refine wpAny_bind (wpAny_bind (M1.at (wpAny_pure ?_)))
    rw [if_neg Bool.false_ne_true, List.anyM_cons]
    refine wpAny_bind (wpAny_bind (M2.at (wpAny_pure ?_)))
    rw [if_neg Bool.false_ne_true]
    exact wpAny_pure q
  unfold inplaceOp
  refine wpAny_holding (wpAny_bind (L1.at (wpAny_bind (L2.at ?_))))
  simp only [Bool.false_eq_true, if_false]
  refine wpAny_bind (wpAny_mono h (fun r s' y => ?_) fun _ _ e => e)
  obtain ⟨v, rfl, hq⟩ := y
  exact wpAny_pure hq
/-- != by the own == -/
theorem neOwn (hu : A.units + 4 < cLine) (X : K.In s.heap) (I : InstAt s.heap x ox C od) (hm : mroIn K C (.type "object") = some true) (hb : Looks (model prog w) s.heap (typeOf b) tb) (hn : notFirst K C tb = true)
    (hne : findIn K (.ref C) "__ne__" = some (some (.builtin "object.__ne__"))) (he : findIn K (.ref C) "__eq__" = some (some (.ref f))) (hf : isFn K (.ref f) = true)
    (h : wpAny (model prog w) A.in1 (call (.ref f) [.ref x, b]) (fun v s' => ∃ k, v = .bool k ∧ P (.bool (!k)) s') E s) : wpAny (model prog w) A (compareOp .NotEq (.ref x) b) P E s := by
  have body : wpAny (model prog w) A (call (.builtin "object.__ne__") [.ref x, b]) (fun v s' => ∃ k, v = .bool k ∧ P v s') E s := by
    refine wpAny_call (codeAny_call_builtin PySem.F.cmp_object.ne.plain PySem.F.cmpEntry_ne (check_slot (i := "object.__ne__") (owner := "object") (n := "__ne__") PySem.F.cmpKind_ne PySem.F.cmpSplit_ne (I.type.andThen (looks_mroIn X hm)) (PySem.F.cmpArgs_ne _ _) ?_))
    unfold Builtin.«object.__ne__»
    refine wpAny_bind (m := slotArgs "__ne__" 1 _) (wpAny_pure ?_)
    refine wpAny_bind (m := cRoomFor _ _) (wpAny_cRoomFor (by simp only [Around.in1_units]; omega) ?_)
    refine wpAny_bind (m := callSpecialIfBound? (.ref x) (Str.ofString "__eq__") _) (ifBound_K X I he hf (wpAny_mono h (fun v s' y => ?_) fun _ _ e => e))
    obtain ⟨k, rfl, hq⟩ := y
    refine wpAny_bind (wpAny_truthy_bool ?_)
    exact wpAny_pure ⟨_, rfl, hq⟩
  have one : wpAny (model prog w) A (tryCompare (.ref x) "__ne__" b) (Som P) E s := by
    unfold tryCompare
    refine wpAny_bind ?_
    simp only [callSpecialIfBound?, bindSpecialIfBound?]
    refine wpAny_holding (wpAny_bind (wpAny_bind (wpAny_bind (I.type.here ((looks_findIn X hne).here ?_)))))
    have fin : wpAny (model prog w) A (call (.builtin "object.__ne__") ([.ref x] ++ [b]) >>= fun v => pure (some v)) (fun r s' => wpAny (model prog w) A (match r with | some .notImplemented => pure none | none => pure none | some v => pure (some v)) (Som P) E s') E s := by
      refine wpAny_bind (wpAny_mono body (fun v s' y => ?_) fun _ _ e => e)
      obtain ⟨k, rfl, hq⟩ := y
      exact wpAny_pure (wpAny_pure ⟨_, rfl, hq⟩)
    simp only [PySem.F.cmp_object.ne.bind]
    refine wpAny_bind (wpAny_askSetting (wpAny_ite ?_))
    split
    · exact wpAny_bind (wpAny_pure (wpAny_pure (by exact fin)))
    · exact wpAny_tryCatch (wpAny_bind (wpAny_pure (wpAny_pure (by exact fin))))
  show wpAny _ _ (richCompare .NotEq (.ref x) b) _ _ _
  unfold richCompare
  simp only [oneThing_ref]
  refine wpAny_holding (wpAny_bind (wpAny_cRoomFor (by omega) ?_))
  refine wpAny_bind (I.type.here (wpAny_bind (hb.here ?_)))
  split
  · rename_i q
    have e : subIn K tb (.ref C) = some false := by
      rcases Bool.or_eq_true_iff.mp hn with e | e
      · rw [beq_iff_eq.mp e] at q
        simp at q
      · exact beq_iff_eq.mp e
    refine wpAny_bind ((looks_subIn X e).here ?_)
    simp only [Bool.false_eq_true, if_false]
    refine wpAny_bind (wpAny_mono one (fun r s' y => ?_) fun _ _ e => e)
    obtain ⟨v, rfl, hq⟩ := y
    exact wpAny_pure hq
  · refine wpAny_bind (wpAny_pure ?_)
    simp only [Bool.false_eq_true, if_false]
    refine wpAny_bind (wpAny_mono one (fun r s' y => ?_) fun _ _ e => e)
    obtain ⟨v, rfl, hq⟩ := y
    exact wpAny_pure hq
end
end Own
end QD

/-! QDJ: an int on the left of an own operator. -/
namespace QD
open PySem PySem.Spec PyProof.Rows L2
open PySem.Builtin in
theorem di_add {a : Int} {t : Tok} {x C dx : Addr} : Meets (Builtin.«int.__add__» ⟨[.int a t, .ref x], []⟩) (fun _ R s => s.heap.get? x = some (PySem.W.instObj C dx) ∧ R (.ok (.ret Value.notImplemented)) s) :=
  .of_wp fun prog w A R s h => by obtain ⟨hp, g, d, tk, os⟩ := s; obtain ⟨hl, h⟩ := h; wp_walk; exact ⟨_, rfl, h⟩
theorem di_sub {a : Int} {t : Tok} {x C dx : Addr} : Meets (Builtin.«int.__sub__» ⟨[.int a t, .ref x], []⟩) (fun _ R s => s.heap.get? x = some (PySem.W.instObj C dx) ∧ R (.ok (.ret Value.notImplemented)) s) :=
  .of_wp fun prog w A R s h => by obtain ⟨hp, g, d, tk, os⟩ := s; obtain ⟨hl, h⟩ := h; wp_walk; exact ⟨_, rfl, h⟩
theorem di_mul {a : Int} {t : Tok} {x C dx : Addr} : Meets (Builtin.«int.__mul__» ⟨[.int a t, .ref x], []⟩) (fun _ R s => s.heap.get? x = some (PySem.W.instObj C dx) ∧ R (.ok (.ret Value.notImplemented)) s) :=
  .of_wp fun prog w A R s h => by obtain ⟨hp, g, d, tk, os⟩ := s; obtain ⟨hl, h⟩ := h; wp_walk; exact ⟨_, rfl, h⟩
theorem di_and {a : Int} {t : Tok} {x C dx : Addr} : Meets (Builtin.«int.__and__» ⟨[.int a t, .ref x], []⟩) (fun _ R s => s.heap.get? x = some (PySem.W.instObj C dx) ∧ R (.ok (.ret Value.notImplemented)) s) :=
  .of_wp fun prog w A R s h => by obtain ⟨hp, g, d, tk, os⟩ := s; obtain ⟨hl, h⟩ := h; wp_walk; exact ⟨_, rfl, h⟩
theorem di_or {a : Int} {t : Tok} {x C dx : Addr} : Meets (Builtin.«int.__or__» ⟨[.int a t, .ref x], []⟩) (fun _ R s => s.heap.get? x = some (PySem.W.instObj C dx) ∧ R (.ok (.ret Value.notImplemented)) s) :=
  .of_wp fun prog w A R s h => by obtain ⟨hp, g, d, tk, os⟩ := s; obtain ⟨hl, h⟩ := h; wp_walk; exact ⟨_, rfl, h⟩
theorem di_xor {a : Int} {t : Tok} {x C dx : Addr} : Meets (Builtin.«int.__xor__» ⟨[.int a t, .ref x], []⟩) (fun _ R s => s.heap.get? x = some (PySem.W.instObj C dx) ∧ R (.ok (.ret Value.notImplemented)) s) :=
  .of_wp fun prog w A R s h => by obtain ⟨hp, g, d, tk, os⟩ := s; obtain ⟨hl, h⟩ := h; wp_walk; exact ⟨_, rfl, h⟩
theorem int_decl (o : Op) (h : intDecl o = true) : fillsNumberSlot (.type "int") (opL o).info.2 = pure true ∧ ∃ (id : String) (B : Builtin), Slot "int" (PySem.dunder (opL o).info.2) id ∧ entryFor table id = some B ∧ (∀ a b : Value, argsOk id ⟨[a, b], []⟩) ∧
    ∀ {a : Int} {t : Tok} {x C dx : Addr}, Meets (B ⟨[.int a t, .ref x], []⟩) (fun _ R s => s.heap.get? x = some (PySem.W.instObj C dx) ∧ R (.ok (.ret Value.notImplemented)) s) := by
  cases o with
  | add => exact ⟨F.fills_int_add, _, _, F.slot_int_add, F.entry_int_add, F.args_int_add_2, di_add⟩
  | sub => exact ⟨F.fills_int_sub, _, _, F.slot_int_sub, F.entry_int_sub, F.args_int_sub_2, di_sub⟩
  | mul => exact ⟨F.fills_int_mul, _, _, F.slot_int_mul, F.entry_int_mul, F.args_int_mul_2, di_mul⟩
  | band => exact ⟨F.fills_int_and, _, _, F.slot_int_and, F.entry_int_and, F.args_int_and_2, di_and⟩
  | bor => exact ⟨F.fills_int_or, _, _, F.slot_int_or, F.entry_int_or, F.args_int_or_2, di_or⟩
  | bxor => exact ⟨F.fills_int_xor, _, _, F.slot_int_xor, F.entry_int_xor, F.args_int_xor_2, di_xor⟩
  | _ => cases h
namespace Own
open PySem.W PySem.Calls
section
variable {prog : Program} {w : World} {A : Around} {E : Value → Shared → Prop} {s : Shared} {K : Frag} {x C dx f f0 : Addr} {od : Option Obj} {op : Operator} {P : Value → Shared → Prop} {cd : ClassData} {rest : List Value} {i : Int} {t : Tok} {id : String} {B : Builtin}
/-- an int on the left -/
theorem binRI (X : K.In s.heap) (I : InstAt s.heap x (instObj C dx) C od) (hc : clsIn K C = some cd) (hm : cd.mro = .ref C :: rest) (hs : findIn K (.ref C) (PySem.dunder op.info.2) = some (some (.ref f0))) (hr : findIn K (.ref C) (dunderR op.info.2) = some (some (.ref f))) (hf : isFn K (.ref f) = true)
    (hsub : subIn K (.ref C) (.type "int") = some false) (hfill : fillsNumberSlot (.type "int") op.info.2 = pure true) (hsl : Slot "int" (PySem.dunder op.info.2) id) (he : entryFor table id = some B) (ha : ∀ a b : Value, argsOk id ⟨[a, b], []⟩)
    (hd : Meets (B ⟨[.int i t, .ref x], []⟩) (fun _ R s => s.heap.get? x = some (instObj C dx) ∧ R (.ok (.ret Value.notImplemented)) s))
    (h : wpAny (model prog w) A (call (.ref f) [.ref x, .int i t]) (PySem.W.CmpBack P) E s) : wpAny (model prog w) A (binaryOp op (.int i t) (.ref x)) P E s := by
  have one := tryOne X I hr hf h
  have two : wpAny (model prog w) A (tryMethod (.int i t) (PySem.dunder op.info.2) (.ref x)) (fun r s' => r = none ∧ s' = s) E s :=
    wpAny_tryMethod_declines (typeIs_int s i t) hsl (call_meets hsl (typeIs_int s i t) he (ha _ _) hd ⟨I.1, ⟨rfl, rfl, rfl⟩⟩)
  rcases hi : op.info with ⟨sym, nm⟩
  rw [hi] at hs hr hfill one two
  dsimp only at hs hr hfill one two
  obtain ⟨hh, g, d, tt, os⟩ := s
  have L1 : Looks (model prog w) hh (typeOf (.int i t)) (.type "int") := Looks.of_pure rfl
  have L2 : Looks (model prog w) hh (typeOf (.ref x)) (.ref C) := I.type
  have L3 : Looks (model prog w) hh (fillsNumberSlot (.type "int") nm) true := Looks.of_pure hfill
  have L4 : Looks (model prog w) hh (fillsNumberSlot (.ref C) nm) true := fills_K X hc hm hs
  have L5 : Looks (model prog w) hh (isSubtype (.ref C) (.type "int")) false := looks_subIn X hsub
  have L6 : Looks (model prog w) hh (numberSlotInPython (.type "int") nm) false := Looks.of_pure rfl
  have hne : (Value.type "int" == Value.ref C) = false := rfl
  simp only [binaryOp, hi]
  refine wpAny_holding (wpAny_bind ?_)
  unfold binaryOp1
  refine wpAny_bind (L1.at (wpAny_bind (L2.at (wpAny_bind (L3.at ?_)))))
  simp only [hne, Bool.false_eq_true, if_false]
  ksp_lk
  refine wpAny_mono two (fun r s' y => ?_) fun _ _ e => e
  obtain ⟨rfl, rfl⟩ := y
  ksp_lk
  refine wpAny_mono one (fun r s' y => ?_) fun _ _ e => e
  obtain ⟨v, rfl, hq⟩ := y
  ksp_lk
  exact hq
end
end Own
end QD

/-! QD6b: operators and comparisons, own ones too. -/
namespace QD
open PySem PySem.Spec PyProof.Rows L2
section
variable (X : Cx) (L : Pl) (G : Gd) (cf : Nat → List D → Store → Res D)
/-- an operator of two by values -/
def OpG (f : Value → Value → Sem Value) (g : D → D → Store → Res D) : Prop := ∀ (W : WX) (_ : Takes X W) (ρ : Nat → Addr) (S : Store) (H : Hp) (x y : D) (vx vy : V) (σ : L2.St) (Q : VK), Rel X.K L H ρ S → Rp X.K L H ρ S.n x vx → Rp X.K L H ρ S.n y vy →
  (g x y S).Good (kV X.K L S H ρ Q) (kX X.K L S H ρ (WE W σ)) → ∀ (pins : List (Addr × Obj)) (s : Shared) (v u : Value), Inv X pins σ H s → RelV vx v → RelV vy u → wpAny (model X.prog X.w) X.A (f v u) (EP X pins σ Q) X.xe s
/-- a comparison -/
def CmG (f : Value → Value → Sem Value) (g : D → D → Store → Res Bool) : Prop := ∀ (W : WX) (_ : Takes X W) (ρ : Nat → Addr) (S : Store) (H : Hp) (x y : D) (vx vy : V) (σ : L2.St) (Q : Bool → Hp → Prop), Rel X.K L H ρ S → Rp X.K L H ρ S.n x vx → Rp X.K L H ρ S.n y vy →
  (g x y S).Good (fun b S' => ∀ ρ' H', Nx X.K L S H ρ S' H' ρ' → Q b H') (kX X.K L S H ρ (WE W σ)) → ∀ (pins : List (Addr × Obj)) (s : Shared) (v u : Value), Inv X pins σ H s → RelV vx v → RelV vy u →
    wpAny (model X.prog X.w) X.A (f v u) (fun w s' => ∃ b H', w = .bool b ∧ Inv X pins σ H' s' ∧ Q b H') X.xe s
end
section
variable {X : Cx} {L : Pl} {G : Gd} {cf : Nat → List D → Store → Res D}
theorem good_nox_ok {r : Res D} {k : D → Store → Prop} {x : Nat → Nat → Store → Prop} (h : r.nox.Good k x) : ∃ d S, r = .ok d S ∧ k d S := by
  cases r with
  | ok d S => exact ⟨d, S, rfl, h⟩
  | ex c d S => exact h.elim
  | stuck => exact h.elim
theorem og_od {f : Value → Value → Sem Value} {g : Store → D → D → Res D} (od : OpD X L f g) : OpG X L f fun x y S => (g S x y).nox := by
  intro W tk ρ S H x y vx vy σ Q r px py h pins s v u I rv ru
  obtain ⟨d, S', e, k⟩ := good_nox_ok h
  obtain ⟨r2, ho, hq⟩ := od ρ S H x y d S' vx vy r px py e
  exact ho pins s σ H vx vy v u Q I rv ru (hq Q k)
theorem cg_cd {f : Value → Value → Sem Value} {g : Store → D → D → Option Bool} (cd : CmD X L f g) : CmG X L f fun x y S => Res.of (g S x y) S := by
  intro W tk ρ S H x y vx vy σ Q r px py h pins s v u I rv ru
  obtain ⟨b, e, k⟩ := Res.good_of h
  obtain ⟨r2, ho, hq⟩ := cd ρ S H x y b vx vy r px py e
  refine wpAny_mono (ho pins s σ H vx vy v u (fun z H3 => z = .bl b ∧ H3 = H) I rv ru (hq _ ⟨rfl, rfl⟩)) (fun c s3 ⟨z, H3, I3, rz, ez, eh⟩ => ?_) fun _ _ e => e
  subst ez
  subst eh
  exact ⟨b, H3, rz, I3, k ρ H3 (Nx.refl r)⟩
/-- an own method of two -/
theorem own_two {A : Around} {E : XK} {E' : Value → Shared → Prop} {ρ : Nat → Addr} {S : Store} {H : Hp} {x y : D} {vx vy : V} {σ : L2.St} {Q : VK} {f : Nat} {fa : Addr} {fd : FuncData} {ps : List Str} {j : Nat} {pins : List (Addr × Obj)} {s : Shared} {v u : Value} (F : FnAt X L cf f 2 fa fd ps j) (hr : Room j A)
    (e0 : Env0 X.prog X.w X.K X.mg X.base A X.stack s H) (hb : Binds X.K fd ps []) (I : Inv X pins σ H s) (r : Rel X.K L H ρ S) (px : Rp X.K L H ρ S.n x vx) (py : Rp X.K L H ρ S.n y vy) (rv : RelV vx v) (ru : RelV vy u)
    (g : (cf f [x, y] S).Good (kV X.K L S H ρ Q) (kX X.K L S H ρ E)) (hE : ∀ e t, L2.CX X.prog X.w X.stack H s E e t → E' e t) : wpAny (model X.prog X.w) A (call (.ref fa) [v, u]) (EP X pins σ Q) E' s :=
  run_in (us := [v, u]) (vs := [vx, vy]) F.ok hr e0 hb I (.cons rv (.cons ru .nil)) ⟨ρ, S, [x, y], rfl, r, RpL.cons px (RpL.cons py RpL.nil), g⟩ hE
/-- the other one's type -/
theorem right_of {c : Nat} {S : Store} {ρ : Nat → Addr} {H : Hp} {y : D} {vy : V} {u : Value} {pins : List (Addr × Obj)} {σ : L2.St} {s : Shared} (o : Op) (O : OwnOk X L c) (r : Rel X.K L H ρ S) (I : Inv X pins σ H s) (py : Rp X.K L H ρ S.n y vy) (ru : RelV vy u) (h : (isBt y || decide (insOf S y = some c) || isSq S y) = true) :
    ∃ tb, PySem.W.Looks (model X.prog X.w) s.heap (typeOf u) tb ∧ Own.Right X.K (L.cla c) (opL o).info.2 tb ∧ PySem.W.notFirst X.K (L.cla c) tb = true := by
  have bt : ∀ b : Bt, typeOf u = pure (btV b) → ∃ tb, PySem.W.Looks (model X.prog X.w) s.heap (typeOf u) tb ∧ Own.Right X.K (L.cla c) (opL o).info.2 tb ∧ PySem.W.notFirst X.K (L.cla c) tb = true := fun b e => by
    obtain ⟨⟨fo, h1⟩, ro, h2⟩ := bt_has o b X.K
    refine ⟨btV b, PySem.W.Looks.of_pure e, .inr ⟨btN b, fo, ro, rfl, h1, h2, O.subR b⟩, ?_⟩
    unfold PySem.W.notFirst
    rw [O.subR b]
    exact Bool.or_true _
  rcases Bool.or_eq_true_iff.mp h with h | h
  rotate_left
  · obtain ⟨b, ty⟩ : ∃ b : Bt, TyX X.K H vy (btV b) := by
      cases y with
      | tup l =>
        obtain ⟨a, us, rfl, s, q⟩ := (show ∃ a vs, vy = .ref a ∧ SqT X.K H a vs ∧ RpL X.K L H ρ S.n l vs from py)
        refine ⟨.tuple, ?_⟩
        rcases s with (s | ⟨o, s⟩) | ⟨o, its, n, lk, hc, _⟩
        · exact .base (.tup s)
        · exact .fTuple s
        · exact .kTuple lk hc
      | ref i =>
        obtain ⟨_, rfl⟩ := (show i < S.n ∧ vy = .ref (ρ i) from py)
        have h1 : (match S.get i with
          | some (.lst _ _) => true
          | _ => false) = true := h
        split at h1
        · rename_i w l e
          refine ⟨.list, ?_⟩
          have x := r.cell i _ e
          cases w with
          | true => obtain ⟨us, s, _⟩ := x; exact .base (.lst s)
          | false =>
            obtain ⟨us, s, _⟩ := x
            rcases s with ⟨o, s⟩ | ⟨o, its, n, lk, hc, _⟩
            · exact .base (.frz s)
            · exact .kList lk hc
        · cases h1
      | _ => cases h
    obtain ⟨P, Z, pp, _⟩ := kit_of I ru ty
    obtain ⟨⟨fo, h1⟩, ro, h2⟩ := bt_has o b X.K
    refine ⟨btV b, Z.ty _ _ I.kIn pp, .inr ⟨btN b, fo, ro, rfl, h1, h2, O.subR b⟩, ?_⟩
    unfold PySem.W.notFirst
    rw [O.subR b]
    exact Bool.or_true _
  rcases Bool.or_eq_true_iff.mp h with h | h
  · cases y with
    | int i => cases (show vy = .int i from py); obtain ⟨t, rfl⟩ := ru; exact bt .int rfl
    | str i => cases (show vy = .str i from py); obtain ⟨t, rfl⟩ := ru; exact bt .str rfl
    | bl i => cases (show vy = .bl i from py); cases (show u = Value.bool i from ru); exact bt .bool rfl
    | non => cases (show vy = .non from py); cases (show u = Value.none from ru); exact bt .non rfl
    | _ => cases h
  · obtain ⟨i, fs, rfl, ei⟩ := ins_of (of_decide_eq_true h)
    obtain ⟨_, rfl⟩ := (show i < S.n ∧ vy = .ref (ρ i) from py)
    cases (show u = Value.ref (ρ i) from ru)
    obtain ⟨ox, od, J⟩ := own_at r ei I
    refine ⟨_, J.type, .inl rfl, ?_⟩
    unfold PySem.W.notFirst
    rw [beq_self_eq_true]
    rfl
theorem own_atI {S : Store} {ρ : Nat → Addr} {H : Hp} {i c : Nat} {fs : List (Str × D)} {pins : List (Addr × Obj)} {σ : L2.St} {s : Shared} (r : Rel X.K L H ρ S) (e : S.get i = some (.ins c fs)) (I : Inv X pins σ H s) : ∃ (dx : Addr) (od : Option Obj), PySem.W.InstAt s.heap (ρ i) (PySem.W.instObj (L.cla c) dx) (L.cla c) od := by
  obtain ⟨dx, vs, hH, hf⟩ := r.cell i _ e
  obtain ⟨mA, O, _, _, _, _⟩ := ins_get I.hok hH
  obtain ⟨od, J, _⟩ := O.look
  exact ⟨dx, _, J⟩
theorem og_bin (E : EnvOk X L G cf) {o : Op} (od : OpD X L (binaryOp (opL o)) (fun S x y => evOp S o x y)) : OpG X L (binaryOp (opL o)) fun x y S => evBin G cf o x y S := by
  intro W tk ρ S H x y vx vy σ Q r px py g pins s v u I rv ru
  change (evBin G cf o x y S).Good _ _ at g
  unfold evBin at g
  cases ex : insOf S x with
  | some c =>
    rw [ex] at g
    dsimp only at g
    split at g
    · rename_i f ef
      split at g
      · rename_i hy
        obtain ⟨i, fs, rfl, ei⟩ := ins_of ex
        obtain ⟨hi, rfl⟩ := (show i < S.n ∧ vx = .ref (ρ i) from px)
        obtain rfl : v = Value.ref (ρ i) := rv
        obtain ⟨O, cl, fa, fd, ps, j, kk, hf1, hf2, F, hbn, hl⟩ := (E.cls c).op _ f ef
        have hk : kk = 2 := (F.ar [.ref i, y] S g.ns).symm
        subst hk
        obtain ⟨ox, od', J⟩ := own_at r ei I
        obtain ⟨cd, hc, hm⟩ := O.mro
        obtain ⟨rc, hr, hp⟩ := O.refl o
        obtain ⟨tb, hb, hR, _⟩ := right_of o O r I py ru hy
        refine Own.binOp (Own.bin1 I.kIn J hc hm (f := fa) (by rw [opS_eq]; exact hf1) (by rw [opR_eq]; exact hr) hp hb hR ?_)
        rw [opS_eq]
        refine Own.tryOne I.kIn J hf1 hf2 ?_
        exact wpAny_mono (own_two F (F.room.mono (by omega)) I.env0 hbn I r px py rfl ru g (fun e t c => pass tk σ pins H s e t I c)) (fun w s' ⟨z, H', I', rz, q⟩ => SlX.cmpback rz ⟨z, H', I', rz, q⟩) fun _ _ e => e
      · exact g.elim
    · exact g.elim
  | none =>
    rw [ex] at g
    dsimp only at g
    unfold evBinR at g
    cases ey : insOf S y with
    | none =>
      rw [ey] at g
      exact og_od od W tk ρ S H x y vx vy σ Q r px py g pins s v u I rv ru
    | some c =>
      rw [ey] at g
      dsimp only at g
      split at g
      · rename_i f ef
        split at g
        · rename_i z
          split at g
          · rename_i hz
            obtain ⟨hz1, hz2⟩ := Bool.and_eq_true_iff.mp hz
            obtain ⟨f0, ef0⟩ := Option.isSome_iff_exists.mp hz2
            obtain ⟨i, fs, rfl, ei⟩ := ins_of ey
            obtain ⟨hi, rfl⟩ := (show i < S.n ∧ vy = .ref (ρ i) from py)
            obtain rfl : u = Value.ref (ρ i) := ru
            cases (show vx = .str z from px)
            obtain ⟨t, rfl⟩ := (show ∃ t, v = Value.str z t from rv)
            obtain ⟨O, cl, fa, fd, ps, j, kk, hf1, hf2, F, hbn, hl⟩ := (E.cls c).op _ f ef
            obtain ⟨_, _, fa0, _, _, _, _, hf3, _⟩ := (E.cls c).op _ f0 ef0
            have hk : kk = 2 := (F.ar [.ref i, .str z] S g.ns).symm
            subst hk
            obtain ⟨ox, od', J⟩ := own_at r ei I
            obtain ⟨cd, hc, hm⟩ := O.mro
            obtain ⟨n1, n2⟩ := str_no o X.K hz1
            refine Own.binR I.kIn J hc hm (f0 := fa0) (by rw [opS_eq]; exact hf3) (by rw [opR_eq]; exact hf1) hf2 n1 n2 ?_
            exact wpAny_mono (own_two F (F.room.mono (by omega)) I.env0 hbn I r py px rfl ⟨t, rfl⟩ g (fun e t c => pass tk σ pins H s e t I c)) (fun w s' ⟨z, H', I', rz, q⟩ => SlX.cmpback rz ⟨z, H', I', rz, q⟩) fun _ _ e => e
          · exact g.elim
        · rename_i z
          split at g
          · rename_i hz
            obtain ⟨hz1, hz2⟩ := Bool.and_eq_true_iff.mp hz
            obtain ⟨f0, ef0⟩ := Option.isSome_iff_exists.mp hz2
            obtain ⟨i, fs, rfl, ei⟩ := ins_of ey
            obtain ⟨hi, rfl⟩ := (show i < S.n ∧ vy = .ref (ρ i) from py)
            obtain rfl : u = Value.ref (ρ i) := ru
            cases (show vx = .int z from px)
            obtain ⟨t, rfl⟩ := (show ∃ t, v = Value.int z t from rv)
            obtain ⟨O, cl, fa, fd, ps, j, kk, hf1, hf2, F, hbn, hl⟩ := (E.cls c).op _ f ef
            obtain ⟨_, _, fa0, _, _, _, _, hf3, _⟩ := (E.cls c).op _ f0 ef0
            have hk : kk = 2 := (F.ar [.ref i, .int z] S g.ns).symm
            subst hk
            obtain ⟨dx, od', J⟩ := own_atI r ei I
            obtain ⟨cd, hc, hm⟩ := O.mro
            obtain ⟨d1, id, B, d2, d3, d4, d5⟩ := int_decl o hz1
            refine Own.binRI I.kIn J hc hm (f0 := fa0) (by rw [opS_eq]; exact hf3) (by rw [opR_eq]; exact hf1) hf2 (O.sub .int) d1 d2 d3 d4 d5 ?_
            exact wpAny_mono (own_two F (F.room.mono (by omega)) I.env0 hbn I r py px rfl ⟨t, rfl⟩ g (fun e t c => pass tk σ pins H s e t I c)) (fun w s' ⟨z, H', I', rz, q⟩ => SlX.cmpback rz ⟨z, H', I', rz, q⟩) fun _ _ e => e
          · exact g.elim
        · exact g.elim
      · exact g.elim
theorem si_bin {a b : Expr} {ca cb : C} {pos : Pos} {op : Operator} {o : Op} (ho : OpG X L (binaryOp op) fun x y S => evBin G cf o x y S) (ha : Sim X L G cf a ca) (hb : Sim X L G cf b cb) : Sim X L G cf (.BinOp a op b pos) (.op o ca cb) := by
  refine ⟨fun W tk ρ σd σ S H Q r rs h => fun pins s I => ?_⟩
  have h := Res.good_bind (r := evC cf G ca σd S) h
  refine wpAny_BinOp ?_
  refine thn (ha.run W tk ρ σd σ S H (fun v H1 => ∃ ρ1 S1 x, Nx X.K L S H ρ S1 H1 ρ1 ∧ Rp X.K L H1 ρ1 S1.n x v ∧ ((evC cf G cb σd S1).bind fun y S2 => evBin G cf o x y S2).Good (kV X.K L S H ρ Q) (kX X.K L S H ρ (WE W σ))) r rs (h.imp (fun x S1 g ρ' H' v n p => ⟨ρ', S1, x, n, p, g⟩) fun _ _ _ k => k) pins s I) fun u s1 ⟨v, H1, I1, rv, ρ1, S1, x, n1, p1, g⟩ => ?_
  have g := Res.good_bind g
  refine thn (hb.run W tk ρ1 σd σ S1 H1 (fun w H2 => ∃ ρ2 S2 y, Nx X.K L S1 H1 ρ1 S2 H2 ρ2 ∧ Rp X.K L H2 ρ2 S2.n y w ∧ (evBin G cf o x y S2).Good (kV X.K L S H ρ Q) (kX X.K L S H ρ (WE W σ))) n1.r (n1.rs rs) (g.imp (fun y S2 gg ρ2 H2 w n p => ⟨ρ2, S2, y, n, p, gg⟩) fun _ _ _ k => k.at n1) pins s1 I1) fun u2 s2 ⟨w, H2, I2, rw', ρ2, S2, y, n2, p2, gg⟩ => ?_
  exact ho W tk ρ2 S2 H2 x y v w σ Q n2.r (n2.rp p1) p2 (gg.at (n1.trans n2)) pins s2 u u2 I2 rv rw'

/-! ### comparisons -/
theorem bl_good {r : Res D} {k : Bool → Store → Prop} {b : Bool → Bool} {x : Nat → Nat → Store → Prop} (h : (r.bind fun v S1 => (match v with | .bl c => .ok (b c) S1 | _ => .stuck)).Good k x) : r.Good (fun v S1 => ∃ c, v = .bl c ∧ k (b c) S1) x :=
  (Res.good_bind h).imp (fun v S1 g => by
    split at g
    · exact ⟨_, rfl, g⟩
    · exact g.elim) fun _ _ _ k => k
theorem cg_eq (E : EnvOk X L G cf) : CmG X L (compareOp .Eq) fun x y S => evCmO G cf .eq x y S := by
  intro W tk ρ S H x y vx vy σ Q r px py g pins s v u I rv ru
  cases ex : insOf S x with
  | none =>
    have e : evCmO G cf .eq x y S = Res.of (evCm G S .eq x y) S := by
      unfold evCmO
      rw [ex]
      try (cases insOf S y <;> rfl)
    change (evCmO G cf .eq x y S).Good _ _ at g
    rw [e] at g
    exact cg_cd (cd_eq E.hu) W tk ρ S H x y vx vy σ Q r px py g pins s v u I rv ru
  | some c =>
    change (evCmO G cf .eq x y S).Good _ _ at g
    unfold evCmO at g
    rw [ex] at g
    dsimp only at g
    split at g
    · rename_i f ef
      split at g
      · rename_i hy
        have g := bl_good (b := fun c => c) g
        obtain ⟨i, fs, rfl, ei⟩ := ins_of ex
        obtain ⟨hi, rfl⟩ := (show i < S.n ∧ vx = .ref (ρ i) from px)
        obtain rfl : v = Value.ref (ρ i) := rv
        obtain ⟨O, cl, fa, fd, ps, j, kk, hf1, hf2, F, hbn, hl⟩ := (E.cls c).op _ f ef
        have hk : kk = 2 := (F.ar [.ref i, y] S g.ns).symm
        subst hk
        obtain ⟨ox, od', J⟩ := own_at r ei I
        obtain ⟨tb, hb, _, hn⟩ := right_of .add O r I py ru hy
        obtain ⟨m, hF⟩ := I.fr
        have hu := E.hu
        show wpAny _ _ (richCompare .Eq _ _) _ _ _
        refine PySem.W.cmp_K (op := .Eq) (by omega) hF I.ok.mod.kin J hb hn hf1 hf2 ?_
        refine wpAny_mono (own_two (Q := fun z H' => ∃ b, z = .bl b ∧ Q b H') F (F.room.mono (by omega)) I.env0 hbn I r px py rfl ru (g.imp (fun v S1 ⟨b, ev, k⟩ ρ' H' vv n p => ?_) fun _ _ _ k => k) (fun e t c => pass tk σ pins H s e t I c)) (fun w s' ⟨z, H', I', rz, b, ez, q⟩ => ?_) fun _ _ e => e
        · subst ev
          exact ⟨b, p, k ρ' H' n⟩
        · subst ez
          cases (show w = Value.bool b from rz)
          exact ⟨b, H', rfl, I', q⟩
      · exact g.elim
    · exact g.elim
theorem cg_ne (E : EnvOk X L G cf) : CmG X L (compareOp .NotEq) fun x y S => evCmO G cf .ne x y S := by
  intro W tk ρ S H x y vx vy σ Q r px py g pins s v u I rv ru
  cases ex : insOf S x with
  | none =>
    have e : evCmO G cf .ne x y S = Res.of (evCm G S .ne x y) S := by
      unfold evCmO
      rw [ex]
      try (cases insOf S y <;> rfl)
    change (evCmO G cf .ne x y S).Good _ _ at g
    rw [e] at g
    exact cg_cd (cd_ne E.hu) W tk ρ S H x y vx vy σ Q r px py g pins s v u I rv ru
  | some c =>
    change (evCmO G cf .ne x y S).Good _ _ at g
    unfold evCmO at g
    rw [ex] at g
    dsimp only at g
    split at g
    · rename_i f ef
      split at g
      · rename_i hy
        have g := bl_good (b := fun c => !c) g
        obtain ⟨i, fs, rfl, ei⟩ := ins_of ex
        obtain ⟨hi, rfl⟩ := (show i < S.n ∧ vx = .ref (ρ i) from px)
        obtain rfl : v = Value.ref (ρ i) := rv
        obtain ⟨O, cl, fa, fd, ps, j, kk, hf1, hf2, F, hbn, hl⟩ := (E.cls c).op _ f ef
        have hk : kk = 2 := (F.ar [.ref i, y] S g.ns).symm
        subst hk
        obtain ⟨ox, od', J⟩ := own_at r ei I
        obtain ⟨tb, hb, _, hn⟩ := right_of .add O r I py ru hy
        have hu := E.hu
        refine Own.neOwn (by omega) I.kIn J O.obj hb hn O.ne hf1 hf2 ?_
        refine wpAny_mono (own_two (Q := fun z H' => ∃ b, z = .bl b ∧ Q (!b) H') F (F.room.in1.mono (by omega)) I.env0.in1 hbn I r px py rfl ru (g.imp (fun v S1 ⟨b, ev, k⟩ ρ' H' vv n p => ?_) fun _ _ _ k => k) (fun e t c => pass tk σ pins H s e t I c)) (fun w s' ⟨z, H', I', rz, b, ez, q⟩ => ?_) fun _ _ e => e
        · subst ev
          exact ⟨b, p, k ρ' H' n⟩
        · subst ez
          cases (show w = Value.bool b from rz)
          exact ⟨b, rfl, !b, H', rfl, I', q⟩
      · exact g.elim
    · exact g.elim
theorem cg_in (E : EnvOk X L G cf) : CmG X L (compareOp .In) fun x y S => evCmO G cf .in_ x y S := by
  intro W tk ρ S H x y vx vy σ Q r px py g pins s v u I rv ru
  change (evCmO G cf .in_ x y S).Good _ _ at g
  cases ey : insOf S y with
  | none =>
    have e : evCmO G cf .in_ x y S = Res.of (evCm G S .in_ x y) S := by
      unfold evCmO
      rw [ey]
    rw [e] at g
    exact cg_cd (cd_in E.kd) W tk ρ S H x y vx vy σ Q r px py g pins s v u I rv ru
  | some c =>
    unfold evCmO at g
    rw [ey] at g
    dsimp only at g
    split at g
    · rename_i f ef
      have g := bl_good (b := fun c => c) g
      obtain ⟨i, fs, rfl, ei⟩ := ins_of ey
      obtain ⟨hi, rfl⟩ := (show i < S.n ∧ vy = .ref (ρ i) from py)
      obtain rfl : u = Value.ref (ρ i) := ru
      obtain ⟨O, cl, fa, fd, ps, j, kk, hf1, hf2, F, hbn, hl⟩ := (E.cls c).op _ f ef
      have hk : kk = 2 := (F.ar [.ref i, x] S g.ns).symm
      subst hk
      obtain ⟨ox, od', J⟩ := own_at r ei I
      obtain ⟨m, hF⟩ := I.fr
      refine PySem.W.in_K hF I.ok.mod.kin J hf1 hf2 ?_
      refine wpAny_mono (own_two (Q := fun z H' => ∃ b, z = .bl b ∧ Q b H') F (F.room.mono (by omega)) I.env0 hbn I r py px rfl rv (g.imp (fun v S1 ⟨b, ev, k⟩ ρ' H' vv n p => ?_) fun _ _ _ k => k) (fun e t c => pass tk σ pins H s e t I c)) (fun w s' ⟨z, H', I', rz, b, ez, q⟩ => ?_) fun _ _ e => e
      · subst ev
        exact ⟨b, p, k ρ' H' n⟩
      · subst ez
        cases (show w = Value.bool b from rz)
        exact wpAny_truthy_bool ⟨b, H', rfl, I', q⟩
    · exact g.elim
theorem cg_nin (E : EnvOk X L G cf) : CmG X L (compareOp .NotIn) fun x y S => evCmO G cf .nin x y S := by
  intro W tk ρ S H x y vx vy σ Q r px py g pins s v u I rv ru
  change (evCmO G cf .nin x y S).Good _ _ at g
  cases ey : insOf S y with
  | none =>
    have e : evCmO G cf .nin x y S = Res.of (evCm G S .nin x y) S := by
      unfold evCmO
      rw [ey]
    rw [e] at g
    exact cg_cd (cd_nin E.kd) W tk ρ S H x y vx vy σ Q r px py g pins s v u I rv ru
  | some c =>
    unfold evCmO at g
    rw [ey] at g
    dsimp only at g
    split at g
    · rename_i f ef
      have g := bl_good (b := fun c => !c) g
      obtain ⟨i, fs, rfl, ei⟩ := ins_of ey
      obtain ⟨hi, rfl⟩ := (show i < S.n ∧ vy = .ref (ρ i) from py)
      obtain rfl : u = Value.ref (ρ i) := ru
      obtain ⟨O, cl, fa, fd, ps, j, kk, hf1, hf2, F, hbn, hl⟩ := (E.cls c).op _ f ef
      have hk : kk = 2 := (F.ar [.ref i, x] S g.ns).symm
      subst hk
      obtain ⟨ox, od', J⟩ := own_at r ei I
      obtain ⟨m, hF⟩ := I.fr
      refine PySem.W.notIn_K hF I.ok.mod.kin J hf1 hf2 ?_
      refine wpAny_mono (own_two (Q := fun z H' => ∃ b, z = .bl b ∧ Q (!b) H') F (F.room.mono (by omega)) I.env0 hbn I r py px rfl rv (g.imp (fun v S1 ⟨b, ev, k⟩ ρ' H' vv n p => ?_) fun _ _ _ k => k) (fun e t c => pass tk σ pins H s e t I c)) (fun w s' ⟨z, H', I', rz, b, ez, q⟩ => ?_) fun _ _ e => e
      · subst ev
        exact ⟨b, p, k ρ' H' n⟩
      · subst ez
        cases (show w = Value.bool b from rz)
        exact wpAny_truthy_bool ⟨!b, H', rfl, I', q⟩
    · exact g.elim
theorem cmp_run {a b : Expr} {ca cb : C} {op : CmpOp} {o : Cm} (ho : CmG X L (compareOp op) fun x y S => evCmO G cf o x y S) (ha : Sim X L G cf a ca) (hb : Sim X L G cf b cb)
    {W : WX} (tk : Takes X W) {ρ : Nat → Addr} {σd : Sl} {σ : L2.St} {S : Store} {H : Hp} {Q : Bool → Hp → Prop} (r : Rel X.K L H ρ S) (rs : RX X L G H ρ S.n σd σ)
    (h : (evC cf G (.cmp o ca cb) σd S).Good (fun d S' => ∃ b, d = .bl b ∧ ∀ ρ' H', Nx X.K L S H ρ S' H' ρ' → Q b H') (kX X.K L S H ρ (WE W σ)))
    {pins : List (Addr × Obj)} {s : Shared} (I : Inv X pins σ H s) {P : Value → Shared → Prop} (hq : ∀ b s' H', Inv X pins σ H' s' → Q b H' → P (.bool b) s') :
    wpAny (model X.prog X.w) X.A (eval a X.env) (fun v s₁ => wpAny (model X.prog X.w) X.A (eval b X.env) (fun u s₂ => wpAny (model X.prog X.w) X.A (compareOp op v u) P X.xe s₂) X.xe s₁) X.xe s := by
  have h := Res.good_bind (r := evC cf G ca σd S) h
  refine thn (ha.run W tk ρ σd σ S H (fun v H1 => ∃ ρ1 S1 x, Nx X.K L S H ρ S1 H1 ρ1 ∧ Rp X.K L H1 ρ1 S1.n x v ∧ ((evC cf G cb σd S1).bind fun y S2 => (evCmO G cf o x y S2).bind fun k S3 => .ok (D.bl k) S3).Good (fun d S' => ∃ b, d = D.bl b ∧ ∀ ρ' H', Nx X.K L S H ρ S' H' ρ' → Q b H') (kX X.K L S H ρ (WE W σ))) r rs (h.imp (fun x S1 g ρ' H' v n p => ⟨ρ', S1, x, n, p, g⟩) fun _ _ _ k => k) pins s I) fun u s1 ⟨v, H1, I1, rv, ρ1, S1, x, n1, p1, g⟩ => ?_
  have g := Res.good_bind g
  refine thn (hb.run W tk ρ1 σd σ S1 H1 (fun w H2 => ∃ ρ2 S2 y, Nx X.K L S1 H1 ρ1 S2 H2 ρ2 ∧ Rp X.K L H2 ρ2 S2.n y w ∧ ((evCmO G cf o x y S2).bind fun k S3 => .ok (D.bl k) S3).Good (fun d S' => ∃ b, d = D.bl b ∧ ∀ ρ' H', Nx X.K L S H ρ S' H' ρ' → Q b H') (kX X.K L S H ρ (WE W σ))) n1.r (n1.rs rs) (g.imp (fun y S2 gg ρ2 H2 w n p => ⟨ρ2, S2, y, n, p, gg⟩) fun _ _ _ k => k.at n1) pins s1 I1) fun u2 s2 ⟨w, H2, I2, rw', ρ2, S2, y, n2, p2, gg⟩ => ?_
  refine wpAny_mono (ho W tk ρ2 S2 H2 x y v w σ Q n2.r (n2.rp p1) p2 ((Res.good_bind gg).imp (fun b S3 ⟨b', eb, k⟩ ρ' H' n => ?_) fun _ _ _ k => k.at (n1.trans n2)) pins s2 u u2 I2 rv rw') (fun c s3 ⟨b, H3, ec, I3, q⟩ => ?_) fun _ _ e => e
  · cases eb
    exact k ρ' H' ((n1.trans n2).trans n)
  · subst ec
    exact hq b s3 H3 I3 q
theorem cmp_bl {a b : C} {o : Cm} {σ : Sl} {S : Store} {k : D → Store → Prop} {x : Nat → Nat → Store → Prop} (h : (evC cf G (.cmp o a b) σ S).Good k x) : (evC cf G (.cmp o a b) σ S).Good (fun d S' => ∃ c, d = .bl c ∧ k d S') x := by
  refine (Res.Good.eqn h).imp (fun d S1 ⟨e, kd⟩ => ?_) fun _ _ _ ⟨_, k⟩ => k
  obtain ⟨x1, S2, e1, e2⟩ := Res.bind_ok (r := evC cf G a σ S) e
  obtain ⟨x2, S3, e3, e4⟩ := Res.bind_ok e2
  obtain ⟨x3, S4, e5, e6⟩ := Res.bind_ok e4
  cases e6
  exact ⟨x3, rfl, kd⟩
theorem si_cmp {a b : Expr} {ca cb : C} {pos : Pos} {op : CmpOp} {o : Cm} (ho : CmG X L (compareOp op) fun x y S => evCmO G cf o x y S) (ha : Sim X L G cf a ca) (hb : Sim X L G cf b cb) (hm : behindInMarks op b = false) : Sim X L G cf (.Compare a [op] [b] pos) (.cmp o ca cb) := by
  refine ⟨fun W tk ρ σd σ S H Q r rs h => fun pins s I => ?_⟩
  refine wpAny_Compare1 (cmp_run (Q := fun b H' => Q (.bl b) H') ho ha hb tk r rs ((cmp_bl h).imp (fun d S1 ⟨c, ec, k⟩ => ?_) fun _ _ _ k => k) I fun b s' H' I' q => ⟨.bl b, H', I', rfl, q⟩) hm
  subst ec
  exact ⟨c, rfl, fun ρ' H' n => k ρ' H' _ n rfl⟩
theorem st_cmp {a b : Expr} {ca cb : C} {pos : Pos} {op : CmpOp} {o : Cm} (ho : CmG X L (compareOp op) fun x y S => evCmO G cf o x y S) (ha : Sim X L G cf a ca) (hb : Sim X L G cf b cb) (hm : behindInMarks op b = false) : SimT X L G cf (.Compare a [op] [b] pos) (.cmp o ca cb) := by
  refine ⟨fun W tk ρ σd σ S H Q r rs h => fun pins s I => ?_⟩
  refine wpAny_isTrue_Compare1 (cmp_run (Q := Q) ho ha hb tk r rs ((cmp_bl h).imp (fun d S1 ⟨c, ec, b, eb, k⟩ => ?_) fun _ _ _ k => k) I fun b s' H' I' q => wpAny_truthy_bool ⟨H', I', q⟩) hm
  subst ec
  cases (show some c = some b from eb)
  exact ⟨c, rfl, k⟩
end
end QD

/-! QD7z: zip of any two things that are walked by place (a tuple beside a list). -/
namespace QD
open PySem PySem.Spec PyProof.Rows L2
section
variable {prog : Program} {w : World}
/-- an iterator at it over what stands at l: place by place the values xs; P k: it stands at place k -/
structure Walked (prog : Program) (w : World) (it l : Addr) (xs : Array Value) (P : Nat → Heap → Prop) : Prop where
  keep : ∀ k h h', P k h → (∀ c o, c = it ∨ c = l → h.get? c = some o → h'.get? c = some o) → P k h'
  ob : ∀ k h, P k h → ∃ o, h.get? it = some o ∧ ∀ v, o.data ≠ .cell v
  item : ∀ {A : Around} {E : Value → Shared → Prop} {s : Shared} {Q : Value → Shared → Prop} {k : Nat} {x : Value}, P k s.heap → xs[k]? = some x → (∀ h', P (k + 1) h' → Heap.SameBut it s.heap h' → Q x { s with heap := h' }) → wpAny (model prog w) A (Builtin.SmallTypes.nextOf (.ref it)) Q E s
  stop : ∀ {A : Around} {E : Value → Shared → Prop} {s : Shared} {Q : Value → Shared → Prop} {k : Nat}, A.handled = none → P k s.heap → xs[k]? = none → (∀ h' e, Heap.ExtBut it s.heap h' → (∃ o, h'.get? e = some o ∧ o.cls = .type "StopIteration") → E (.ref e) { s with heap := h' }) → wpAny (model prog w) A (Builtin.SmallTypes.nextOf (.ref it)) Q E s
theorem walked_tup {it l : Addr} {xs : Array Value} (ne : l ≠ it) : Walked prog w it l xs (fun k h => h.IsTupleIter it l k ∧ h.IsTuple l xs) where
  keep := fun k h h' st e => ⟨st.1.at fun o z => e it o (.inl rfl) z, let ⟨o, z, r⟩ := st.2; ⟨o, e l o (.inr rfl) z, r⟩⟩
  ob := fun k h st => let ⟨o, z, _, d⟩ := st.1; ⟨o, z, fun v q => by rw [d] at q; cases q⟩
  item := fun st hx q => RZ.nextOf_tuple_item st.1 st.2 hx fun h' a b => q h' ⟨a, st.2.extBut b.extBut ne⟩ b
  stop := fun hh st hx q => RZ.nextOf_tuple_end hh st.1 st.2 hx q
theorem walked_lst {it l : Addr} {xs : Array Value} (ne : l ≠ it) : Walked prog w it l xs (fun k h => h.IsListIter it l k ∧ h.IsList l xs) where
  keep := fun k h h' st e => ⟨st.1.at fun o z => e it o (.inl rfl) z, let ⟨o, z, r⟩ := st.2; ⟨o, e l o (.inr rfl) z, r⟩⟩
  ob := fun k h st => let ⟨o, z, _, d⟩ := st.1; ⟨o, z, fun v q => by rw [d] at q; cases q⟩
  item := fun st hx q => wpAny_nextOf_list_item st.1 st.2 hx fun h' a b => q h' ⟨a, st.2.extBut b.extBut ne⟩ b
  stop := fun hh st hx q => wpAny_nextOf_list_end hh st.1 st.2 hx q
section
variable {A : Around} {E : Value → Shared → Prop} {s : Shared} {z TI TO i1 i2 l1 l2 : Addr} {k : Nat} {xs ys : Array Value} {x y a b : Value} {P1 P2 : Nat → Heap → Prop}
/-- two heaps agree but at the four of a zip that change -/
def OffZip (z TO i1 i2 : Addr) (h h' : Heap) : Prop := ∀ c o, c ≠ z → c ≠ TO → c ≠ i1 → c ≠ i2 → h.get? c = some o → h'.get? c = some o
theorem Walked.off {it l c : Addr} {P : Nat → Heap → Prop} (F : Walked prog w it l xs P) {h h' : Heap} (p : P k h) (e : ∀ d o, d ≠ c → h.get? d = some o → h'.get? d = some o) (n1 : it ≠ c) (n2 : l ≠ c) : P k h' :=
  F.keep _ _ _ p fun d o q => by
    rcases q with rfl | rfl
    · exact e _ o n1
    · exact e _ o n2
theorem zipn_item {Q : Value → Shared → Prop} (F1 : Walked prog w i1 l1 xs P1) (F2 : Walked prog w i2 l2 ys P2) (D : ZipApart z TI TO i1 i2 l1 l2) (hz : IsZip s.heap z TI TO .none) (hTI : IsPair s.heap TI (.ref i1) (.ref i2)) (hTO : IsPair s.heap TO a b)
    (h1 : P1 k s.heap) (h2 : P2 k s.heap) (hx : xs[k]? = some x) (hy : ys[k]? = some y)
    (hQ : ∀ h', IsZip h' z TI TO (rawInt s.heap.objs.size) → IsPair h' TO x y → P1 (k + 1) h' → P2 (k + 1) h' → IsPair h' s.heap.objs.size x y → h'.objs.size = s.heap.objs.size + 1 → OffZip z TO i1 i2 s.heap h' → Q (.ref s.heap.objs.size) { s with heap := h' }) :
    wpAny (model prog w) A (Builtin.«zip.__next__» ⟨[.ref z], []⟩) (fun fin s' => ∃ v, fin = .done (.ret v) ∧ Q v s') E s := by
  -- the flags, the pair of iterators, the pair handed out last
  show wpAny _ _ (field (.ref z) 2 >>= _) _ _ _
  refine wpAny_bind (wpAny_field hz rfl (x := .bool false) rfl (wpAny_bind (wpAny_field hz rfl (x := .ref TI) rfl (wpAny_bind (wpAny_seqItems hTI rfl (wpAny_bind ?_))))))
  unfold Builtin.SmallTypes.ownedTupleIsFree
  refine wpAny_bind (wpAny_field hz rfl (x := .none) rfl (wpAny_pure ?_))
  simp only [if_true]
  refine wpAny_bind (wpAny_rule (wpAny_bind (wpAny_field hz rfl (x := .ref TO) rfl (wpAny_bind (wpAny_setField_rec hz (by simp) fun ha za sa => wpAny_bind ?_)))))
  replace za : IsZip ha z TI TO .ellipsis := za
  simp only [List.zipIdx_cons, List.zipIdx_nil, List.forIn_cons, List.forIn_nil]
  -- the first one's item
  refine wpAny_bind (wpAny_bind (wpAny_onRaise ?_))
  show wpAny _ _ (Builtin.SmallTypes.nextOf (.ref i1) >>= _) _ _ _
  refine wpAny_bind (F1.item (s := { s with heap := ha }) (F1.off h1 sa.extBut D.i1z D.l1z) hx fun hb p1 sb => wpAny_pure ?_)
  have tb : IsPair hb TO a b := sb.extBut _ _ D.TOi1 (sa.extBut _ _ D.TOz hTO)
  refine wpAny_bind (wpAny_seqItems tb rfl (wpAny_bind (wpAny_updateSeq_pair tb fun hc tc sc => wpAny_bind (wpAny_letGo (wpAny_pure ?_)))))
  replace tc : IsPair hc TO x b := tc
  -- the second one's
  refine wpAny_bind (wpAny_bind (wpAny_onRaise ?_))
  show wpAny _ _ (Builtin.SmallTypes.nextOf (.ref i2) >>= _) _ _ _
  have q2 : P2 k hc := F2.off (F2.off (F2.off h2 sa.extBut D.i2z D.l2z) sb.extBut D.i12.symm D.l2i1) sc.extBut D.TOi2.symm D.l2TO
  refine wpAny_bind (F2.item (s := { s with heap := hc }) q2 hy fun hd p2 sd => wpAny_pure ?_)
  have td : IsPair hd TO x b := sd.extBut _ _ D.TOi2 tc
  refine wpAny_bind (wpAny_seqItems td rfl (wpAny_bind (wpAny_updateSeq_pair td fun he te se => wpAny_bind (wpAny_letGo (wpAny_pure (wpAny_pure ?_))))))
  replace te : IsPair he TO x y := te
  -- the new pair
  refine wpAny_bind (wpAny_seqItems te rfl (wpAny_bind (wpAny_newTuple ?_)))
  have hsz : he.objs.size = s.heap.objs.size := by rw [se.1, sd.1, sc.1, sb.1, sa.1]
  have ze : IsZip he z TI TO .ellipsis := se.extBut _ _ D.TOz.symm (sd.extBut _ _ D.i2z.symm (sc.extBut _ _ D.TOz.symm (sb.extBut _ _ D.i1z.symm za)))
  have off : OffZip z TO i1 i2 s.heap he := fun c o c1 c2 c3 c4 e => se.extBut _ _ c2 (sd.extBut _ _ c4 (sc.extBut _ _ c2 (sb.extBut _ _ c3 (sa.extBut _ _ c1 e))))
  have r1 : P1 (k + 1) he := F1.off (F1.off (F1.off p1 sc.extBut D.TOi1.symm D.l1TO) sd.extBut D.i12 D.l1i2) se.extBut D.TOi1.symm D.l1TO
  have r2 : P2 (k + 1) he := F2.off p2 se.extBut D.TOi2.symm D.l2TO
  have zlt : z < he.objs.size := Heap.lt_size ze
  show wpAny _ _ (Builtin.SmallTypes.ownedTupleHandOut (.ref z) (.ref he.objs.size) >>= _) _ _ _
  refine wpAny_bind ?_
  unfold Builtin.SmallTypes.ownedTupleHandOut
  have zf : IsZip (he.push { cls := .type "tuple", data := .seq #[x, y] }) z TI TO .ellipsis := Heap.get?_push_of_some _ ze
  refine wpAny_bind (wpAny_setField_rec zf (by simp) fun hg zg sg => ?_)
  replace zg : IsZip hg z TI TO (rawInt he.objs.size) := zg
  refine wpAny_setField_rec zg (by simp) fun hh zh sh => ?_
  replace zh : IsZip hh z TI TO (rawInt he.objs.size) := zh
  have up : ∀ c o, c ≠ z → he.get? c = some o → hh.get? c = some o := fun c o n e => sh.extBut _ _ n (sg.extBut _ _ n (Heap.get?_push_of_some _ e))
  have nw : IsPair hh he.objs.size x y := sh.extBut _ _ (Nat.ne_of_gt zlt) (sg.extBut _ _ (Nat.ne_of_gt zlt) (Heap.get?_push_size _ rfl))
  have sz2 : hh.objs.size = he.objs.size + 1 := by rw [sh.1, sg.1, Heap.size_push]
  rw [hsz] at zh nw sz2
  refine wpAny_pure ⟨_, rfl, ?_⟩
  show Q (.ref he.objs.size) _
  rw [hsz]
  exact hQ hh zh (up _ _ D.TOz te) (F1.off r1 (fun c o n e => up c o n e) D.i1z D.l1z) (F2.off r2 (fun c o n e => up c o n e) D.i2z D.l2z) nw sz2 fun c o c1 c2 c3 c4 e => up c o c1 (off c o c1 c2 c3 c4 e)
theorem zipn_stop {Q : Fin → Shared → Prop} (hh : A.handled = none) (F1 : Walked prog w i1 l1 xs P1) (F2 : Walked prog w i2 l2 ys P2) (D : ZipApart z TI TO i1 i2 l1 l2) (hz : IsZip s.heap z TI TO .none) (hTI : IsPair s.heap TI (.ref i1) (.ref i2)) (hTO : IsPair s.heap TO a b)
    (h1 : P1 k s.heap) (h2 : P2 k s.heap) (hend : xs[k]? = none ∨ ys[k]? = none)
    (hE : ∀ h' e, OffZip z TO i1 i2 s.heap h' → (∃ o, h'.get? e = some o ∧ o.cls = .type "StopIteration") → E (.ref e) { s with heap := h' }) : wpAny (model prog w) A (Builtin.«zip.__next__» ⟨[.ref z], []⟩) Q E s := by
  show wpAny _ _ (field (.ref z) 2 >>= _) _ _ _
  refine wpAny_bind (wpAny_field hz rfl (x := .bool false) rfl (wpAny_bind (wpAny_field hz rfl (x := .ref TI) rfl (wpAny_bind (wpAny_seqItems hTI rfl (wpAny_bind ?_))))))
  unfold Builtin.SmallTypes.ownedTupleIsFree
  refine wpAny_bind (wpAny_field hz rfl (x := .none) rfl (wpAny_pure ?_))
  simp only [if_true]
  refine wpAny_bind (wpAny_rule (wpAny_bind (wpAny_field hz rfl (x := .ref TO) rfl (wpAny_bind (wpAny_setField_rec hz (by simp) fun ha za sa => wpAny_bind ?_)))))
  replace za : IsZip ha z TI TO .ellipsis := za
  simp only [List.zipIdx_cons, List.zipIdx_nil, List.forIn_cons, List.forIn_nil]
  refine wpAny_bind (wpAny_bind (wpAny_onRaise ?_))
  show wpAny _ _ (Builtin.SmallTypes.nextOf (.ref i1) >>= _) _ _ _
  have q1 : P1 k ha := F1.off h1 sa.extBut D.i1z D.l1z
  -- behind a stop the zip is marked once more
  have out : ∀ (hm : Heap) (e : Addr), IsZip hm z TI TO .ellipsis → OffZip z TO i1 i2 s.heap hm → (∃ o, hm.get? e = some o ∧ o.cls = .type "StopIteration") → ∀ hn, Heap.SameBut z hm hn → E (.ref e) { s with heap := hn } := fun hm e zm off ⟨o, ho, hc⟩ hn sn => by
    have ne : e ≠ z := fun q => by
      subst q
      rw [zm] at ho
      cases ho
      simp at hc
    exact hE hn e (fun c o' c1 c2 c3 c4 q => sn.extBut _ _ c1 (off c o' c1 c2 c3 c4 q)) ⟨o, sn.extBut _ _ ne ho, hc⟩
  cases hx : xs[k]? with
  | none =>
    refine wpAny_bind (F1.stop (s := { s with heap := ha }) hh q1 hx fun hb e sb ex => ?_)
    have zb : IsZip hb z TI TO .ellipsis := sb _ _ D.i1z.symm za
    exact wpAny_setField_rec zb (by simp) fun hc _ sc => out hb e zb (fun c o c1 _ c3 _ q => sb _ _ c3 (sa.extBut _ _ c1 q)) ex hc sc
  | some x =>
    have hy : ys[k]? = none := hend.resolve_left (by rw [hx]; exact fun q => nomatch q)
    refine wpAny_bind (F1.item (s := { s with heap := ha }) q1 hx fun hb p1 sb => wpAny_pure ?_)
    have tb : IsPair hb TO a b := sb.extBut _ _ D.TOi1 (sa.extBut _ _ D.TOz hTO)
    refine wpAny_bind (wpAny_seqItems tb rfl (wpAny_bind (wpAny_updateSeq_pair tb fun hc tc sc => wpAny_bind (wpAny_letGo (wpAny_pure ?_)))))
    refine wpAny_bind (wpAny_bind (wpAny_onRaise ?_))
    show wpAny _ _ (Builtin.SmallTypes.nextOf (.ref i2) >>= _) _ _ _
    have q2 : P2 k hc := F2.off (F2.off (F2.off h2 sa.extBut D.i2z D.l2z) sb.extBut D.i12.symm D.l2i1) sc.extBut D.TOi2.symm D.l2TO
    refine wpAny_bind (F2.stop (s := { s with heap := hc }) hh q2 hy fun hd e sd ex => ?_)
    have zd : IsZip hd z TI TO .ellipsis := sd _ _ D.i2z.symm (sc.extBut _ _ D.TOz.symm (sb.extBut _ _ D.i1z.symm za))
    exact wpAny_setField_rec zd (by simp) fun hf _ sf => out hd e zd (fun c o c1 c2 c3 c4 q => sd _ _ c4 (sc.extBut _ _ c2 (sb.extBut _ _ c3 (sa.extBut _ _ c1 q)))) ex hf sf
theorem next_item {Q : Option Value → Shared → Prop} (F1 : Walked prog w i1 l1 xs P1) (F2 : Walked prog w i2 l2 ys P2) (D : ZipApart z TI TO i1 i2 l1 l2) (hz : IsZip s.heap z TI TO .none) (hTI : IsPair s.heap TI (.ref i1) (.ref i2)) (hTO : IsPair s.heap TO a b)
    (h1 : P1 k s.heap) (h2 : P2 k s.heap) (hx : xs[k]? = some x) (hy : ys[k]? = some y)
    (hQ : ∀ h', IsZip h' z TI TO (rawInt s.heap.objs.size) → IsPair h' TO x y → P1 (k + 1) h' → P2 (k + 1) h' → IsPair h' s.heap.objs.size x y → h'.objs.size = s.heap.objs.size + 1 → OffZip z TO i1 i2 s.heap h' → Q (some (.ref s.heap.objs.size)) { s with heap := h' }) : wpAny (model prog w) A (pyNext (.ref z)) Q E s := by
  have ty : s.TypeIs (.ref z) "zip" := ⟨_, hz, rfl⟩
  unfold pyNext
  refine wpAny_bind (wpAny_attempt (wpAny_callSpecial?_slot (name := Str.ofString "__next__") ty F.slot_zip_next (wpAny_call_entry F.slot_zip_next ty F.entry_zip_next ?_ (F.args_zip_next_1 _))))
  exact zipn_item F1 F2 D hz hTI hTO h1 h2 hx hy fun h' e1 e2 e3 e4 e5 e6 e7 => wpAny_pure (hQ h' e1 e2 e3 e4 e5 e6 e7)
theorem next_stop {Q : Option Value → Shared → Prop} (hh : A.handled = none) (F1 : Walked prog w i1 l1 xs P1) (F2 : Walked prog w i2 l2 ys P2) (D : ZipApart z TI TO i1 i2 l1 l2) (hz : IsZip s.heap z TI TO .none) (hTI : IsPair s.heap TI (.ref i1) (.ref i2)) (hTO : IsPair s.heap TO a b)
    (h1 : P1 k s.heap) (h2 : P2 k s.heap) (hend : xs[k]? = none ∨ ys[k]? = none) (hQ : ∀ h', OffZip z TO i1 i2 s.heap h' → Q none { s with heap := h' }) : wpAny (model prog w) A (pyNext (.ref z)) Q E s := by
  have ty : s.TypeIs (.ref z) "zip" := ⟨_, hz, rfl⟩
  unfold pyNext
  refine wpAny_bind (wpAny_attempt (wpAny_callSpecial?_slot (name := Str.ofString "__next__") ty F.slot_zip_next (wpAny_call_entry F.slot_zip_next ty F.entry_zip_next (zipn_stop hh F1 F2 D hz hTI hTO h1 h2 hend fun h' e off ex => ?_) (F.args_zip_next_1 _))))
  obtain ⟨o, ho, hc⟩ := ex
  exact wpAny_bind (wpAny_isInstance (T := "StopIteration") (b := true) ⟨o, ho, hc⟩ isSubtype_stop (wpAny_pure (hQ _ off)))
end
/-! ### zip(tuple, list) -/
/-- the heap behind it: both iterators, their pair, the pair to hand out, the zip -/
abbrev zA (h : Heap) (l1 : Addr) : Heap := h.push { cls := .type "tuple_iterator", data := .fields #[.ref l1, .int 0 0] }
abbrev zB (h : Heap) (l1 l2 : Addr) : Heap := (zA h l1).push { cls := .type "list_iterator", data := .fields #[.ref l2, .int 0 0] }
abbrev zC (h : Heap) (l1 l2 : Addr) : Heap := (zB h l1 l2).push { cls := .type "tuple", data := .seq #[.ref h.objs.size, .ref (zA h l1).objs.size] }
abbrev zD (h : Heap) (l1 l2 : Addr) : Heap := (zC h l1 l2).push { cls := .type "tuple", data := .seq #[.none, .none] }
abbrev zE (h : Heap) (l1 l2 : Addr) : Heap := (zD h l1 l2).push { cls := .type "zip", data := .fields #[.none, .bool false, .bool false, .ref (zB h l1 l2).objs.size, .ref (zC h l1 l2).objs.size] }
theorem meets_zipTL (l1 l2 : Addr) (xs ys : Array Value) :
    Meets (Builtin.«zip.__new__» ⟨[.type "zip", .ref l1, .ref l2], []⟩) (fun _ R s => s.heap.IsTuple l1 xs ∧ s.heap.IsList l2 ys ∧ R (.ok (.ret (.ref (zD s.heap l1 l2).objs.size))) { s with heap := zE s.heap l1 l2 }) :=
  .of_wp fun prog w A R s h => by
    obtain ⟨hp, g, d, tk, os⟩ := s
    obtain ⟨hl1, hl2, h⟩ := h
    have hsub := sub_zip
    have e1 : Heap.IsTuple (Shared.heap ⟨hp, g, d, tk, os⟩) l1 xs := hl1
    have e2 : Heap.IsList (Shared.heap ⟨hp.push { cls := .type "tuple_iterator", data := .fields #[.ref l1, .int 0 0] }, g, d, tk, os⟩) l2 ys := Heap.IsList.push hl2 _
    wp_walk using wpAny_pyIter_tuple e1, wpAny_pyIter_list e2
    exact ⟨_, rfl, h⟩
theorem call_zipTL {A : Around} {E : Value → Shared → Prop} {s : Shared} {l1 l2 : Addr} {xs ys : Array Value} {Q : Value → Shared → Prop} (hl1 : s.heap.IsTuple l1 xs) (hl2 : s.heap.IsList l2 ys)
    (h : ∀ h', IsZip h' (s.heap.objs.size + 4) (s.heap.objs.size + 2) (s.heap.objs.size + 3) .none → IsPair h' (s.heap.objs.size + 2) (.ref s.heap.objs.size) (.ref (s.heap.objs.size + 1)) → IsPair h' (s.heap.objs.size + 3) .none .none →
      h'.IsTupleIter s.heap.objs.size l1 0 → h'.IsListIter (s.heap.objs.size + 1) l2 0 → (∀ c o, s.heap.get? c = some o → h'.get? c = some o) → Q (.ref (s.heap.objs.size + 4)) { s with heap := h' }) :
    wpAny (model prog w) A (call (.type "zip") [.ref l1, .ref l2]) Q E s := by
  refine callType_new F.called_zip (by decide) (F.typeCall_zip_2 _ _) (F.newCall_zip_2 _ _) (fun obj => F.args_object_init_3 obj _ _) F.entry_zip_new (meets_zipTL l1 l2 xs ys) ⟨hl1, hl2, ?_⟩
  have nA : (zA s.heap l1).objs.size = s.heap.objs.size + 1 := Heap.size_push ..
  have nB : (zB s.heap l1 l2).objs.size = s.heap.objs.size + 2 := by rw [Heap.size_push, nA]
  have nC : (zC s.heap l1 l2).objs.size = s.heap.objs.size + 3 := by rw [Heap.size_push, nB]
  have nD : (zD s.heap l1 l2).objs.size = s.heap.objs.size + 4 := by rw [Heap.size_push, nC]
  have old : ∀ {h : Heap} {o' : Obj} {c : Addr} {o : Obj}, h.get? c = some o → (h.push o').get? c = some o := fun e => Heap.get?_push_of_some _ e
  have gE : (zE s.heap l1 l2).get? (zD s.heap l1 l2).objs.size = some _ := Heap.get?_push_size _ rfl
  have gD : (zE s.heap l1 l2).get? (zC s.heap l1 l2).objs.size = some _ := old (Heap.get?_push_size _ rfl)
  have gC : (zE s.heap l1 l2).get? (zB s.heap l1 l2).objs.size = some _ := old (old (Heap.get?_push_size _ rfl))
  have gB : (zE s.heap l1 l2).get? (zA s.heap l1).objs.size = some _ := old (old (old (Heap.get?_push_size _ rfl)))
  have gA : (zE s.heap l1 l2).get? s.heap.objs.size = some _ := old (old (old (old (Heap.get?_push_size _ rfl))))
  show _ ∧ _
  rw [nD]
  rw [nD, nB, nC] at gE
  rw [nB, nA] at gC
  rw [nC] at gD
  rw [nA] at gB
  exact ⟨⟨_, gE, rfl⟩, h _ gE gC gD ⟨_, gA, rfl, rfl⟩ ⟨_, gB, rfl, rfl⟩ fun c o e => old (old (old (old (old e))))⟩
/-- the tuple at a beside the list at b as they stand at each turn, the items in new pairs -/
def ItM (K : PySem.W.Frag) (a b : Addr) : It :=
  ⟨fun i H => ∃ (us vs : List V) (x y : V), SqT K H a us ∧ SqL K H b vs ∧ us[i]? = some x ∧ vs[i]? = some y,
    fun i H v H' => ∃ T x y, v = .ref T ∧ H T = none ∧ H' = upd H T (.tup [x, y]) ∧ (∀ us, SqT K H a us → us[i]? = some x) ∧ ∀ vs, SqL K H b vs → vs[i]? = some y,
    fun i H => ∃ us vs : List V, SqT K H a us ∧ SqL K H b vs ∧ (us.length ≤ i ∨ vs.length ≤ i)⟩
theorem five {c z TI TO i1 i2 : Addr} (h : c ∈ [z, TI, TO, i1, i2]) : c = z ∨ c = TI ∨ c = TO ∨ c = i1 ∨ c = i2 := by simpa using h
theorem turn_mix {K : PySem.W.Frag} {elts : List Expr} {kk : Nat} {tpos : Pos} {a b z TI TO i1 i2 : Addr} (D : ZipApart z TI TO i1 i2 a b) :
    Turn prog w K (.Tuple elts kk tpos) (ItM K a b) [z, TI, TO, i1, i2] z (fun i h => IsZip h z TI TO .none ∧ IsPair h TI (.ref i1) (.ref i2) ∧ (∃ x y, IsPair h TO x y) ∧ h.IsTupleIter i1 a i ∧ h.IsListIter i2 b i) where
  mem := List.mem_cons_self ..
  obj := fun i h ⟨hz, hTI, ⟨x, y, hTO⟩, ⟨o1, e1, _, d1⟩, ⟨o2, e2, _, d2⟩⟩ c hc => by
    rcases five hc with rfl | rfl | rfl | rfl | rfl
    · exact ⟨_, hz, fun v q => nomatch q⟩
    · exact ⟨_, hTI, fun v q => nomatch q⟩
    · exact ⟨_, hTO, fun v q => nomatch q⟩
    · exact ⟨o1, e1, fun v q => by rw [d1] at q; cases q⟩
    · exact ⟨o2, e2, fun v q => by rw [d2] at q; cases q⟩
  keep := fun i h h' ⟨hz, hTI, ⟨x, y, hTO⟩, h1, h2⟩ k => ⟨k z (by simp) _ hz, k TI (by simp) _ hTI, ⟨x, y, k TO (by simp) _ hTO⟩, h1.at fun o q => k i1 (by simp) o q, h2.at fun o q => k i2 (by simp) o q⟩
  item := by
    intro X hP hw hK hc i pins s σ H E I hf ⟨hz, hTI, ⟨x0, y0, hTO⟩, h1, h2⟩ ⟨us, vs, x, y, ha, hb, hx, hy⟩
    subst hP hw hK
    obtain ⟨its, rv, pt, _⟩ := I.tuple ha
    obtain ⟨its2, rv2, pl, _⟩ := I.list hb
    obtain ⟨u, hu, ru⟩ := rv.get hx
    obtain ⟨u2, hu2, ru2⟩ := rv2.get hy
    have zl : z < s.heap.objs.size := Heap.lt_size hz
    have low : ∀ c ∈ [z, TI, TO, i1, i2], c < s.heap.objs.size := fun c hc => by
      rcases five hc with rfl | rfl | rfl | rfl | rfl
      · exact zl
      · exact Heap.lt_size hTI
      · exact Heap.lt_size hTO
      · obtain ⟨_, e, _⟩ := h1; exact Heap.lt_size e
      · obtain ⟨_, e, _⟩ := h2; exact Heap.lt_size e
    refine next_item (walked_tup (xs := its.toArray) D.l1i1) (walked_lst (xs := its2.toArray) D.l2i2) D hz hTI hTO ⟨h1, pt⟩ ⟨h2, pl.isList⟩ (x := u) (y := u2) (by simpa using hu) (by simpa using hu2) fun h' z' t' p1 p2 nw _ off => ?_
    refine ⟨_, rfl, wpAny_letOwnedTupleGo_zip (s := { s with heap := h' }) z' fun h2' z2 sb => ?_⟩
    have nw2 : h2'.get? s.heap.objs.size = some { cls := .type "tuple", data := .seq #[u, u2] } := (sb.2 _ (Nat.ne_of_gt zl)).trans nw
    have ok : ObjOk X.prog X.w (upd H s.heap.objs.size (.tup [x, y])) h2' s.heap.objs.size (.tup [x, y]) := ⟨by show 2 ≤ sizeLine; decide, [u, u2], .cons ru (.cons ru2 .nil), ⟨_, nw2, rfl, _, rfl⟩⟩
    have all : OffZip z TO i1 i2 s.heap h2' := fun c o n1 n2 n3 n4 e => (sb.2 c n1).trans (off c o n1 n2 n3 n4 e)
    have I2 := I.turnedNew (t' := s.toks) (ch := [z, TI, TO, i1, i2]) (fun c o hc e => all c o (fun q => hc (by simp [q])) (fun q => hc (by simp [q])) (fun q => hc (by simp [q])) (fun q => hc (by simp [q])) e) hf (Nat.le_refl _) ok
    refine ⟨.ref s.heap.objs.size, _, I2, rfl, ⟨_, x, y, rfl, I.hok.fresh (Nat.le_refl _), rfl, fun l hl => by rw [I.tuple_inj hl ha]; exact hx, fun l hl => by rw [I.list_inj hl hb]; exact hy⟩, ⟨z2, all _ _ D.TIz D.TITO D.TIi1 D.TIi2 hTI, ⟨u, u2, (sb.2 _ D.TOz).trans t'⟩, p1.1.at fun o q => (sb.2 _ D.i1z).trans q, p2.1.at fun o q => (sb.2 _ D.i2z).trans q⟩, fun c hc => ?_⟩
    rw [upd_ne (Nat.ne_of_lt (low c hc))]
    exact (hf c hc).1
  done := by
    intro X hP hw hK hc i pins s σ H E I hf ⟨hz, hTI, ⟨x0, y0, hTO⟩, h1, h2⟩ ⟨us, vs, ha, hb, hend⟩
    subst hP hw hK
    obtain ⟨its, rv, pt, _⟩ := I.tuple ha
    obtain ⟨its2, rv2, pl, _⟩ := I.list hb
    have n1 := rv.length
    have n2 := rv2.length
    have he : its.toArray[i]? = none ∨ its2.toArray[i]? = none := by
      rcases hend with q | q
      · exact .inl (by simp; omega)
      · exact .inr (by simp; omega)
    exact next_stop (I.ok.hd hc) (walked_tup (xs := its.toArray) D.l1i1) (walked_lst (xs := its2.toArray) D.l2i2) D hz hTI hTO ⟨h1, pt⟩ ⟨h2, pl.isList⟩ he fun h' off => ⟨rfl, I.turnedL (t' := s.toks) (ch := [z, TI, TO, i1, i2]) (fun c o hc e => off c o (fun q => hc (by simp [q])) (fun q => hc (by simp [q])) (fun q => hc (by simp [q])) (fun q => hc (by simp [q])) e) hf⟩
  self := fun A i s Q E st h => wpAny_pyIter_zip st.1 h
def iZipM (K : PySem.W.Frag) (ta : TA) : TI := fun σ H R => ta σ H fun vs H1 => ∃ a b us ws, vs = [.ref a, .ref b] ∧ SqT K H1 a us ∧ SqL K H1 b ws ∧ R (ItM K a b) H1
theorem pi_zipM {X : Cx} {e e2 : Expr} {ta : TA} {p pos tpos : Pos} {elts : List Expr} {kk : Nat} (hg : Gl X "zip") (hm : X.mg "zip" = none) (ha : PA X [e, e2] ta) (hs : starEach [e, e2] X.env = (false, eval e X.env) :: starEach [e2] X.env := by rfl) (hpl : (backTo pos (starEach [e2] X.env)).any (·.1) = false := by rfl) :
    PI X (.Tuple elts kk tpos) (.Call (.Name "zip" p) [e, e2] [] pos) (iZipM X.K ta) := by
  refine ⟨fun pins s σ H R I h => Call_ (ld_blt I hg hm PyProof.Rows.boot_zip (PyProof.Rows.callWith_type1 (thn (ha.run pos pins s σ H _ I h) fun us s1 ⟨vs, H1, I1, r1, a, b, xs, ys, ev, qa, qb, q⟩ => ?_) hs hpl))⟩
  subst ev
  cases r1 with
  | cons ra rr =>
    cases rr with
    | cons rb rr =>
      cases rr
      cases ra
      cases rb
      obtain ⟨its, rv, pt, _⟩ := I1.tuple qa
      obtain ⟨its2, rv2, pl, _⟩ := I1.list qb
      obtain ⟨o1, ho1, _⟩ := id pt
      have new : ∀ c ∈ [s1.heap.objs.size + 4, s1.heap.objs.size + 2, s1.heap.objs.size + 3, s1.heap.objs.size, s1.heap.objs.size + 1], FpOk X pins H1 c := fun c hc => by
        have le : s1.heap.objs.size ≤ c := by
          rcases five hc with rfl | rfl | rfl | rfl | rfl
          · exact Nat.le_add_right _ _
          · exact Nat.le_add_right _ _
          · exact Nat.le_add_right _ _
          · exact Nat.le_refl _
          · exact Nat.le_add_right _ _
        exact I1.fpOk le (I1.hok.fresh le)
      refine call_zipTL (xs := its.toArray) (ys := its2.toArray) pt pl.isList fun h' hz hTI hTO h1 h2 keep => wpAny_pyIter_zip hz ?_
      exact ⟨s1.heap.objs.size + 4, _, _, _, H1, rfl, I1.kept (t' := s1.toks) keep, turn_mix (PySem.W.ktu_apart s1.heap.objs.size a b (Heap.lt_size ho1) pl.lt), ⟨hz, hTI, ⟨_, _, hTO⟩, h1, h2⟩, new, q⟩
end
end QD

/-! QD7: methods of texts, lists, dicts; f-strings; static methods; targets; what a loop walks. -/
namespace QD
open PySem PySem.Spec PyProof.Rows L2
section
variable {X : Cx} {L : Pl} {G : Gd} {cf : Nat → List D → Store → Res D}
theorem get_kd {d : Addr} {es : Array DictEntry} {n : Nat} {z : Str} {t : Tok} {r : Option Value} {pins : List (Addr × Obj)} {σ : L2.St} {H : Hp} {s : Shared} {A : Around} {E : Value → Shared → Prop} {Q : Value → Shared → Prop} (D : KDict X.K X.w d es n) (I : Inv X pins σ H s) (e : PySem.W.nsIn X.K d z = some r)
    (h : Q (r.getD .none) { s with toks := s.toks + 1 }) : wpAny (model X.prog X.w) A (call (.builtin "dict.get") [.ref d, .str z t]) Q E s := by
  have m := PySem.W.mapOf_K (prog := X.prog) (w := X.w) I.kIn D.at_ D.lit
  refine call_meetsIn PySem.F.slot_dict_get m.typeIs PySem.F.entry_dict_get (PySem.F.args_dict_get_2 _ _) (meets_dict_get _ d (PySem.strKind_is X.prog X.w z t) D.low) ⟨_, m, ?_⟩
  rw [PySem.W.find_K D.at_ e]
  exact h
theorem si_dget {o e : Expr} {apos cpos : Pos} {co c : C} (E : EnvOk X L G cf) (ho : Sim X L G cf o co) (ha : Sim X L G cf e c)
    (hbase : attributeBase o "get" X.env (eval o X.env) = eval o X.env := by rfl)
    (hfew : ((backTo cpos (starEach [e] X.env)).all (fun x => !x.1) && (backToKw cpos (keywordEach [] X.env)).all (fun x => x.1.isSome)
      && decide ([e].length + ([] : List Keyword).length + (if ([] : List Keyword).isEmpty then 0 else 1) < 30)) = true := by rfl)
    (hline : (apos.endLine == cpos.line) = true := by rfl) (hs : starEach [e] X.env = (false, eval e X.env) :: starEach [] X.env := by rfl) (hplain : (backTo cpos (starEach [] X.env)).any (·.1) = false := by rfl) :
    Sim X L G cf (.Call (.Attribute o "get" apos) [e] [] cpos) (.dget co c) := by
  refine ⟨fun W tk ρ σd σ S H Q r rs h => fun pins s I => ?_⟩
  have h := Res.good_bind (r := evC cf G co σd S) h
  refine wpAny_Call_method_late hbase hfew hline rfl (thn (ho.run W tk ρ σd σ S H (fun v H1 => ∃ ρ1 S1 a, Nx X.K L S H ρ S1 H1 ρ1 ∧ Rp X.K L H1 ρ1 S1.n a v ∧ (match a with
    | .kd i => if (G.kdt i).isSome then (evC cf G c σd S1).bind fun d S2 => match d with
      | .str z => Res.of ((G.kdt i).map fun t : List (Str × D) => (t.lookup z).getD .non) S2
      | _ => .stuck else .stuck
    | _ => .stuck).Good (kV X.K L S H ρ Q) (kX X.K L S H ρ (WE W σ))) r rs (h.imp (fun a S1 g ρ' H' v n p => ⟨ρ', S1, a, n, p, g⟩) fun _ _ _ k => k) pins s I) fun u s1 ⟨v, H1, I1, rv, ρ1, S1, a, n1, p1, g⟩ => ?_)
  split at g
  · rename_i i
    split at g
    case isFalse => exact g.elim
    rename_i hsome
    have g := Res.good_bind g
    cases (show v = .ref (L.kda i) from p1)
    obtain rfl : u = Value.ref (L.kda i) := rv
    have hA := (pa_cons (pE e) pa_nil hs).run cpos pins s1 σ H1 (fun vs H2 => ∃ ρ2 S2 z v2, vs = [v2] ∧ Nx X.K L S1 H1 ρ1 S2 H2 ρ2 ∧ Rp X.K L H2 ρ2 S2.n (.str z) v2 ∧ (Res.of ((G.kdt i).map fun t : List (Str × D) => (t.lookup z).getD .non) S2).Good (kV X.K L S H ρ Q) (kX X.K L S H ρ (WE W σ))) I1
      (ha.run W tk ρ1 σd σ S1 H1 _ n1.r (n1.rs rs) (g.imp (fun d S2 gg ρ2 H2 v2 n2 p2 => by
        split at gg
        · rename_i z
          exact ⟨ρ2, S2, z, v2, rfl, n2, p2, gg⟩
        · exact gg.elim) fun _ _ _ k => k.at n1))
    obtain ⟨tb0, ht0⟩ := Option.isSome_iff_exists.mp hsome
    obtain ⟨⟨es, n, kd, _⟩, _⟩ := E.kd i tb0 ht0
    refine ⟨"dict", "dict.get", PySem.F.plainAttrs_dict, PySem.F.slot_dict_get, PySem.F.type_dict_get, kd_type kd I1, fun a ea => ?_, ?_⟩
    · cases ea
      exact ⟨_, I1.kIn _ _ kd.at_, rfl⟩
    · rw [hs] at hA ⊢
      refine Calls.callWith_builtin (by show (false || (backTo cpos (starEach [] X.env)).any (·.1)) = false; rw [hplain] <;> rfl) (Calls.evalArgs_plain ?_)
      refine thn hA fun us s2 ⟨vs, H2, I2, r2, ρ2, S2, z, v2, ev, n2, p2, gg⟩ => ?_
      subst ev
      cases (show v2 = .str z from p2)
      obtain ⟨u2, rfl, t, rfl⟩ := vals1 r2
      obtain ⟨d, h4, k⟩ := Res.good_of gg
      obtain ⟨tb, ht, rfl⟩ := Option.map_eq_some_iff.mp h4
      obtain ⟨_, hat⟩ := E.kd i tb ht
      rcases hat z with ⟨e5, e6⟩ | ⟨x, uu, vv, e5, e6, e7, e8⟩
      · refine get_kd kd I2 e6 ⟨.non, H2, I2.tok _, rfl, k ρ2 H2 _ (n1.trans n2) ?_⟩
        rw [e5]
        rfl
      · refine get_kd kd I2 e6 ⟨vv, H2, I2.tok _, e7, k ρ2 H2 _ (n1.trans n2) ?_⟩
        rw [e5]
        exact e8 _ _ _
  · exact g.elim
theorem si_app {o e : Expr} {apos cpos : Pos} {co c : C} (ho : Sim X L G cf o co) (ha : Sim X L G cf e c)
    (hbase : attributeBase o "append" X.env (eval o X.env) = eval o X.env := by rfl)
    (hfew : ((backTo cpos (starEach [e] X.env)).all (fun x => !x.1) && (backToKw cpos (keywordEach [] X.env)).all (fun x => x.1.isSome)
      && decide ([e].length + ([] : List Keyword).length + (if ([] : List Keyword).isEmpty then 0 else 1) < 30)) = true := by rfl)
    (hline : (apos.endLine == cpos.line) = true := by rfl) (hs : starEach [e] X.env = (false, eval e X.env) :: starEach [] X.env := by rfl) (hplain : (backTo cpos (starEach [] X.env)).any (·.1) = false := by rfl) :
    Sim X L G cf (.Call (.Attribute o "append" apos) [e] [] cpos) (.app co c) := by
  refine ⟨fun W tk ρ σd σ S H Q r rs h => ?_⟩
  have h := Res.good_bind (r := evC cf G co σd S) h
  refine ofE (pe_bm PySem.F.plainAttrs_list PySem.F.slot_list_append PySem.F.type_list_append mt_append (pE o) (pa_cons (pE e) pa_nil hs) hbase hfew hline hs hplain) (ho.run W tk ρ σd σ S H _ r rs (h.imp (fun a S1 g ρ' H' v n q => ?_) fun _ _ _ k => k))
  split at g
  · rename_i i
    split at g
    · rename_i w0 l0 e0
      have g := Res.good_bind g
      obtain ⟨hi, rfl⟩ := (show i < S1.n ∧ v = .ref (ρ' i) from q)
      obtain ⟨us0, s0, _⟩ := cell_lst n.r e0
      refine ⟨.inl ⟨rfl, us0, s0⟩, ?_⟩
      refine ha.run W tk ρ' σd σ S1 H' _ n.r (n.rs rs) (g.imp (fun y S2 gg ρ2 H2 v2 n2 q2 => ?_) fun _ _ _ k => k.at n)
      split at gg
      · rename_i l e3
        split at gg
        · rename_i hl
          obtain ⟨us, s, p⟩ := n2.r.cell i _ e3
          have hagree : ρ2 i = ρ' i := n2.a i hi
          rw [hagree] at s
          refine ⟨ρ' i, us, v2, rfl, rfl, s, by rw [← p.length]; exact hl, ?_⟩
          have n3 := n2.r.write (o := .lst (us ++ [v2])) (c := .lst true (l ++ [y])) e3 True.intro True.intro (by
            rw [hagree]
            refine ⟨us ++ [v2], upd_same, ?_⟩
            have t : TM H2 (upd H2 (ρ' i) (.lst (us ++ [v2]))) := TM.wr s fun z => z
            exact (p.append (RpL.cons q2 RpL.nil)).mono t (Agree.refl _ _) (Nat.le_refl _))
          rw [hagree] at n3
          exact gg ρ2 _ _ ((n.trans n2).trans n3) rfl
        · exact gg.elim
      · exact gg.elim
    · exact g.elim
  · exact g.elim
/-- texts of a list -/
theorem txts_v {K : PySem.W.Frag} {H : Hp} {ρ : Nat → Addr} {n : Nat} : ∀ {l : List D} {ys : List Str} {vs : List V}, txts l = some ys → RpL K L H ρ n l vs → vs = ys.map V.str
  | [], ys, vs, h, r => by cases h; exact r
  | x :: t, ys, vs, h, r => by
    obtain ⟨v, u, rfl, h1, h2⟩ := r
    cases x with
    | str b =>
      obtain ⟨cs, h3, rfl⟩ := Option.map_eq_some_iff.mp (show (txts t).map (b :: ·) = some ys from h)
      cases (show v = .str b from h1)
      rw [txts_v h3 h2]
      rfl
    | _ => cases h
theorem si_join {o e : Expr} {apos pos : Pos} {co c : C} (ho : Sim X L G cf o co) (ha : Sim X L G cf e c) (hs : starEach [e] X.env = [(false, eval e X.env)] := by rfl) (hbase : attributeBase o "join" X.env (eval o X.env) = eval o X.env := by rfl) (hline : (apos.endLine == pos.line) = true := by rfl) :
    Sim X L G cf (.Call (.Attribute o "join" apos) [e] [] pos) (.join co c) := by
  refine ⟨fun W tk ρ σd σ S H Q r rs h => ?_⟩
  have h := Res.good_bind (r := evC cf G co σd S) h
  refine ofE (pe_join (pE o) (pE e) hs hbase hline) (ho.run W tk ρ σd σ S H _ r rs (h.imp (fun a S1 g ρ' H' v n q => ?_) fun _ _ _ k => k))
  split at g
  · rename_i z
    have g := Res.good_bind g
    cases (show v = .str z from q)
    refine ⟨⟨z, rfl⟩, ha.run W tk ρ' σd σ S1 H' _ n.r (n.rs rs) (g.imp (fun y S2 gg ρ2 H2 v2 n2 q2 => ?_) fun _ _ _ k => k.at n)⟩
    split at gg
    · rename_i i
      split at gg
      · rename_i w l el
        obtain ⟨ys, e1, gg⟩ := Res.good_of (Res.good_bind gg)
        split at gg
        · rename_i hl
          obtain ⟨_, rfl⟩ := (show i < S2.n ∧ v2 = .ref (ρ2 i) from q2)
          obtain ⟨us, s, p⟩ := cell_lst n2.r el
          cases txts_v e1 p
          exact ⟨z, _, ys, rfl, rfl, .inl s, hl, gg ρ2 H2 _ (n.trans n2) rfl⟩
        · exact gg.elim
      · exact gg.elim
    · exact gg.elim
  · exact g.elim

/-! ### f-strings -/
structure SimF (X : Cx) (L : Pl) (G : Gd) (cf : Nat → List D → Store → Res D) (es : List Expr) (fs : Fs) : Prop where
  run : ∃ ts : List TE, PJ X es ts ∧ ∀ (W : WX) (_ : Takes X W) (ρ : Nat → Addr) (σd : Sl) (σ : L2.St) (S : Store) (H : Hp) (acc : Str) (Q : Str → Hp → Prop), Rel X.K L H ρ S → RX X L G H ρ S.n σd σ → acc.length ≤ sizeLine →
    (evF cf G fs acc σd S).Good (fun z S' => ∀ ρ' H', Nx X.K L S H ρ S' H' ρ' → Q z H') (kX X.K L S H ρ (WE W σ)) → tJs ts acc σ H Q
theorem sf_nil : SimF X L G cf [] .nil := ⟨⟨[], .nil, fun W tk ρ σd σ S H acc Q r rs hz h => h ρ H (Nx.refl r)⟩⟩
theorem addS_some {acc y z : Str} (h : addS acc y = some z) : z = acc ++ y ∧ (acc ++ y).length ≤ sizeLine := by
  unfold addS at h
  split at h
  · cases h; exact ⟨rfl, by assumption⟩
  · cases h
theorem sf_lit {x : Str} {j : Nat} {p : Pos} {es : List Expr} {fs : Fs} (hr : SimF X L G cf es fs) : SimF X L G cf (.Constant (.str x) j p :: es) (.lit x fs) := by
  obtain ⟨ts, pj, run⟩ := hr.run
  refine ⟨⟨_, .cons pe_str pj, fun W tk ρ σd σ S H acc Q r rs hz h => ?_⟩⟩
  obtain ⟨z, e, g⟩ := Res.good_of (Res.good_bind (r := Res.of (addS acc x) S) h)
  obtain ⟨rfl, hl⟩ := addS_some e
  exact ⟨x, rfl, hl, run W tk ρ σd σ S H (acc ++ x) Q r rs hl g⟩
theorem sf_val {e : Expr} {p : Pos} {c : C} {es : List Expr} {fs : Fs} (ha : Sim X L G cf e c) (hr : SimF X L G cf es fs) : SimF X L G cf (.FormattedValue e (-1) none p :: es) (.val c fs) := by
  obtain ⟨ts, pj, run⟩ := hr.run
  refine ⟨⟨_, .cons (pe_fmt (pE e)) pj, fun W tk ρ σd σ S H acc Q r rs hz h => ?_⟩⟩
  have h := Res.good_bind (r := evC cf G c σd S) h
  refine ha.run W tk ρ σd σ S H _ r rs (h.imp (fun d S1 g ρ' H' v n q => ?_) fun _ _ _ k => k)
  obtain ⟨z, e1, g⟩ := Res.good_of (Res.good_bind g)
  obtain ⟨y, e2, e3⟩ := Option.bind_eq_some_iff.mp e1
  obtain ⟨rfl, hl⟩ := addS_some e3
  have fin : tJs ts (acc ++ y) σ H' Q := run W tk ρ' σd σ S1 H' (acc ++ y) Q n.r (n.rs rs) hl (g.imp (fun z S2 k ρ2 H2 n2 => k ρ2 H2 (n.trans n2)) fun _ _ _ k => k.at n)
  cases d with
  | str w =>
    cases (show v = .str w from q)
    have e4 : (if w.length ≤ sizeLine then some w else none) = some y := e2
    split at e4
    · cases e4
      exact .inl ⟨y, rfl, by assumption, y, rfl, hl, fin⟩
    · cases e4
  | int i =>
    cases (show v = .int i from q)
    have e4 : (if i.natAbs.log2 < 1920 then some (toString i : Str) else none) = some y := e2
    split at e4
    · cases e4
      exact .inr ⟨i, rfl, by assumption, _, rfl, hl, fin⟩
    · cases e4
  | _ => cases e2
theorem sf_rep {e : Expr} {p : Pos} {c : C} {es : List Expr} {fs : Fs} (ha : Sim X L G cf e c) (hr : SimF X L G cf es fs) : SimF X L G cf (.FormattedValue e 114 none p :: es) (.rep c fs) := by
  obtain ⟨ts, pj, run⟩ := hr.run
  refine ⟨⟨_, .cons (pe_fmtR (pE e)) pj, fun W tk ρ σd σ S H acc Q r rs hz h => ?_⟩⟩
  have h := Res.good_bind (r := evC cf G c σd S) h
  refine ha.run W tk ρ σd σ S H _ r rs (h.imp (fun d S1 g ρ' H' v n q => ?_) fun _ _ _ k => k)
  obtain ⟨z, e1, g⟩ := Res.good_of (Res.good_bind g)
  obtain ⟨y, e2, e3⟩ := Option.bind_eq_some_iff.mp e1
  obtain ⟨rfl, hl⟩ := addS_some e3
  have fin : tJs ts (acc ++ y) σ H' Q := run W tk ρ' σd σ S1 H' (acc ++ y) Q n.r (n.rs rs) hl (g.imp (fun z S2 k ρ2 H2 n2 => k ρ2 H2 (n.trans n2)) fun _ _ _ k => k.at n)
  cases d with
  | str w =>
    cases (show v = .str w from q)
    have e4 : (if (reprText w).length ≤ sizeLine then some (reprText w) else none) = some y := e2
    split at e4
    · cases e4
      exact .inl ⟨w, rfl, by assumption, _, rfl, hl, fin⟩
    · cases e4
  | int i =>
    cases (show v = .int i from q)
    have e4 : (if i.natAbs.log2 < 1920 then some (toString i : Str) else none) = some y := e2
    split at e4
    · cases e4
      exact .inr ⟨i, rfl, by assumption, _, rfl, hl, fin⟩
    · cases e4
  | _ => cases e2
theorem si_fstr {v1 v2 : Expr} {rest : List Expr} {fs : Fs} {pos : Pos} (hf : SimF X L G cf (v1 :: v2 :: rest) fs) : Sim X L G cf (.JoinedStr (v1 :: v2 :: rest) pos) (.fstr fs) := by
  obtain ⟨ts, pj, run⟩ := hf.run
  refine ⟨fun W tk ρ σd σ S H Q r rs h => ofE (pe_joined pj) (run W tk ρ σd σ S H Str.empty _ r rs (Nat.zero_le _) ?_)⟩
  exact (Res.good_bind (r := evF cf G fs Str.empty σd S) h).imp (fun z S' k ρ' H' n => k ρ' H' _ n rfl) fun _ _ _ k => k

/-! ### static methods -/
structure StcOk (X : Cx) (L : Pl) (cf : Nat → List D → Store → Res D) (x m : Str) (f n : Nat) (sh : List Src) : Prop where
  ex : ∃ (c k : Nat) (fa p : Addr) (fd : FuncData) (ps : List Str) (j : Nat) (ds : List Value) (dvs : List V) (dl : List D) (mc : Value) (rest : List Value), FnAt X L cf f k fa fd ps j ∧ X.mg x = some (.ref (L.cla c)) ∧
    PySem.W.specialIn X.K (.ref (L.cla c)) "__getattribute__" = some (some (.builtin "type.__getattribute__")) ∧ PySem.W.typeIn X.K (.ref (L.cla c)) = some mc ∧ PySem.W.readsIn X.K (L.cla c) mc = true ∧
    PySem.W.findCls X.K (.ref (L.cla c)) mc m = some (.get (.builtin "staticmethod.__get__") (.ref p) .none (.ref (L.cla c))) ∧ PySem.W.recIn X.K p "staticmethod" = some (.ref fa :: rest) ∧ PySem.W.handedIn (.ref fa) = true ∧
    PySem.W.keepIn X.K (.ref fa) = true ∧ Binds X.K fd ps ds ∧ Vals dvs ds ∧ n + dvs.length = k ∧ (∀ as : List D, as.length = n → srcs as sh = some (as ++ dl)) ∧ ∀ H ρ m, RpL X.K L H ρ m dl dvs
theorem si_stc0 {x m : Str} {f : Nat} {sh : List Src} {p apos pos : Pos} {pl : Sem Bool} (hc : StcOk X L cf x m f 0 sh) (hg : Gl X x) (hdb : (x == ("__debug__" : Str)) = false := by decide)
    (ht : eval (.Call (.Attribute (.Name x p) m apos) [] [] pos) X.env = (do
      let ov ← eval (.Name x p) X.env
      standAt apos.atName
      let (f, first) ← holding [ov] (getMethod ov m pl)
      callWith pos f first (backTo pos (starEach [] X.env)) (backToKw pos (keywordEach [] X.env))) := by rfl) : Sim X L G cf (.Call (.Attribute (.Name x p) m apos) [] [] pos) (.stc f sh .nil) := by
  refine ⟨fun W tk ρ σd σ S H Q r rs h => fun pins s I => ?_⟩
  obtain ⟨c, kk, fa, pa, fd, ps, j, dsv, dvs, dl, mc, rest, F, hm, g1, g2, g3, g4, g5, g6, hk, hb, hd, hl, hs, hdl⟩ := hc.ex
  obtain ⟨as, e3, g⟩ := Res.good_of (Res.good_bind (r := Res.of (srcs [] sh) S) h)
  have e4 := hs [] rfl
  rw [e3] at e4
  cases e4
  obtain ⟨mm, hF⟩ := I.fr
  refine PySem.W.methodCall_KW (pl := pl) (ld_glob I hg hm ?_ hdb) ht
  refine PySem.W.method_of_cls hF I.ok.mod.kin g1 (PySem.W.cls_sm hF I.ok.mod.kin g2 g3 g4 g5 g6 ?_)
  have I2 := I.tok (s.toks + 1)
  refine PySem.W.callWith_K0 I2.kIn hk (run_fnSD (us := []) (vs := []) F.ok (F.room.mono (by omega)) hb hd (pass tk σ) I2 .nil ?_)
  exact ⟨ρ, S, dl, by rw [List.nil_append]; omega, r, hdl _ _ _, g⟩

/-! ### targets -/
structure SimG (X : Cx) (L : Pl) (tg : Expr) (one : Bool) (is : List Nat) : Prop where
  run : ∀ (ρ : Nat → Addr) (σd : Sl) (σ : L2.St) (S : Store) (H : Hp) (d : D) (v : V) (σd' : Sl) (Q : L2.St → Hp → Prop), Rel X.K L H ρ S → RS X.K L H ρ S.n σd σ → Rp X.K L H ρ S.n d v → bindT S one is σd d = some σd' →
    (∀ σ', RS X.K L H ρ S.n σd' σ' → (∀ vs : List Nat, (∀ i ∈ is, i ∈ vs) → L2.wipe σ' vs = L2.wipe σ vs) → Q σ' H) → wG X tg v σ H Q
theorem wipe_get : ∀ (vs : List Nat) (σ : L2.St) (j : Nat), (L2.wipe σ vs)[j]? = if j ∈ vs then (σ[j]?).map fun _ => none else σ[j]?
  | [], σ, j => by simp [L2.wipe]
  | v :: vs, σ, j => by
    show ((L2.wipe σ vs).set v none)[j]? = _
    rw [List.getElem?_set, wipe_get vs σ j]
    by_cases e : v = j
    · subst e
      rw [if_pos rfl, if_pos (List.mem_cons_self ..), L2.wipe_length]
      split
      · rename_i hl
        rw [List.getElem?_eq_getElem hl]
        rfl
      · rename_i hl
        rw [List.getElem?_eq_none (by omega)]
        rfl
    · rw [if_neg e]
      have : (j ∈ v :: vs) ↔ j ∈ vs := ⟨fun h => (List.mem_cons.mp h).resolve_left fun z => e z.symm, List.mem_cons_of_mem _⟩
      simp only [this]
theorem wipe_set {σ : L2.St} {vs : List Nat} {i : Nat} {u : Option V} (h : i ∈ vs) : L2.wipe (σ.set i u) vs = L2.wipe σ vs := by
  apply List.ext_getElem?
  intro j
  rw [wipe_get, wipe_get]
  by_cases e : j ∈ vs
  · rw [if_pos e, if_pos e, List.getElem?_set]
    split
    · rename_i z
      subst z
      split
      · rename_i hl
        rw [List.getElem?_eq_getElem hl]
        rfl
      · rename_i hl
        rw [List.getElem?_eq_none (by omega)] <;> rfl
    · rfl
  · rw [if_neg e, if_neg e, List.getElem?_set, if_neg]
    intro z
    exact e (z ▸ h)
theorem wipe_wipe {σ : L2.St} {vs : List Nat} : L2.wipe (L2.wipe σ vs) vs = L2.wipe σ vs := by
  apply List.ext_getElem?
  intro j
  rw [wipe_get, wipe_get]
  by_cases e : j ∈ vs
  · rw [if_pos e, if_pos e]
    cases σ[j]? <;> rfl
  · rw [if_neg e, if_neg e]
theorem sg_name {i : Nat} {x : Str} {pos : Pos} (hN : X.N.Nodup) (hi : X.N[i]? = some x) (hx : Loc X.env.scope x) (hf : X.fn x = true ∨ X.env.scope.names.lookup x = some .local) : SimG X L (.Name x pos) true [i] := by
  refine ⟨fun ρ σd σ S H d v σd' Q r rs p h k => ?_⟩
  cases (show some (σd.set i (some d)) = some σd' from h)
  exact fun pins s u I rv => (pg_name hN hi hx hf).run pins s σ H v u Q I rv (k _ (rs.set i p) fun vs hv => wipe_set (hv i (List.mem_cons_self ..)))
/-- names, one behind another -/
structure SimGs (X : Cx) (L : Pl) (tgs : List Expr) (is : List Nat) : Prop where
  run : ∃ t : TGs, PGs X tgs t ∧ ∀ (ρ : Nat → Addr) (σd : Sl) (σ : L2.St) (n : Nat) (H : Hp) (ds : List D) (vs : List V) (σd' : Sl) (Q : L2.St → Hp → Prop), RS X.K L H ρ n σd σ → RpL X.K L H ρ n ds vs → setAll σd is ds = some σd' →
    (∀ σ', RS X.K L H ρ n σd' σ' → (∀ ws : List Nat, (∀ i ∈ is, i ∈ ws) → L2.wipe σ' ws = L2.wipe σ ws) → Q σ' H) → t vs σ H Q
theorem sgs_nil : SimGs X L [] [] := ⟨⟨gNil, pgs_nil, fun ρ σd σ n H ds vs σd' Q rs p h k => by
  cases ds with
  | nil =>
    cases h
    cases (show vs = [] from p)
    exact ⟨rfl, k σ rs fun _ _ => rfl⟩
  | cons _ _ => cases h⟩⟩
theorem sgs_cons {i : Nat} {x : Str} {pos : Pos} {es : List Expr} {is : List Nat} (hN : X.N.Nodup) (hi : X.N[i]? = some x) (hx : Loc X.env.scope x) (hf : X.fn x = true ∨ X.env.scope.names.lookup x = some .local) (hr : SimGs X L es is)
    (hs : (assignEach (.Name x pos :: es) X.env).map (·.2) = assign (.Name x pos) X.env :: (assignEach es X.env).map (·.2) := by rfl) : SimGs X L (.Name x pos :: es) (i :: is) := by
  obtain ⟨t, pg, run⟩ := hr.run
  refine ⟨⟨_, pgs_cons (pg_name hN hi hx hf) pg hs, fun ρ σd σ n H ds vs σd' Q rs p h k => ?_⟩⟩
  cases ds with
  | nil => cases h
  | cons d ds =>
    obtain ⟨v, us, rfl, h1, h2⟩ := p
    refine ⟨v, us, rfl, run ρ (σd.set i (some d)) _ n H ds us σd' Q (rs.set i h1) h2 h fun σ' rs' hw => k σ' rs' fun ws hws => ?_⟩
    rw [hw ws fun j hj => hws j (List.mem_cons_of_mem _ hj), wipe_set (hws i (List.mem_cons_self ..))]
theorem setAll_len : ∀ {σ σ' : Sl} {is : List Nat} {ds : List D}, setAll σ is ds = some σ' → ds.length = is.length
  | _, _, [], [], _ => rfl
  | _, _, [], _ :: _, h => by cases h
  | _, _, _ :: _, [], h => by cases h
  | σ, σ', i :: is, d :: ds, h => congrArg Nat.succ (setAll_len (σ := σ.set i (some d)) (σ' := σ') (is := is) (ds := ds) h)
theorem sg_tup {es : List Expr} {k : Nat} {pos : Pos} {is : List Nat} (hc : X.calm = true) (hr : SimGs X L es is) (hn : (assignEach es X.env).length = is.length := by rfl) (hst : (assignEach es X.env).findIdx? (·.1) = none := by rfl) : SimG X L (.Tuple es k pos) false is := by
  obtain ⟨t, pg, run⟩ := hr.run
  refine ⟨fun ρ σd σ S H d v σd' Q r rs p h kk => ?_⟩
  cases d with
  | tup l =>
    obtain ⟨a, us, rfl, s, q⟩ := (show ∃ a vs, v = .ref a ∧ SqT X.K H a vs ∧ RpL X.K L H ρ S.n l vs from p)
    have hl := setAll_len (show setAll σd is l = some σd' from h)
    refine fun pins sh u I rv => (pg_tup (n := is.length) hc pg hn hst).run pins sh σ H _ u Q I rv ⟨a, us, rfl, s, by rw [← q.length, hl], ?_⟩
    exact run ρ σd σ S.n H l us σd' Q rs q h kk
  | ref i =>
    obtain ⟨_, rfl⟩ := (show i < S.n ∧ v = .ref (ρ i) from p)
    have h1 : (match S.get i with | some (.lst _ l) => setAll σd is l | _ => none) = some σd' := h
    split at h1
    · rename_i w l el
      obtain ⟨us, s, q⟩ := cell_lst r el
      have hl := setAll_len h1
      refine fun pins sh u I rv => (pg_unl (n := is.length) hc pg hn hst).run pins sh σ H _ u Q I rv ⟨_, us, rfl, s, by rw [← q.length, hl], ?_⟩
      exact run ρ σd σ S.n H l us σd' Q rs q h1 kk
    · cases h1
  | _ => cases h

/-! ### what a loop walks -/
/-- items that stand -/
def FeedFix (K : PySem.W.Frag) (L : Pl) (l : List D) (J : It) (H : Hp) (ρ : Nat → Addr) (S : Store) : Prop := ∀ ρ' S' H', Nx K L S H ρ S' H' ρ' → ∀ i : Nat,
  (∀ d, l[i]? = some d → J.go i H' ∧ ∀ x H2, J.yld i H' x H2 → Nx K L S' H' ρ' S' H2 ρ' ∧ Rp K L H2 ρ' S'.n d x) ∧ (l.length ≤ i → J.stop i H')
/-- a list read turn by turn -/
def FeedLive (K : PySem.W.Frag) (L : Pl) (i0 : Nat) (J : It) (H : Hp) (ρ : Nat → Addr) (S : Store) : Prop := ∀ ρ' S' H', Nx K L S H ρ S' H' ρ' → ∀ (w : Bool) (l : List D) (i : Nat), S'.get i0 = some (.lst w l) →
  (∀ d, l[i]? = some d → J.go i H' ∧ ∀ x H2, J.yld i H' x H2 → Nx K L S' H' ρ' S' H2 ρ' ∧ Rp K L H2 ρ' S'.n d x) ∧ (l.length ≤ i → J.stop i H')
def FeedLiveE (K : PySem.W.Frag) (L : Pl) (t : Option (List D)) (i0 : Nat) (J : It) (H : Hp) (ρ : Nat → Addr) (S : Store) : Prop := ∀ ρ' S' H', Nx K L S H ρ S' H' ρ' → ∀ (w : Bool) (l : List D) (i : Nat), S'.get i0 = some (.lst w l) →
  (∀ d, rowE t l i = some d → J.go i H' ∧ ∀ x H2, J.yld i H' x H2 → Nx K L S' H' ρ' S' H2 ρ' ∧ Rp K L H2 ρ' S'.n d x) ∧ (rowE t l i = none → J.stop i H')
def Feed (K : PySem.W.Frag) (L : Pl) (q : Sq) (J : It) (H : Hp) (ρ : Nat → Addr) (S : Store) : Prop := match q with
  | .fix l => FeedFix K L l J H ρ S
  | .live i _ => FeedLive K L i J H ρ S
  | .liveE t i _ => FeedLiveE K L t i J H ρ S
structure SimI (X : Cx) (L : Pl) (G : Gd) (cf : Nat → List D → Store → Res D) (tg iter : Expr) (it : Iter) : Prop where
  run : ∀ (W : WX) (_ : Takes X W) (ρ : Nat → Addr) (σd : Sl) (σ : L2.St) (S : Store) (H : Hp) (R : It → Hp → Prop), Rel X.K L H ρ S → RX X L G H ρ S.n σd σ →
    (evIt cf G it σd S).Good (fun q S' => ∀ ρ' H' J, Nx X.K L S H ρ S' H' ρ' → Feed X.K L q J H' ρ' S' → R J H') (kX X.K L S H ρ (WE W σ)) → wI X tg iter σ H R
theorem feed_tup {K : PySem.W.Frag} {l : List D} {H : Hp} {ρ : Nat → Addr} {S : Store} {a : Addr} {us : List V} (s : SqT K H a us) (q : RpL K L H ρ S.n l us) : FeedFix K L l (Itt K a) H ρ S := fun ρ' S' H' n i => by
  have q' := n.rpl q
  have s' := n.t.sqT s
  refine ⟨fun d hd => ?_, fun hi => ⟨us, s', by rw [← q.length]; exact hi⟩⟩
  obtain ⟨v, e1, e2⟩ := q'.get hd
  refine ⟨⟨us, v, s', e1⟩, fun x H2 y => ?_⟩
  obtain ⟨rfl, y⟩ := y
  have e3 := y us s'
  rw [e1] at e3
  cases e3
  exact ⟨Nx.refl n.r, e2⟩
theorem feed_lst {K : PySem.W.Frag} {H : Hp} {ρ : Nat → Addr} {S : Store} {i0 : Nat} (h0 : i0 < S.n) : FeedLive K L i0 (Itl K (ρ i0)) H ρ S := fun ρ' S' H' n w l i e => by
  obtain ⟨us, s', q'⟩ := cell_lst n.r e
  rw [n.a i0 h0] at s'
  refine ⟨fun d hd => ?_, fun hi => ⟨us, s', by rw [← q'.length]; exact hi⟩⟩
  obtain ⟨v, e1, e2⟩ := q'.get hd
  refine ⟨⟨us, v, s', e1⟩, fun x H2 y => ?_⟩
  obtain ⟨rfl, y⟩ := y
  have e3 := y us s'
  rw [e1] at e3
  cases e3
  exact ⟨Nx.refl n.r, e2⟩
theorem rangeL_get : ∀ (n : Nat) (lo : Int) (i : Nat), (rangeL lo n)[i]? = if i < n then some (.int (lo + i)) else none
  | 0, lo, i => by simp [rangeL]
  | n + 1, lo, 0 => by simp [rangeL]
  | n + 1, lo, i + 1 => by
    show (rangeL (lo + 1) n)[i]? = _
    rw [rangeL_get n (lo + 1) i]
    by_cases h : i < n
    · rw [if_pos h, if_pos (by omega)]
      congr 2
      omega
    · rw [if_neg h, if_neg (by omega)]
theorem rangeL_len : ∀ (n : Nat) (lo : Int), (rangeL lo n).length = n
  | 0, _ => rfl
  | n + 1, lo => congrArg Nat.succ (rangeL_len n (lo + 1))
theorem feed_rng {K : PySem.W.Frag} {H : Hp} {ρ : Nat → Addr} {S : Store} {lo : Int} {k : Nat} : FeedFix K L (rangeL lo k) (Itr lo k) H ρ S := fun ρ' S' H' n i => by
  refine ⟨fun d hd => ?_, fun hi => by rw [rangeL_len] at hi; exact hi⟩
  rw [rangeL_get] at hd
  split at hd
  · rename_i hi
    cases hd
    refine ⟨hi, fun x H2 y => ?_⟩
    obtain ⟨rfl, rfl⟩ := y
    exact ⟨Nx.refl n.r, rfl⟩
  · cases hd
theorem feed_str {K : PySem.W.Frag} {H : Hp} {ρ : Nat → Addr} {S : Store} {x : Str} : FeedFix K L (x.cps.toList.map fun c => .str ⟨#[c]⟩) (Its x) H ρ S := fun ρ' S' H' n i => by
  refine ⟨fun d hd => ?_, fun hi => show x.cps.size ≤ i by simpa using hi⟩
  rw [List.getElem?_map] at hd
  obtain ⟨c, hc, rfl⟩ := Option.map_eq_some_iff.mp hd
  have hc' : x.cps[i]? = some c := by simpa using hc
  refine ⟨(Array.getElem?_eq_some_iff.mp hc').1, fun y H2 z => ?_⟩
  obtain ⟨rfl, c', e1, rfl⟩ := z
  rw [hc'] at e1
  cases e1
  exact ⟨Nx.refl n.r, rfl⟩
theorem feed_keys {K : PySem.W.Frag} {H : Hp} {ρ : Nat → Addr} {S : Store} {a : Addr} {o : Obj} {l : List (Key × D)} {vs : List (Key × V)} (e : H a = some (.frz o (.dK vs))) (h : RpK K L H ρ S.n l vs) : FeedFix K L (l.map fun q => keyD q.1) (Itk a o vs) H ρ S := fun ρ' S' H' n i => by
  have e' : H' a = some (.frz o (.dK vs)) := n.t _ _ e True.intro
  have hl : vs.length = l.length := h.length
  refine ⟨fun d hd => ?_, fun hi => ⟨e', by rw [List.length_map] at hi; omega⟩⟩
  rw [List.getElem?_map] at hd
  obtain ⟨q, hq, rfl⟩ := Option.map_eq_some_iff.mp hd
  obtain ⟨hi, hqi⟩ := List.getElem?_eq_some_iff.mp hq
  refine ⟨⟨e', by omega⟩, fun x H2 y => ?_⟩
  obtain ⟨rfl, k, v, e1, rfl⟩ := y
  refine ⟨Nx.refl n.r, ?_⟩
  have hk := h.key hq e1
  rw [hk]
  cases k <;> rfl
theorem ii_seq {tg e : Expr} {c : C} (ha : Sim X L G cf e c) : SimI X L G cf tg e (.seq c) := by
  refine ⟨fun W tk ρ σd σ S H R r rs h => ?_⟩
  cases e1 : evC cf G c σd S with
  | stuck =>
    have h := Res.good_bind (r := evC cf G c σd S) h
    rw [e1] at h
    exact h.elim
  | ex c2 d2 S2 =>
    have h := Res.good_bind (r := evC cf G c σd S) h
    rw [e1] at h
    refine ofI (pi_tup (pE e)) (ha.run W tk ρ σd σ S H _ r rs ?_)
    rw [e1]
    exact h
  | ok d S1 =>
    have h := Res.good_bind (r := evC cf G c σd S) h
    rw [e1] at h
    obtain ⟨q, e2, k⟩ := Res.good_of (show (Res.of (sqOf S1 d) S1).Good _ _ from h)
    cases d with
    | tup l =>
      cases e2
      refine ofI (pi_tup (pE e)) (ha.run W tk ρ σd σ S H _ r rs (Res.Good.ok e1 fun ρ' H' v n p => ?_))
      obtain ⟨a, us, rfl, s, qq⟩ := (show ∃ a vs, v = .ref a ∧ SqT X.K H' a vs ∧ RpL X.K L H' ρ' S1.n l vs from p)
      exact ⟨a, rfl, ⟨us, s⟩, k ρ' H' _ n (feed_tup s qq)⟩
    | str x =>
      cases e2
      refine ofI (pi_str (pE e)) (ha.run W tk ρ σd σ S H _ r rs (Res.Good.ok e1 fun ρ' H' v n p => ?_))
      cases (show v = .str x from p)
      exact ⟨x, rfl, k ρ' H' _ n feed_str⟩
    | ref i =>
      have h4 : (match S1.get i with | some (.lst _ l) => some (Sq.live i l.length) | some (.dct l) => some (.fix (l.map fun q => keyD q.1)) | _ => none) = some q := e2
      split at h4
      · rename_i w l e3
        cases h4
        refine ofI (pi_list (pE e)) (ha.run W tk ρ σd σ S H _ r rs (Res.Good.ok e1 fun ρ' H' v n p => ?_))
        obtain ⟨hi, rfl⟩ := (show i < S1.n ∧ v = .ref (ρ' i) from p)
        obtain ⟨us, s, _⟩ := cell_lst n.r e3
        exact ⟨_, rfl, ⟨us, s⟩, k ρ' H' _ n (feed_lst hi)⟩
      · rename_i l e3
        cases h4
        refine ofI (pi_keys (pE e)) (ha.run W tk ρ σd σ S H _ r rs (Res.Good.ok e1 fun ρ' H' v n p => ?_))
        obtain ⟨hi, rfl⟩ := (show i < S1.n ∧ v = .ref (ρ' i) from p)
        obtain ⟨o, vs, g1, g2⟩ := n.r.cell i _ e3
        exact ⟨_, o, rfl, .inl ⟨vs, g1, k ρ' H' _ n (feed_keys g1 g2)⟩⟩
      · cases h4
    | _ => cases e2
theorem feed_enum {K : PySem.W.Frag} {L : Pl} {H : Hp} {ρ : Nat → Addr} {S : Store} {i0 : Nat} (h0 : i0 < S.n) : FeedLiveE K L none i0 (Ite K (ρ i0)) H ρ S := fun ρ' S' H' n w l i e => by
  obtain ⟨vs, s, q⟩ := cell_lst n.r e
  rw [n.a i0 h0] at s
  refine ⟨fun d hd => ?_, fun hi => ⟨vs, s, by rw [← q.length]; exact List.getElem?_eq_none_iff.mp (Option.map_eq_none_iff.mp (show l[i]?.map (fun x => D.tup [.int (i : Nat), x]) = none from hi))⟩⟩
  obtain ⟨d0, hd0, rfl⟩ := Option.map_eq_some_iff.mp (show l[i]?.map (fun x => D.tup [.int (i : Nat), x]) = some d from hd)
  obtain ⟨v, e1, e2⟩ := q.get hd0
  refine ⟨⟨vs, v, s, e1⟩, fun x H2 y => ?_⟩
  obtain ⟨p, z, rfl, hp, rfl, y⟩ := y
  have e3 := y vs s
  rw [e1] at e3
  cases e3
  have n2 := n.r.new (o := .tup [.int (i : Nat), v]) hp
  exact ⟨n2, p, [.int (i : Nat), v], rfl, SqT.of upd_same, RpL.cons rfl (RpL.cons (n2.rp e2) RpL.nil)⟩
theorem ii_enum {a : Expr} {c : C} {p pos tpos : Pos} {elts : List Expr} {kk : Nat} (hg : Gl X "enumerate") (hm : X.mg "enumerate" = none) (ha : Sim X L G cf a c) (hs : starEach [a] X.env = [(false, eval a X.env)] := by rfl) (hs2 : starEach [a] X.env = (false, eval a X.env) :: starEach [] X.env := by rfl) : SimI X L G cf (.Tuple elts kk tpos) (.Call (.Name "enumerate" p) [a] [] pos) (.enum c) := by
  refine ⟨fun W tk ρ σd σ S H R r rs h => ?_⟩
  have h := Res.good_bind (r := evC cf G c σd S) h
  refine ofI (pi_enum hg hm (pa_cons (pE a) pa_nil hs2) hs) (ha.run W tk ρ σd σ S H _ r rs (h.imp (fun d S1 g ρ' H' v n p => ?_) fun _ _ _ k => k))
  split at g
  · rename_i i
    split at g
    · rename_i w l e
      obtain ⟨hi, rfl⟩ := (show i < S1.n ∧ v = .ref (ρ' i) from p)
      obtain ⟨vs, s, q⟩ := cell_lst n.r e
      exact ⟨ρ' i, vs, rfl, s, g ρ' H' _ n (feed_enum hi)⟩
    · exact g.elim
  · exact g.elim
theorem ii_range1 {tg a : Expr} {c : C} {p pos : Pos} (hg : Gl X "range") (hm : X.mg "range" = none) (ha : Sim X L G cf a c) (hs : starEach [a] X.env = [(false, eval a X.env)] := by rfl) (hs2 : starEach [a] X.env = (false, eval a X.env) :: starEach [] X.env := by rfl) : SimI X L G cf tg (.Call (.Name "range" p) [a] [] pos) (.range1 c) := by
  refine ⟨fun W tk ρ σd σ S H R r rs h => ?_⟩
  have h := Res.good_bind (r := evC cf G c σd S) h
  refine ofI (pi_range1 hg hm (pa_cons (pE a) pa_nil hs2) hs) (ha.run W tk ρ σd σ S H _ r rs (h.imp (fun d S1 g ρ' H' v n p => ?_) fun _ _ _ k => k))
  split at g
  · rename_i j
    split at g
    · rename_i hj
      cases (show v = .int j from p)
      exact ⟨j, rfl, hj.1, hj.2, g ρ' H' _ n feed_rng⟩
    · exact g.elim
  · exact g.elim
theorem ii_range2 {tg a b : Expr} {c c2 : C} {p pos : Pos} (hg : Gl X "range") (hm : X.mg "range" = none) (ha : Sim X L G cf a c) (hb : Sim X L G cf b c2) (hs : starEach [a, b] X.env = [(false, eval a X.env), (false, eval b X.env)] := by rfl) (hs2 : starEach [b] X.env = [(false, eval b X.env)] := by rfl)
    (hs3 : starEach [a, b] X.env = (false, eval a X.env) :: starEach [b] X.env := by rfl) (hs4 : starEach [b] X.env = (false, eval b X.env) :: starEach [] X.env := by rfl) : SimI X L G cf tg (.Call (.Name "range" p) [a, b] [] pos) (.range2 c c2) := by
  refine ⟨fun W tk ρ σd σ S H R r rs h => ?_⟩
  have h := Res.good_bind (r := evC cf G c σd S) h
  refine ofI (pi_range2 hg hm (pa_cons (pE a) (pa_cons (pE b) pa_nil hs4) hs3) hs hs2) (ha.run W tk ρ σd σ S H _ r rs (h.imp (fun d S1 g ρ' H' v n p => ?_) fun _ _ _ k => k))
  refine hb.run W tk ρ' σd σ S1 H' _ n.r (n.rs rs) ((Res.good_bind g).imp (fun d2 S2 gg ρ2 H2 v2 n2 p2 => ?_) fun _ _ _ k => k.at n)
  split at gg
  · rename_i i j
    split at gg
    · rename_i hj
      cases (show v = .int i from p)
      cases (show v2 = .int j from p2)
      exact ⟨i, j, rfl, hj, gg ρ2 H2 _ (n.trans n2) feed_rng⟩
    · exact gg.elim
  · exact gg.elim
theorem zipD_get : ∀ {l m : List D} {i : Nat} {d : D}, (zipD l m)[i]? = some d → ∃ a b, l[i]? = some a ∧ m[i]? = some b ∧ d = .tup [a, b]
  | [], _, i, d, h => by simp [zipD] at h
  | _ :: _, [], i, d, h => by simp [zipD] at h
  | a :: l, b :: m, 0, d, h => by
    simp [zipD] at h
    exact ⟨a, b, rfl, rfl, h.symm⟩
  | a :: l, b :: m, i + 1, d, h => by
    obtain ⟨x, y, e1, e2, e3⟩ := zipD_get (l := l) (m := m) (i := i) (d := d) (by simpa [zipD] using h)
    exact ⟨x, y, by simpa using e1, by simpa using e2, e3⟩
theorem zipD_len : ∀ {l m : List D} {i : Nat}, (zipD l m).length ≤ i → l.length ≤ i ∨ m.length ≤ i
  | [], _, i, h => .inl (Nat.zero_le _)
  | _ :: _, [], i, h => .inr (Nat.zero_le _)
  | a :: l, b :: m, 0, h => by simp [zipD] at h
  | a :: l, b :: m, i + 1, h => by
    rcases zipD_len (l := l) (m := m) (i := i) (by simpa [zipD] using h) with z | z
    · exact .inl (by simpa using z)
    · exact .inr (by simpa using z)
theorem feed_mix {K : PySem.W.Frag} {L : Pl} {H : Hp} {ρ : Nat → Addr} {S : Store} {i0 : Nat} {a : Addr} {l : List D} {us : List V} (h0 : i0 < S.n) (s : SqT K H a us) (q : RpL K L H ρ S.n l us) : FeedLiveE K L (some l) i0 (ItM K a (ρ i0)) H ρ S := fun ρ' S' H' n w m i e => by
  obtain ⟨vs, s2, q2⟩ := cell_lst n.r e
  rw [n.a i0 h0] at s2
  have q' := n.rpl q
  have s' := n.t.sqT s
  refine ⟨fun d hd => ?_, fun hi => ?_⟩
  · have hd : (match l[i]?, m[i]? with
      | some a, some x => some (D.tup [a, x])
      | _, _ => none) = some d := hd
    split at hd
    · rename_i da dx ea ex
      cases hd
      obtain ⟨va, w1, z1⟩ := q'.get ea
      obtain ⟨vx, w2, z2⟩ := q2.get ex
      refine ⟨⟨us, vs, va, vx, s', s2, w1, w2⟩, fun xx H4 yy => ?_⟩
      obtain ⟨pa, va', vb', rfl, hp, rfl, y1, y2⟩ := yy
      have g3 := y1 us s'
      have g4 := y2 vs s2
      rw [w1] at g3
      rw [w2] at g4
      cases g3
      cases g4
      have n4 := n.r.new (o := .tup [va, vx]) hp
      exact ⟨n4, pa, [va, vx], rfl, SqT.of upd_same, RpL.cons (n4.rp z1) (RpL.cons (n4.rp z2) RpL.nil)⟩
    · cases hd
  · have hi : (match l[i]?, m[i]? with
      | some a, some x => some (D.tup [a, x])
      | _, _ => none) = none := hi
    refine ⟨us, vs, s', s2, ?_⟩
    rw [← q'.length, ← q2.length]
    cases el : l[i]? with
    | none => exact .inl (List.getElem?_eq_none_iff.mp el)
    | some x =>
      cases em : m[i]? with
      | none => exact .inr (List.getElem?_eq_none_iff.mp em)
      | some y => rw [el, em] at hi; cases hi
theorem ii_zip {a b : Expr} {c c2 : C} {p pos tpos : Pos} {elts : List Expr} {kk : Nat} (hg : Gl X "zip") (hm : X.mg "zip" = none) (ha : Sim X L G cf a c) (hb : Sim X L G cf b c2)
    (hs : starEach [a, b] X.env = (false, eval a X.env) :: starEach [b] X.env := by rfl) (hs4 : starEach [b] X.env = (false, eval b X.env) :: starEach [] X.env := by rfl) (hpl : (backTo pos (starEach [b] X.env)).any (·.1) = false := by rfl) : SimI X L G cf (.Tuple elts kk tpos) (.Call (.Name "zip" p) [a, b] [] pos) (.zip c c2) := by
  refine ⟨fun W tk ρ σd σ S H R r rs h => ?_⟩
  by_cases hx : ∃ l S1 i S2, evC cf G c σd S = .ok (.tup l) S1 ∧ evC cf G c2 σd S1 = .ok (.ref i) S2
  · obtain ⟨l, S1, i, S2, e1, e2⟩ := hx
    have h := Res.good_bind (r := evC cf G c σd S) h
    rw [e1] at h
    have h := Res.good_bind (r := evC cf G c2 σd S1) h
    rw [e2] at h
    have g : (match S2.get i with | some (.lst _ m) => Res.ok (Sq.liveE (some l) i m.length) S2 | _ => .stuck).Good (fun q S' => ∀ ρ' H' J, Nx X.K L S H ρ S' H' ρ' → Feed X.K L q J H' ρ' S' → R J H') (kX X.K L S H ρ (WE W σ)) := h
    split at g
    · rename_i w m el
      refine ofI (pi_zipM hg hm (pa_cons (pE a) (pa_cons (pE b) pa_nil hs4) hs) hs hpl) (ha.run W tk ρ σd σ S H _ r rs (Res.Good.ok e1 fun ρ' H' v n p => ?_))
      refine hb.run W tk ρ' σd σ S1 H' _ n.r (n.rs rs) (Res.Good.ok e2 fun ρ2 H2 v2 n2 p2 => ?_)
      obtain ⟨hi, rfl⟩ := (show i < S2.n ∧ v2 = .ref (ρ2 i) from p2)
      obtain ⟨x, us, rfl, s, qq⟩ := (show ∃ a vs, v = .ref a ∧ SqT X.K H2 a vs ∧ RpL X.K L H2 ρ2 S2.n l vs from n2.rp p)
      obtain ⟨ws, s2, _⟩ := cell_lst n2.r el
      exact ⟨x, ρ2 i, us, ws, rfl, s, s2, g ρ2 H2 _ (n.trans n2) (feed_mix hi s qq)⟩
    · exact g.elim
  have h := (Res.good_bind (r := evC cf G c σd S) h).eqn
  refine ofI (RZ.pi_zipA hg hm (pa_cons (pE a) (pa_cons (pE b) pa_nil hs4) hs) hs hpl) (ha.run W tk ρ σd σ S H _ r rs (h.imp (fun d S1 ⟨e1, g⟩ ρ' H' v n p => ?_) fun _ _ _ ⟨_, k⟩ => k))
  refine hb.run W tk ρ' σd σ S1 H' _ n.r (n.rs rs) ((Res.good_bind g).eqn.imp (fun d2 S2 ⟨e2, gg⟩ ρ2 H2 v2 n2 p2 => ?_) fun _ _ _ ⟨_, k⟩ => k.at n)
  cases d with
  | tup l =>
    cases d2 with
    | tup m =>
      have p1 := n2.rp p
      obtain ⟨x, us, rfl, s, qq⟩ := (show ∃ a vs, v = .ref a ∧ SqT X.K H2 a vs ∧ RpL X.K L H2 ρ2 S2.n l vs from p1)
      obtain ⟨y, ws, rfl, s2, qq2⟩ := (show ∃ a vs, v2 = .ref a ∧ SqT X.K H2 a vs ∧ RpL X.K L H2 ρ2 S2.n m vs from p2)
      refine ⟨x, y, us, ws, rfl, .inr ⟨s, s2, gg ρ2 H2 _ (n.trans n2) fun ρ3 S3 H3 n3 i => ?_⟩⟩
      have q1 := n3.rpl qq
      have q2 := n3.rpl qq2
      have t1 := n3.t.sqT s
      have t2 := n3.t.sqT s2
      refine ⟨fun d hd => ?_, fun hi => ?_⟩
      · obtain ⟨da, db, g1, g2, rfl⟩ := zipD_get hd
        obtain ⟨va, w1, z1⟩ := q1.get g1
        obtain ⟨vb, w2, z2⟩ := q2.get g2
        refine ⟨⟨us, ws, va, vb, t1, t2, w1, w2⟩, fun xx H4 yy => ?_⟩
        obtain ⟨pa, va', vb', rfl, hp, rfl, y1, y2⟩ := yy
        have g3 := y1 us t1
        have g4 := y2 ws t2
        rw [w1] at g3
        rw [w2] at g4
        cases g3
        cases g4
        have n4 := n3.r.new (o := .tup [va, vb]) hp
        exact ⟨n4, pa, [va, vb], rfl, SqT.of upd_same, RpL.cons (n4.rp z1) (RpL.cons (n4.rp z2) RpL.nil)⟩
      · rcases zipD_len hi with z | z
        · exact ⟨us, ws, t1, t2, .inl (by rw [← q1.length]; exact z)⟩
        · exact ⟨us, ws, t1, t2, .inr (by rw [← q2.length]; exact z)⟩
    | ref i => exact (hx ⟨l, S1, i, S2, e1, e2⟩).elim
    | _ => exact gg.elim
  | _ => exact gg.elim
end
end QD

/-! QD8: comprehensions. -/
namespace QD
open PySem PySem.Spec PyProof.Rows L2
def noW : WX := fun _ _ _ _ => False
theorem takes_no {X : Cx} : Takes X noW := fun u s' ⟨_, _, _, _, _, _, _, _, _, _, _, _, _, _, _, _, w⟩ => w.elim
theorem nox_ok' {α : Type} {r : Res α} {k : α → Store → Prop} {x : Nat → Nat → Store → Prop} (h : r.nox.Good k x) : ∃ d S, r = .ok d S ∧ k d S := by
  cases r with
  | ok d S => exact ⟨d, S, rfl, h⟩
  | ex c d S => exact h.elim
  | stuck => exact h.elim
section
variable {X : Cx} {L : Pl} {G : Gd} {cf : Nat → List D → Store → Res D}
theorem Feed.at {K : PySem.W.Frag} {q : Sq} {J : It} {H H' : Hp} {ρ ρ' : Nat → Addr} {S S' : Store} (F : Feed K L q J H ρ S) (n : Nx K L S H ρ S' H' ρ') : Feed K L q J H' ρ' S' := by
  cases q with
  | fix l => exact fun ρ2 S2 H2 n2 => F ρ2 S2 H2 (n.trans n2)
  | live i k => exact fun ρ2 S2 H2 n2 => F ρ2 S2 H2 (n.trans n2)
  | liveE t i k => exact fun ρ2 S2 H2 n2 => F ρ2 S2 H2 (n.trans n2)
theorem walkFix_cons {turn : D → Store → Res Unit} {x : D} {r : List D} {S Sz : Store} (h : walkFix turn (x :: r) S = .ok () Sz) : ∃ S1, turn x S = .ok () S1 ∧ walkFix turn r S1 = .ok () Sz := by
  obtain ⟨u, S1, e1, e2⟩ := Res.bind_ok (show (turn x S).bind (fun _ S1 => walkFix turn r S1) = .ok () Sz from h)
  cases u
  exact ⟨S1, e1, e2⟩
theorem drop_cons {l : List D} {i : Nat} (h : i < l.length) : l.drop i = l[i] :: l.drop (i + 1) := List.drop_eq_getElem_cons h
/-- a walk of turns -/
theorem walk_loop {K : PySem.W.Frag} {turn : D → Store → Res Unit} {q : Sq} {J : It} {H1 : Hp} {ρ1 : Nat → Addr} {S1 Sz : Store} {Qd : Hp → Prop} {step : Hp → V → (Hp → Prop) → Prop} (F : Feed K L q J H1 ρ1 S1) (r : Rel K L H1 ρ1 S1) (h : walkSq turn q S1 = .ok () Sz)
    (hend : ∀ ρ' H', Nx K L S1 H1 ρ1 Sz H' ρ' → Qd H')
    (hstep : ∀ ρ' S' H' d x S'' (N : Hp → Prop), Nx K L S1 H1 ρ1 S' H' ρ' → Rp K L H' ρ' S'.n d x → turn d S' = .ok () S'' → (∀ ρ2 H2, Nx K L S' H' ρ' S'' H2 ρ2 → N H2) → step H' x N) :
    ∃ W : Nat → Nat → Hp → Prop, (∃ m, W 0 m H1) ∧ ∀ i m H, W i m H → (J.stop i H ∧ Qd H) ∨ (J.go i H ∧ ∃ N : Hp → Prop, (∀ H', N H' → ∃ m', m' < m ∧ W (i + 1) m' H') ∧ ∀ x H', J.yld i H x H' → step H' x N) := by
  cases q with
  | fix l =>
    refine ⟨fun i m H => m = l.length - i ∧ ∃ ρ' S', Nx K L S1 H1 ρ1 S' H ρ' ∧ walkFix turn (l.drop i) S' = .ok () Sz, ⟨l.length, by simp, ρ1, S1, Nx.refl r, h⟩, ?_⟩
    rintro i m H ⟨rfl, ρ', S', n, e⟩
    obtain ⟨f1, f2⟩ := F ρ' S' H n i
    by_cases hi : i < l.length
    · rw [drop_cons hi] at e
      obtain ⟨S2, e1, e2⟩ := walkFix_cons e
      obtain ⟨g1, g2⟩ := f1 l[i] (List.getElem?_eq_getElem hi)
      refine .inr ⟨g1, fun H' => ∃ ρ2, Nx K L S1 H1 ρ1 S2 H' ρ2, fun H' ⟨ρ2, n2⟩ => ⟨l.length - (i + 1), by omega, rfl, ρ2, S2, n2, e2⟩, fun x H' y => ?_⟩
      obtain ⟨n3, p3⟩ := g2 x H' y
      exact hstep ρ' S' H' l[i] x S2 _ (n.trans n3) p3 e1 fun ρ2 H2 n4 => ⟨ρ2, (n.trans n3).trans n4⟩
    · rw [List.drop_eq_nil_of_le (by omega)] at e
      cases e
      exact .inl ⟨f2 (by omega), hend ρ' H n⟩
  | live i0 k0 =>
    refine ⟨fun i m H => ∃ ρ' S', Nx K L S1 H1 ρ1 S' H ρ' ∧ walkLive turn i0 m i S' = .ok () Sz, ⟨k0, ρ1, S1, Nx.refl r, h⟩, ?_⟩
    rintro i m H ⟨ρ', S', n, e⟩
    cases m with
    | zero =>
      have e' : (match S'.get i0 with
        | some (.lst _ l) => if l.length ≤ i then Res.ok () S' else .stuck
        | _ => .stuck) = .ok () Sz := e
      split at e'
      · rename_i w l el
        split at e'
        · rename_i hl
          cases e'
          exact .inl ⟨(F ρ' Sz H n w l i el).2 hl, hend ρ' H n⟩
        · cases e'
      · cases e'
    | succ m =>
      have e' : (match S'.get i0 with
        | some (.lst _ l) => (match l[i]? with
          | none => Res.ok () S'
          | some x => (turn x S').bind fun _ S1 => walkLive turn i0 m (i + 1) S1)
        | _ => .stuck) = .ok () Sz := e
      split at e'
      · rename_i w l el
        obtain ⟨f1, f2⟩ := F ρ' S' H n w l i el
        split at e'
        · rename_i hx
          cases e'
          exact .inl ⟨f2 (List.getElem?_eq_none_iff.mp hx), hend ρ' H n⟩
        · rename_i x hx
          obtain ⟨u, S2, e1, e2⟩ := Res.bind_ok e'
          cases u
          obtain ⟨g1, g2⟩ := f1 x hx
          refine .inr ⟨g1, fun H' => ∃ ρ2, Nx K L S1 H1 ρ1 S2 H' ρ2, fun H' ⟨ρ2, n2⟩ => ⟨m, Nat.lt_succ_self _, ρ2, S2, n2, e2⟩, fun y H' z => ?_⟩
          obtain ⟨n3, p3⟩ := g2 y H' z
          exact hstep ρ' S' H' x y S2 _ (n.trans n3) p3 e1 fun ρ2 H2 n4 => ⟨ρ2, (n.trans n3).trans n4⟩
      · cases e'
  | liveE t0 i0 k0 =>
    refine ⟨fun i m H => ∃ ρ' S', Nx K L S1 H1 ρ1 S' H ρ' ∧ walkLiveE turn t0 i0 m i S' = .ok () Sz, ⟨k0, ρ1, S1, Nx.refl r, h⟩, ?_⟩
    rintro i m H ⟨ρ', S', n, e⟩
    cases m with
    | zero =>
      have e' : (match S'.get i0 with
        | some (.lst _ l) => if (rowE t0 l i).isNone then Res.ok () S' else .stuck
        | _ => .stuck) = .ok () Sz := e
      split at e'
      · rename_i w l el
        split at e'
        · rename_i hl
          cases e'
          exact .inl ⟨(F ρ' Sz H n w l i el).2 (Option.isNone_iff_eq_none.mp hl), hend ρ' H n⟩
        · cases e'
      · cases e'
    | succ m =>
      have e' : (match S'.get i0 with
        | some (.lst _ l) => (match rowE t0 l i with
          | none => Res.ok () S'
          | some x => (turn x S').bind fun _ S1 => walkLiveE turn t0 i0 m (i + 1) S1)
        | _ => .stuck) = .ok () Sz := e
      split at e'
      · rename_i w l el
        obtain ⟨f1, f2⟩ := F ρ' S' H n w l i el
        split at e'
        · rename_i hx
          cases e'
          exact .inl ⟨f2 hx, hend ρ' H n⟩
        · rename_i x hx
          obtain ⟨u, S2, e1, e2⟩ := Res.bind_ok e'
          cases u
          obtain ⟨g1, g2⟩ := f1 x hx
          refine .inr ⟨g1, fun H' => ∃ ρ2, Nx K L S1 H1 ρ1 S2 H' ρ2, fun H' ⟨ρ2, n2⟩ => ⟨m, Nat.lt_succ_self _, ρ2, S2, n2, e2⟩, fun y H' z => ?_⟩
          obtain ⟨n3, p3⟩ := g2 y H' z
          exact hstep ρ' S' H' x y S2 _ (n.trans n3) p3 e1 fun ρ2 H2 n4 => ⟨ρ2, (n.trans n3).trans n4⟩
      · cases e'

/-! ### tests of a clause -/
def wTs (X : Cx) (ifs : List Expr) : TT := fun σ H Q => ∀ (pins : List (Addr × Obj)) (s : Shared), Inv X pins σ H s →
  wpAny (model X.prog X.w) X.A (forIn ifs true fun c r => if r = true then do let ok ← isTrue c X.env (eval c X.env); pure (ForInStep.yield ok) else pure (ForInStep.yield r)) (TP X pins σ Q) X.xe s
structure SimTs (X : Cx) (L : Pl) (G : Gd) (cf : Nat → List D → Store → Res D) (ifs : List Expr) (cs : Cs) : Prop where
  run : ∀ (ρ : Nat → Addr) (σd : Sl) (σ : L2.St) (S : Store) (H : Hp) (b : Bool) (S' : Store) (Q : Bool → Hp → Prop), Rel X.K L H ρ S → RX X L G H ρ S.n σd σ → evIfs cf G cs σd S = .ok b S' →
    (∀ ρ' H', Nx X.K L S H ρ S' H' ρ' → Q b H') → wTs X ifs σ H Q
theorem sts_nil : SimTs X L G cf [] .nil := ⟨fun ρ σd σ S H b S' Q r rs h k => by cases h; exact fun pins s I => pts_nil.run pins s σ H Q I (k ρ H (Nx.refl r))⟩
theorem sts_one {e : Expr} {c : C} (ht : SimT X L G cf e c) : SimTs X L G cf [e] (.cons c .nil) := by
  refine ⟨fun ρ σd σ S H b S' Q r rs h k => fun pins s I => ?_⟩
  obtain ⟨d, T1, e1, h2⟩ := Res.bind_ok (show (evC cf G c σd S).bind (fun d S1 => (Res.of (truth S1 d) S1).bind fun k S2 => if k then evIfs cf G .nil σd S2 else .ok false S2) = .ok b S' from h)
  obtain ⟨kb, T2, e2, h3⟩ := Res.bind_ok h2
  obtain ⟨e3, rfl⟩ := Res.of_ok e2
  have e4 : kb = b ∧ S' = T2 := by cases kb <;> (cases h3; exact ⟨rfl, rfl⟩)
  obtain ⟨rfl, rfl⟩ := e4
  exact (pts_one (pT e)).run pins s σ H Q I (ht.run noW takes_no ρ σd σ S H Q r rs (Res.Good.ok e1 ⟨kb, e3, k⟩))

/-! ### the block's contexts -/
abbrev Bk (X : Cx) (sc : Scope) (s : Shared) (H : Hp) (C : Addr) (cl : List (Str × Addr)) (fp : List Addr) : Cx := X.blk s H sc (compEnvC sc cl C X.env) fp
def bE (X : Cx) (sc : Scope) (e : Expr) : TE := fun σ H Q => ∀ s H0 C cl fp, wE (Bk X sc s H0 C cl fp) e σ H Q
def bG (X : Cx) (sc : Scope) (e : Expr) : TG := fun v σ H Q => ∀ s H0 C cl fp, wG (Bk X sc s H0 C cl fp) e v σ H Q
def bTs (X : Cx) (sc : Scope) (es : List Expr) : TT := fun σ H Q => ∀ s H0 C cl fp, wTs (Bk X sc s H0 C cl fp) es σ H Q
def bI (X : Cx) (sc : Scope) (tg e : Expr) : TI := fun σ H R => ∀ s H0 C cl fp, wI (Bk X sc s H0 C cl fp) tg e σ H R
theorem RX.blk {X' : Cx} {H : Hp} {ρ : Nat → Addr} {n : Nat} {σd' : Sl} {σ' : L2.St} (hx : G.exi = none) (r : RS X'.K L H ρ n σd' σ') : RX X' L G H ρ n σd' σ' := ⟨r, fun d c e => by rw [hx] at e; cases e⟩
theorem put_run {K : PySem.W.Frag} {D0 : Nat} {y : D} {S S' : Store} {H : Hp} {ρ : Nat → Addr} {v : V} {N : Hp → Prop} (r : Rel K L H ρ S) (p : Rp K L H ρ S.n y v) (h : compPut D0 y S = .ok () S') (k : ∀ H', Nx K L S H ρ S' H' ρ → N H') :
    ∃ acc, H (ρ D0) = some (.lst acc) ∧ acc.length < sizeLine ∧ N (upd H (ρ D0) (.lst (acc ++ [v]))) := by
  have h1 : (match S.get D0 with
    | some (.bld n acc) => if Nat.blt n sizeLine = true then Res.ok () (S.set D0 (.bld (n + 1) (y :: acc))) else .stuck
    | _ => .stuck) = .ok () S' := h
  split at h1
  · rename_i n acc e
    split at h1
    · rename_i hl
      cases h1
      obtain ⟨us, s, q, hn⟩ := r.cell D0 _ e
      have hl2 : n < sizeLine := Nat.le_of_ble_eq_true hl
      refine ⟨us, s, by rw [← q.length, List.length_reverse, ← hn]; exact hl2, k _ ?_⟩
      refine r.write (o := .lst (us ++ [v])) (c := .bld (n + 1) (y :: acc)) e True.intro True.intro ⟨us ++ [v], upd_same, ?_, by rw [hn]; rfl⟩
      have t : TM H (upd H (ρ D0) (.lst (us ++ [v]))) := TM.wr s fun z => z
      rw [List.reverse_cons]
      exact (q.append (RpL.cons p RpL.nil)).mono t (Agree.refl _ _) (Nat.le_refl _)
    · cases h1
  · cases h1
theorem upd_self {H : Hp} {a : Addr} {o : HO} (h : H a = some o) : upd H a o = H := by
  funext b
  by_cases e : b = a
  · subst e
    rw [upd_same, h]
  · rw [upd_ne e]
theorem end_run {K : PySem.W.Frag} {D0 : Nat} {S S' : Store} {H : Hp} {ρ : Nat → Addr} {d : D} (r : Rel K L H ρ S) (h : compEnd D0 S = .ok d S') : d = .ref D0 ∧ D0 < S.n ∧ Nx K L S H ρ S' H ρ := by
  have h1 : (match S.get D0 with
    | some (.bld _ acc) => Res.ok (D.ref D0) (S.set D0 (.lst true acc.reverse))
    | _ => .stuck) = .ok d S' := h
  split at h1
  · rename_i n acc e
    cases h1
    obtain ⟨us, s, q, hn⟩ := r.cell D0 _ e
    have z := r.write (o := .lst us) (c := .lst true acc.reverse) e True.intro True.intro ⟨us, upd_same, q.mono (TM.wr s fun z => z) (Agree.refl _ _) (Nat.le_refl _)⟩
    rw [upd_self s] at z
    exact ⟨rfl, Store.lt e, z⟩
  · cases h1
section
variable {elt tg iter tg1 iter1 : Expr} {ifs : List Expr} {sc : Scope} {own : List (Str × Nat)} {pos : Pos} {it it1 : Iter} {ti ti1 : List Nat} {one one1 : Bool} {ci : Cs} {ce : C} {vs1 : List Nat}
theorem lc_run (hx : G.exi = none) (hi : SimI X L G cf tg iter it) (hg : ∀ s H C cl fp, SimG (Bk X sc s H C cl fp) L tg one ti) (ht : ∀ s H C cl fp, SimTs (Bk X sc s H C cl fp) L G cf ifs ci) (he : ∀ s H C cl fp, Sim (Bk X sc s H C cl fp) L G cf elt ce) (hw : ∀ i ∈ ti, i ∈ own.map (·.2))
    {W : WX} (tk : Takes X W) {ρ : Nat → Addr} {σd : Sl} {σ : L2.St} {S : Store} {H : Hp} {Q : VK} (r : Rel X.K L H ρ S) (rs : RX X L G H ρ S.n σd σ) (h : (evC cf G (.comp it ti one (own.map (·.2)) ci ce) σd S).Good (kV X.K L S H ρ Q) (kX X.K L S H ρ (WE W σ))) :
    tLc (wI X tg iter) (bG X sc tg) (bTs X sc ifs) (bE X sc elt) (own.map (·.2)) σ H Q := by
  have h := Res.good_bind (r := evIt cf G it σd S) h
  refine hi.run W tk ρ σd σ S H _ r rs (h.imp (fun q S1 g ρ1 H1 J n1 F => fun DD hD => ?_) fun _ _ _ k => k)
  obtain ⟨u, Sz, e2, gz⟩ := nox_ok' (Res.good_bind g)
  cases u
  have n2 := n1.r.push (o := .lst []) (c := .bld 0 []) hD ⟨[], upd_same, RpL.nil, rfl⟩
  have hD0 : more ρ1 S1.n DD S1.n = DD := more_new
  have n02 := n1.trans n2
  refine walk_loop (F.at n2) n2.r e2 (fun ρ' H' n => ?_) fun ρ' S2 H' x v S3 N n p ht' kN => ?_
  · cases ec : compEnd S1.n Sz with
    | ok d S' =>
      rw [ec] at gz
      obtain ⟨rfl, hlt, ne⟩ := end_run n.r ec
      refine gz ρ' H' _ ((n02.trans n).trans ne) ?_
      refine (n.trans ne).rp (d := .ref S1.n) (v := .ref DD) ⟨Nat.lt_succ_self _, ?_⟩
      rw [hD0]
    | ex c2 d2 S' =>
      unfold compEnd at ec
      split at ec <;> cases ec
    | stuck => rw [ec] at gz; exact gz.elim
  · have hDD : ρ' S1.n = DD := by rw [n.a S1.n (Nat.lt_succ_self _), hD0]
    obtain ⟨σ2, S4, e3, h4⟩ := Res.bind_ok ht'
    obtain ⟨e4, rfl⟩ := Res.of_ok e3
    have rx := (n02.trans n).rs rs
    have rs2 : RS X.K L H' ρ' S4.n (wipeD σd (own.map (·.2))) (L2.wipe σ (own.map (·.2))) := rx.s.wipe _
    intro s H0 C cl fp
    refine (hg s H0 C cl fp).run ρ' _ _ S4 H' x v σ2 _ n.r rs2 p e4 fun σ' rs3 hwp => ⟨?_, ?_⟩
    · rw [hwp _ hw, wipe_wipe]
    · obtain ⟨kb, S5, e5, h5⟩ := Res.bind_ok h4
      intro s1 H01 C1 cl1 fp1
      refine (ht s1 H01 C1 cl1 fp1).run ρ' σ2 σ' S4 H' kb S5 _ n.r (RX.blk hx rs3) e5 fun ρ3 H3 n3 => ?_
      cases kb with
      | false =>
        rw [if_neg Bool.false_ne_true] at h5 ⊢
        cases h5
        exact kN ρ3 H3 n3
      | true =>
        rw [if_pos rfl] at h5 ⊢
        obtain ⟨y, S6, e6, h6⟩ := Res.bind_ok h5
        intro s2 H02 C2 cl2 fp2
        refine (he s2 H02 C2 cl2 fp2).run noW takes_no ρ3 σ2 σ' S5 H3 _ n3.r (RX.blk hx (n3.rs0 rs3)) (Res.Good.ok e6 fun ρ4 H4 v4 n4 p4 => ?_)
        have hD4 : ρ4 S1.n = DD := by rw [(n3.trans n4).a S1.n (Nat.lt_of_lt_of_le (Nat.lt_succ_self _) n.n), hDD]
        have q4 := put_run n4.r p4 h6 fun H5 n5 => kN ρ4 H5 ((n3.trans n4).trans n5)
        rw [hD4] at q4
        exact q4
theorem si_lc (hc : X.calm = true) (hx : G.exi = none) (hN : X.N.Nodup) (hi : SimI X L G cf tg iter it) (hg : ∀ s H C cl fp, SimG (Bk X sc s H C cl fp) L tg one ti) (ht : ∀ s H C cl fp, SimTs (Bk X sc s H C cl fp) L G cf ifs ci) (he : ∀ s H C cl fp, Sim (Bk X sc s H C cl fp) L G cf elt ce)
    (ok : BlkOk X.N X.env.scope sc own) (hw : ∀ i ∈ ti, i ∈ own.map (·.2)) (hs : ∀ x, foldedSetIterable iter X.env x = pure x := by intro _; rfl) : Sim X L G cf (.ListComp elt [⟨tg, iter, ifs, 0⟩] sc pos) (.comp it ti one (own.map (·.2)) ci ce) :=
  ⟨fun W tk ρ σd σ S H Q r rs h => ofE (pe_lc hc hN (pI tg iter) ok (fun s H C cl fp => ⟨fun pins s' σ H' v u Q I rv hh => hh s H C cl fp pins s' u I rv⟩) (fun s H C cl fp => ⟨fun pins s' σ H' Q I hh => hh s H C cl fp pins s' I⟩) (fun s H C cl fp => ⟨fun pins s' σ H' Q I hh => hh s H C cl fp pins s' I⟩) hs)
    (lc_run hx hi hg ht he hw tk r rs h)⟩
/-- two clauses -/
theorem lc2_run (hx : G.exi = none) (hi : SimI X L G cf tg iter it) (hg : ∀ s H C cl fp, SimG (Bk X sc s H C cl fp) L tg one ti) (hi1 : ∀ s H C cl fp, SimI (Bk X sc s H C cl fp) L G cf tg1 iter1 it1) (hg1 : ∀ s H C cl fp, SimG (Bk X sc s H C cl fp) L tg1 one1 ti1) (he : ∀ s H C cl fp, Sim (Bk X sc s H C cl fp) L G cf elt ce)
    (hw : ∀ i ∈ ti, i ∈ own.map (·.2)) (hw1 : ∀ i ∈ ti1, i ∈ vs1)
    {W : WX} (tk : Takes X W) {ρ : Nat → Addr} {σd : Sl} {σ : L2.St} {S : Store} {H : Hp} {Q : VK} (r : Rel X.K L H ρ S) (rs : RX X L G H ρ S.n σd σ) (h : (evC cf G (.comp2 it ti one it1 ti1 one1 (own.map (·.2)) vs1 ce) σd S).Good (kV X.K L S H ρ Q) (kX X.K L S H ρ (WE W σ))) :
    tLc2 (wI X tg iter) (bG X sc tg) (bTs X sc []) (bI X sc tg1 iter1) (bG X sc tg1) (bTs X sc []) (bE X sc elt) (own.map (·.2)) vs1 σ H Q := by
  have h := Res.good_bind (r := evIt cf G it σd S) h
  refine hi.run W tk ρ σd σ S H _ r rs (h.imp (fun q S1 g ρ1 H1 J n1 F => fun DD hD => ?_) fun _ _ _ k => k)
  obtain ⟨u, Sz, e2, gz⟩ := nox_ok' (Res.good_bind g)
  cases u
  have n2 := n1.r.push (o := .lst []) (c := .bld 0 []) hD ⟨[], upd_same, RpL.nil, rfl⟩
  have hD0 : more ρ1 S1.n DD S1.n = DD := more_new
  have n02 := n1.trans n2
  refine walk_loop (F.at n2) n2.r e2 (fun ρ' H' n => ?_) fun ρ' S2 H' x v S3 N n p ht' kN => ?_
  · cases ec : compEnd S1.n Sz with
    | ok d S' =>
      rw [ec] at gz
      obtain ⟨rfl, hlt, ne⟩ := end_run n.r ec
      refine gz ρ' H' _ ((n02.trans n).trans ne) ?_
      refine (n.trans ne).rp (d := .ref S1.n) (v := .ref DD) ⟨Nat.lt_succ_self _, ?_⟩
      rw [hD0]
    | ex c2 d2 S' =>
      unfold compEnd at ec
      split at ec <;> cases ec
    | stuck => rw [ec] at gz; exact gz.elim
  · have hDD : ρ' S1.n = DD := by rw [n.a S1.n (Nat.lt_succ_self _), hD0]
    obtain ⟨σ2, S4, e3, h4⟩ := Res.bind_ok ht'
    obtain ⟨e4, rfl⟩ := Res.of_ok e3
    have rx := (n02.trans n).rs rs
    have rs2 : RS X.K L H' ρ' S4.n (wipeD σd (own.map (·.2))) (L2.wipe σ (own.map (·.2))) := rx.s.wipe _
    intro s H0 C cl fp
    refine (hg s H0 C cl fp).run ρ' _ _ S4 H' x v σ2 _ n.r rs2 p e4 fun σ' rs3 hwp => ⟨?_, ?_⟩
    · rw [hwp _ hw, wipe_wipe]
    · intro s1 H01 C1 cl1 fp1
      refine (sts_nil (X := Bk X sc s1 H01 C1 cl1 fp1) (L := L) (G := G) (cf := cf)).run ρ' σ2 σ' S4 H' true S4 _ n.r (RX.blk hx rs3) rfl fun ρ3 H3 n3 => ?_
      rw [if_pos rfl]
      obtain ⟨q2, S5, e5, h5⟩ := Res.bind_ok h4
      intro s2 H02 C2 cl2 fp2
      refine (hi1 s2 H02 C2 cl2 fp2).run noW takes_no ρ3 σ2 σ' S4 H3 _ n3.r (RX.blk hx (n3.rs0 rs3)) (Res.Good.ok e5 fun ρ4 H4 J1 n4 F1 => ?_)
      refine walk_loop F1 n4.r h5 (fun ρ5 H5 n5 => kN ρ5 H5 ((n3.trans n4).trans n5)) fun ρ5 S6 H6 y w S7 N1 n5 p5 ht5 kN1 => ?_
      obtain ⟨σ3, S8, e6, h6⟩ := Res.bind_ok ht5
      obtain ⟨e7, rfl⟩ := Res.of_ok e6
      have rx5 := Nx.rs (X := X) ((n3.trans n4).trans n5) (rx.of rs3)
      have rs5 : RS X.K L H6 ρ5 S8.n (wipeD σ2 vs1) (L2.wipe σ' vs1) := rx5.s.wipe _
      intro s3 H03 C3 cl3 fp3
      refine (hg1 s3 H03 C3 cl3 fp3).run ρ5 _ _ S8 H6 y w σ3 _ n5.r rs5 p5 e7 fun σ'' rs6 hwp1 => ⟨?_, ?_⟩
      · rw [hwp1 _ hw1, wipe_wipe]
      · intro s4 H04 C4 cl4 fp4
        refine (sts_nil (X := Bk X sc s4 H04 C4 cl4 fp4) (L := L) (G := G) (cf := cf)).run ρ5 σ3 σ'' S8 H6 true S8 _ n5.r (RX.blk hx rs6) rfl fun ρ6 H7 n6 => ?_
        rw [if_pos rfl]
        obtain ⟨z, S9, e8, h7⟩ := Res.bind_ok h6
        intro s5 H05 C5 cl5 fp5
        refine (he s5 H05 C5 cl5 fp5).run noW takes_no ρ6 σ3 σ'' S8 H7 _ n6.r (RX.blk hx (n6.rs0 rs6)) (Res.Good.ok e8 fun ρ7 H8 v7 n7 p7 => ?_)
        have nn := ((n3.trans n4).trans n5).trans (n6.trans n7)
        have hD7 : ρ7 S1.n = DD := by rw [nn.a S1.n (Nat.lt_of_lt_of_le (Nat.lt_succ_self _) n.n), hDD]
        have q7 := put_run n7.r p7 h7 fun H9 n9 => kN1 ρ7 H9 ((n6.trans n7).trans n9)
        rw [hD7] at q7
        exact q7
theorem si_lc2 (hc : X.calm = true) (hx : G.exi = none) (hN : X.N.Nodup) (hi : SimI X L G cf tg iter it) (hg : ∀ s H C cl fp, SimG (Bk X sc s H C cl fp) L tg one ti) (hi1 : ∀ s H C cl fp, SimI (Bk X sc s H C cl fp) L G cf tg1 iter1 it1) (hg1 : ∀ s H C cl fp, SimG (Bk X sc s H C cl fp) L tg1 one1 ti1) (he : ∀ s H C cl fp, Sim (Bk X sc s H C cl fp) L G cf elt ce)
    (ok : BlkOk X.N X.env.scope sc own) (hv : ∀ i ∈ vs1, i ∈ own.map (·.2)) (hw : ∀ i ∈ ti, i ∈ own.map (·.2)) (hw1 : ∀ i ∈ ti1, i ∈ vs1) (hs : ∀ x, foldedSetIterable iter X.env x = pure x := by intro _; rfl) (hs1 : ∀ env x, foldedSetIterable iter1 env x = pure x := by intro _ _; rfl) :
    Sim X L G cf (.ListComp elt [⟨tg, iter, [], 0⟩, ⟨tg1, iter1, [], 0⟩] sc pos) (.comp2 it ti one it1 ti1 one1 (own.map (·.2)) vs1 ce) :=
  ⟨fun W tk ρ σd σ S H Q r rs h => ofE (pe_lc2 hc hN (pI tg iter) ok hv (fun s H C cl fp => ⟨fun pins s' σ H' v u Q I rv hh => hh s H C cl fp pins s' u I rv⟩) (fun s H C cl fp => ⟨fun pins s' σ H' Q I hh => hh s H C cl fp pins s' I⟩)
    (fun s H C cl fp => ⟨fun pins s' σ H' R I hh => hh s H C cl fp pins s' I⟩) (fun s H C cl fp => ⟨fun pins s' σ H' v u Q I rv hh => hh s H C cl fp pins s' u I rv⟩) (fun s H C cl fp => ⟨fun pins s' σ H' Q I hh => hh s H C cl fp pins s' I⟩) (fun s H C cl fp => ⟨fun pins s' σ H' Q I hh => hh s H C cl fp pins s' I⟩) hs hs1)
    (lc2_run hx hi hg hi1 hg1 he hw hw1 tk r rs h)⟩
end
end
end QD

/-! QD9: statements. -/
namespace QD
open PySem PySem.Spec PyProof.Rows L2
/-- what is wanted behind a statement whose evaluation ends so -/
def FlK (K : PySem.W.Frag) (L : Pl) (S : Store) (H : Hp) (ρ : Nat → Addr) (W : WX) (f : Fl) (S' : Store) (D : Ends) : Prop := match f with
  | .nx σ1 => ∀ ρ' H' σ', Nx K L S H ρ S' H' ρ' → RS K L H' ρ' S'.n σ1 σ' → D.nx σ' H'
  | .rt d => ∀ ρ' H' v, Nx K L S H ρ S' H' ρ' → Rp K L H' ρ' S'.n d v → D.rt v H'
  | .bk σ1 => ∀ ρ' H' σ', Nx K L S H ρ S' H' ρ' → RS K L H' ρ' S'.n σ1 σ' → D.bk σ' H'
  | .ct σ1 => ∀ ρ' H' σ', Nx K L S H ρ S' H' ρ' → RS K L H' ρ' S'.n σ1 σ' → D.ct σ' H'
  | .xc c d σ1 => ∀ ρ' H' σ', Nx K L S H ρ S' H' ρ' → RS K L H' ρ' S'.n σ1 σ' → W (.ref (L.cla c)) (some (ρ' d)) σ' H'
theorem FlK.at {K : PySem.W.Frag} {L : Pl} {S S1 : Store} {H H1 : Hp} {ρ ρ1 : Nat → Addr} {W : WX} {f : Fl} {S' : Store} {D : Ends} (k : FlK K L S H ρ W f S' D) (n : Nx K L S H ρ S1 H1 ρ1) : FlK K L S1 H1 ρ1 W f S' D := by
  cases f with
  | nx σ1 => exact fun ρ' H' σ' n' => k ρ' H' σ' (n.trans n')
  | rt d => exact fun ρ' H' v n' => k ρ' H' v (n.trans n')
  | bk σ1 => exact fun ρ' H' σ' n' => k ρ' H' σ' (n.trans n')
  | ct σ1 => exact fun ρ' H' σ' n' => k ρ' H' σ' (n.trans n')
  | xc c d σ1 => exact fun ρ' H' σ' n' => k ρ' H' σ' (n.trans n')
section
variable (X : Cx) (L : Pl) (G : Gd) (cf : Nat → List D → Store → Res D)
structure SimS (st : Stmt) (c : Stm) : Prop where
  run : ∀ (W : WX) (_ : Takes X W) (ρ : Nat → Addr) (σd : Sl) (σ : L2.St) (S : Store) (H : Hp) (f : Fl) (S' : Store) (D : Ends), Rel X.K L H ρ S → RX X L G H ρ S.n σd σ → exS cf G c σd S = .ok f S' → FlK X.K L S H ρ W f S' D → wS X st D σ H
structure SimSs (st : List Stmt) (c : Ss) : Prop where
  run : ∀ (W : WX) (_ : Takes X W) (ρ : Nat → Addr) (σd : Sl) (σ : L2.St) (S : Store) (H : Hp) (f : Fl) (S' : Store) (D : Ends), Rel X.K L H ρ S → RX X L G H ρ S.n σd σ → exSs cf G c σd S = .ok f S' → FlK X.K L S H ρ W f S' D → wSs X st D σ H
structure SimMs (cs : List MatchCase) (ms : Ms) : Prop where
  run : ∀ (W : WX) (_ : Takes X W) (ρ : Nat → Addr) (σd : Sl) (σ : L2.St) (S : Store) (H : Hp) (x : Str) (f : Fl) (S' : Store) (D : Ends), Rel X.K L H ρ S → RX X L G H ρ S.n σd σ → exMs cf x G ms σd S = .ok f S' → FlK X.K L S H ρ W f S' D →
    ∀ (pins : List (Addr × Obj)) (s : Shared) (t : Tok) (first : Bool), Inv X pins σ H s → wpAny (model X.prog X.w) X.A (matchCases cs X.env (.str x t) first) (SP X pins D) X.xe s
end
theorem bx_good {α : Type} {r : Res α} {σ : Sl} {f : α → Store → Res Fl} {fl : Fl} {S' : Store} (h : r.bx σ f = .ok fl S') : r.Good (fun a S1 => f a S1 = .ok fl S') (fun c d S1 => fl = .xc c d σ ∧ S' = S1) := by
  cases r with
  | ok a S1 => exact h
  | ex c d S1 => cases h; exact ⟨rfl, rfl⟩
  | stuck => cases h
theorem xc_k {X : Cx} {L : Pl} {G : Gd} {S : Store} {H : Hp} {ρ : Nat → Addr} {W : WX} {fl : Fl} {S' : Store} {D : Ends} {σd : Sl} {σ : L2.St} (k : FlK X.K L S H ρ W fl S' D) (rs : RX X L G H ρ S.n σd σ) : ∀ c d S1, (fl = .xc c d σd ∧ S' = S1) → kX X.K L S H ρ (WE W σ) c d S1 := by
  rintro c d S1 ⟨rfl, rfl⟩ ρ' H' n
  exact k ρ' H' σ n (n.rs rs).s
section
variable {X : Cx} {L : Pl} {G : Gd} {cf : Nat → List D → Store → Res D} {pos pos' : Pos}
theorem sss_nil : SimSs X L G cf [] .nil := ⟨fun W tk ρ σd σ S H f S' D r rs h k => by
  cases h
  exact ofSs pss_nil (k ρ H σ (Nx.refl r) rs.s)⟩
theorem sss_cons {st : Stmt} {rest : List Stmt} {c : Stm} {cs : Ss} (h1 : SimS X L G cf st c) (h2 : SimSs X L G cf rest cs) : SimSs X L G cf (st :: rest) (.cons c cs) := by
  refine ⟨fun W tk ρ σd σ S H f S' D r rs h k => ?_⟩
  obtain ⟨f1, S1, e1, h3⟩ := Res.bind_ok (show (exS cf G c σd S).bind (fun f S1 => match f with
    | .nx σ1 => exSs cf G cs σ1 S1
    | f => .ok f S1) = .ok f S' from h)
  refine ofSs (pss_cons (pS st) (pSs rest)) ?_
  cases f1 with
  | nx σ1 => exact h1.run W tk ρ σd σ S H _ S1 _ r rs e1 fun ρ' H' σ' n rs' => h2.run W tk ρ' σ1 σ' S1 H' f S' D n.r ((n.rs rs).of rs') h3 (k.at n)
  | rt d => cases h3; exact h1.run W tk ρ σd σ S H _ _ _ r rs e1 k
  | bk σ1 => cases h3; exact h1.run W tk ρ σd σ S H _ _ _ r rs e1 k
  | ct σ1 => cases h3; exact h1.run W tk ρ σd σ S H _ _ _ r rs e1 k
  | xc c d σ1 => cases h3; exact h1.run W tk ρ σd σ S H _ _ _ r rs e1 k
theorem ss_set {i : Nat} {x : Str} {e : Expr} {c : C} (hNd : X.N.Nodup) (hi : X.N[i]? = some x) (hx : Loc X.env.scope x) (hf : X.fn x = true ∨ X.env.scope.names.lookup x = some .local) (ha : Sim X L G cf e c) (hs : swapsWith e (some (.Name x pos')) pos.line X.env = pure false := by rfl) : SimS X L G cf (.Assign [.Name x pos'] e pos) (.asg i c) := by
  refine ⟨fun W tk ρ σd σ S H f S' D r rs h k => ?_⟩
  replace h := bx_good (r := evC cf G c σd S) h
  refine ofS (ps_set hNd hi hx (pE e) hs hf) (ha.run W tk ρ σd σ S H _ r rs (h.imp (fun d S1 g ρ' H' v n p => ?_) (xc_k k rs)))
  cases g
  exact k ρ' H' _ n ((n.rs rs).s.set i p)
theorem b_pg {sc : Scope} {e : Expr} : ∀ s H C cl fp, PG (Bk X sc s H C cl fp) e (bG X sc e) := fun s H C cl fp => ⟨fun pins s' σ H' v u Q I rv hh => hh s H C cl fp pins s' u I rv⟩
theorem b_pts {sc : Scope} {e : List Expr} : ∀ s H C cl fp, PTs (Bk X sc s H C cl fp) e (bTs X sc e) := fun s H C cl fp => ⟨fun pins s' σ H' Q I hh => hh s H C cl fp pins s' I⟩
theorem b_pe {sc : Scope} {e : Expr} : ∀ s H C cl fp, PE (Bk X sc s H C cl fp) e (bE X sc e) := fun s H C cl fp => ⟨fun pins s' σ H' Q I hh => hh s H C cl fp pins s' I⟩
theorem b_pi {sc : Scope} {tg e : Expr} : ∀ s H C cl fp, PI (Bk X sc s H C cl fp) tg e (bI X sc tg e) := fun s H C cl fp => ⟨fun pins s' σ H' R I hh => hh s H C cl fp pins s' I⟩
section
variable {elt tg iter tg1 iter1 : Expr} {ifs : List Expr} {sc : Scope} {own : List (Str × Nat)} {it it1 : Iter} {ti ti1 : List Nat} {one one1 : Bool} {ci : Cs} {ce : C} {vs1 : List Nat} {py cpos : Pos}
theorem ss_setLc {i : Nat} {y : Str} (hNd : X.N.Nodup) (hc : X.calm = true) (hx : G.exi = none) (hy : X.N[i]? = some y) (hyl : X.env.scope.names.lookup y = some .local) (hsw : swapsWith (.ListComp elt [⟨tg, iter, ifs, 0⟩] sc cpos) (some (.Name y py)) pos.line X.env = pure true)
    (hi : SimI X L G cf tg iter it) (hg : ∀ s H C cl fp, SimG (Bk X sc s H C cl fp) L tg one ti) (ht : ∀ s H C cl fp, SimTs (Bk X sc s H C cl fp) L G cf ifs ci) (he : ∀ s H C cl fp, Sim (Bk X sc s H C cl fp) L G cf elt ce)
    (ok : BlkOk X.N X.env.scope sc own) (hw : ∀ i ∈ ti, i ∈ own.map (·.2)) (hs : ∀ x, foldedSetIterable iter X.env x = pure x := by intro _; rfl) : SimS X L G cf (.Assign [.Name y py] (.ListComp elt [⟨tg, iter, ifs, 0⟩] sc cpos) pos) (.asg i (.comp it ti one (own.map (·.2)) ci ce)) := by
  refine ⟨fun W tk ρ σd σ S H f S' D r rs h k => ?_⟩
  replace h := bx_good (r := evC cf G (.comp it ti one (own.map (fun x : Str × Nat => x.2)) ci ce) σd S) h
  refine ofS (ps_setLc hc hNd hy hyl hsw (pI tg iter) ok b_pg b_pts b_pe hs) ?_
  refine lc_run hx hi hg ht he hw tk r rs (h.imp (fun d S1 g ρ' H' v n p => ?_) (xc_k k rs))
  cases g
  exact k ρ' H' _ n ((n.rs rs).s.set i p)
theorem ss_setLc2 {i : Nat} {y : Str} (hNd : X.N.Nodup) (hc : X.calm = true) (hx : G.exi = none) (hy : X.N[i]? = some y) (hyl : X.env.scope.names.lookup y = some .local) (hsw : swapsWith (.ListComp elt [⟨tg, iter, [], 0⟩, ⟨tg1, iter1, [], 0⟩] sc cpos) (some (.Name y py)) pos.line X.env = pure true)
    (hi : SimI X L G cf tg iter it) (hg : ∀ s H C cl fp, SimG (Bk X sc s H C cl fp) L tg one ti) (hi1 : ∀ s H C cl fp, SimI (Bk X sc s H C cl fp) L G cf tg1 iter1 it1) (hg1 : ∀ s H C cl fp, SimG (Bk X sc s H C cl fp) L tg1 one1 ti1) (he : ∀ s H C cl fp, Sim (Bk X sc s H C cl fp) L G cf elt ce)
    (ok : BlkOk X.N X.env.scope sc own) (hv : ∀ i ∈ vs1, i ∈ own.map (·.2)) (hw : ∀ i ∈ ti, i ∈ own.map (·.2)) (hw1 : ∀ i ∈ ti1, i ∈ vs1) (hs : ∀ x, foldedSetIterable iter X.env x = pure x := by intro _; rfl) (hs1 : ∀ env x, foldedSetIterable iter1 env x = pure x := by intro _ _; rfl) :
    SimS X L G cf (.Assign [.Name y py] (.ListComp elt [⟨tg, iter, [], 0⟩, ⟨tg1, iter1, [], 0⟩] sc cpos) pos) (.asg i (.comp2 it ti one it1 ti1 one1 (own.map (·.2)) vs1 ce)) := by
  refine ⟨fun W tk ρ σd σ S H f S' D r rs h k => ?_⟩
  replace h := bx_good (r := evC cf G (.comp2 it ti one it1 ti1 one1 (own.map (fun x : Str × Nat => x.2)) vs1 ce) σd S) h
  refine ofS (ps_setLc2 hc hNd hy hyl hsw (pI tg iter) ok hv b_pg b_pts b_pi b_pg b_pts b_pe hs hs1) ?_
  refine lc2_run hx hi hg hi1 hg1 he hw hw1 tk r rs (h.imp (fun d S1 g ρ' H' v n p => ?_) (xc_k k rs))
  cases g
  exact k ρ' H' _ n ((n.rs rs).s.set i p)
end
theorem ss_asgT {tgs : List Expr} {kk : Nat} {tpos : Pos} {is : List Nat} {e : Expr} {c : C} (ha : Sim X L G cf e c) (hg : SimG X L (.Tuple tgs kk tpos) false is) (hs : swapsWithSole [.Tuple tgs kk tpos] e pos.line X.env = pure false := by rfl) (hw : swappedStores [.Tuple tgs kk tpos] e X.env = pure none := by rfl)
    (h1 : (assignEach [.Tuple tgs kk tpos] X.env).map (·.2) = [assign (.Tuple tgs kk tpos) X.env] := by rfl) : SimS X L G cf (.Assign [.Tuple tgs kk tpos] e pos) (.asgT is c) := by
  refine ⟨fun W tk ρ σd σ S H f S' D r rs h k => ?_⟩
  replace h := bx_good (r := evC cf G c σd S) h
  refine ofS (ps_asg (pE e) (pG _) hs hw h1) (ha.run W tk ρ σd σ S H _ r rs (h.imp (fun d S1 g ρ' H' v n p => ?_) (xc_k k rs)))
  obtain ⟨σ1, S2, e2, h4⟩ := Res.bind_ok g
  obtain ⟨e3, rfl⟩ := Res.of_ok e2
  cases h4
  exact hg.run ρ' σd σ _ H' d v σ1 _ n.r (n.rs rs).s p e3 fun σ' rs' _ => k ρ' H' σ' n rs'
theorem ss_setI {o i e : Expr} {co ci cv : C} {tpos : Pos} (hv : Sim X L G cf e cv) (ho : Sim X L G cf o co) (hi : Sim X L G cf i ci)
    (ha : ∀ v, assign (.Subscript o i tpos) X.env v = (do
      let ov ← holding [v] (eval o X.env)
      let iv ← holding [v, ov] (eval i X.env)
      standAt tpos
      holding [v, ov, iv] (setItem ov iv v)
      release [v, ov, iv] []) := by intro _; rfl)
    (hs : swapsWithSole [.Subscript o i tpos] e pos.line X.env = pure false := by rfl) (hw : swappedStores [.Subscript o i tpos] e X.env = pure none := by rfl)
    (h1 : (assignEach [.Subscript o i tpos] X.env).map (·.2) = [assign (.Subscript o i tpos) X.env] := by rfl) : SimS X L G cf (.Assign [.Subscript o i tpos] e pos) (.setI co ci cv) := by
  refine ⟨fun W tk ρ σd σ S H f S' D r rs h k => ?_⟩
  replace h := bx_good (r := evC cf G cv σd S) h
  refine ofS (ps_asg (pE e) (pg_sub (pE o) (pE i) set_list ha) hs hw h1) (hv.run W tk ρ σd σ S H _ r rs (h.imp (fun x S1 g ρ1 H1 v n1 p1 => ?_) (xc_k k rs)))
  replace g := bx_good (r := evC cf G co σd S1) g
  refine ho.run W tk ρ1 σd σ S1 H1 _ n1.r (n1.rs rs) (g.imp (fun a S2 g2 ρ2 H2 v2 n2 p2 => ?_) (xc_k (k.at n1) (n1.rs rs)))
  replace g2 := bx_good (r := evC cf G ci σd S2) g2
  have n12 := n1.trans n2
  refine hi.run W tk ρ2 σd σ S2 H2 _ n2.r (n12.rs rs) (g2.imp (fun y S3 h5 ρ3 H3 v3 n3 p3 => ?_) (xc_k (k.at n12) (n12.rs rs)))
  split at h5
  · rename_i pp kk
    split at h5
    · rename_i l el
      split at h5
      · rename_i j ej
        cases h5
        obtain ⟨_, rfl⟩ := (show pp < S3.n ∧ v2 = .ref (ρ3 pp) from n3.rp p2)
        cases (show v3 = .int kk from p3)
        obtain ⟨us, s, q⟩ := n3.r.cell pp _ el
        have p4 := n3.rp (n2.rp p1)
        refine ⟨_, us, kk, j, rfl, rfl, s, by rw [← q.length]; exact ej, ?_⟩
        have n4 := n3.r.write (o := .lst (us.set j v)) (c := .lst true (l.set j x)) el True.intro True.intro ⟨us.set j v, upd_same, (RpL.set j q p4).mono (TM.wr s fun z => z) (Agree.refl _ _) (Nat.le_refl _)⟩
        have nn := ((n1.trans n2).trans n3).trans n4
        exact k ρ3 _ σ nn (nn.rs rs).s
      · cases h5
    · cases h5
  · cases h5
theorem ss_setF {o e : Expr} {g : Str} {co cv : C} {tpos : Pos} (E : EnvOk X L G cf) (hv : Sim X L G cf e cv) (ho : Sim X L G cf o co) (hs : swapsWith e (some (.Attribute o g tpos)) pos.line X.env = pure false := by rfl) : SimS X L G cf (.Assign [.Attribute o g tpos] e pos) (.setF co g cv) := by
  refine ⟨fun W tk ρ σd σ S H f S' D r rs h k => ?_⟩
  replace h := bx_good (r := evC cf G cv σd S) h
  have hfin : ∀ {x : QD.D} {S1 : Store} {a : QD.D} {S2 : Store}, (match a with
    | .ref p => (match S2.get p with
      | some (.ins c fs) => if (G.flds c).contains g = true ∧ fs.length < 1000 then Res.ok (Fl.nx σd) (S2.set p (.ins c (putD g x fs))) else .stuck
      | _ => .stuck)
    | _ => .stuck) = .ok f S' → ∃ p c fs, a = .ref p ∧ S2.get p = some (.ins c fs) ∧ (G.flds c).contains g = true ∧ fs.length < 1000 ∧ f = .nx σd ∧ S' = S2.set p (.ins c (putD g x fs)) := by
    intro x S1 a S2 h4
    split at h4
    · split at h4
      · split at h4
        · rename_i hc
          cases h4
          exact ⟨_, _, _, rfl, by assumption, hc.1, hc.2, rfl, rfl⟩
        · cases h4
      · cases h4
    · cases h4
  refine ofS (ps_fld (pE o) (pE e) hs) (hv.run W tk ρ σd σ S H _ r rs (h.imp (fun x S1 g1 ρ1 H1 v n1 p1 => ?_) (xc_k k rs)))
  replace g1 := bx_good (r := evC cf G co σd S1) g1
  refine ho.run W tk ρ1 σd σ S1 H1 _ n1.r (n1.rs rs) (g1.imp (fun a S2 h4 ρ2 H2 v2 n2 p2 => ?_) (xc_k (k.at n1) (n1.rs rs)))
  obtain ⟨pp, c, fs, rfl, el, hc1, hc2, rfl, rfl⟩ := hfin (S1 := S1) h4
  obtain ⟨cl, na⟩ := (E.cls c).fld g hc1
  obtain ⟨_, rfl⟩ := (show pp < S2.n ∧ v2 = .ref (ρ2 pp) from p2)
  obtain ⟨dx, us, s, q⟩ := n2.r.cell pp _ el
  have p4 := n2.rp p1
  refine ⟨_, _, dx, us, rfl, s, cl, na, by rw [← q.length]; exact hc2, ?_⟩
  have n4 := n2.r.write (o := .ins (L.cla c) dx (putF g v us)) (c := .ins c (putD g x fs)) el True.intro True.intro ⟨dx, putF g v us, upd_same, (RpF.put g q p4).mono (TM.wr s fun z => z) (Agree.refl _ _) (Nat.le_refl _)⟩
  have nn := (n1.trans n2).trans n4
  exact k ρ2 _ σ nn (nn.rs rs).s
theorem ss_expr {e : Expr} {c : C} (ha : Sim X L G cf e c) (hs : swapsWith e none pos.line X.env = pure false := by rfl) : SimS X L G cf (.Expr e pos) (.expr c) := by
  refine ⟨fun W tk ρ σd σ S H f S' D r rs h k => ?_⟩
  replace h := bx_good (r := evC cf G c σd S) h
  refine ofS (ps_expr (pE e) hs) (ha.run W tk ρ σd σ S H _ r rs (h.imp (fun d S1 g ρ' H' v n p => ?_) (xc_k k rs)))
  cases g
  exact k ρ' H' σ n (n.rs rs).s
theorem ss_if {t : Expr} {a b : List Stmt} {ct : C} {ca cb : Ss} (ht : SimT X L G cf t ct) (ha : SimSs X L G cf a ca) (hb : SimSs X L G cf b cb) : SimS X L G cf (.If t a b pos) (.ifs ct ca cb) := by
  refine ⟨fun W tk ρ σd σ S H f S' D r rs h k => ?_⟩
  replace h := bx_good (r := evC cf G ct σd S) h
  refine ofS (ps_if (pT t) (pSs a) (pSs b)) (ht.run W tk ρ σd σ S H _ r rs (h.imp (fun x S1 g => ?_) (xc_k k rs)))
  obtain ⟨kb, S2, e2, h4⟩ := Res.bind_ok g
  obtain ⟨e3, rfl⟩ := Res.of_ok e2
  refine ⟨kb, e3, fun ρ' H' n => ?_⟩
  cases kb with
  | true =>
    rw [if_pos rfl] at h4 ⊢
    exact ha.run W tk ρ' σd σ S2 H' f S' D n.r (n.rs rs) h4 (k.at n)
  | false =>
    rw [if_neg Bool.false_ne_true] at h4 ⊢
    exact hb.run W tk ρ' σd σ S2 H' f S' D n.r (n.rs rs) h4 (k.at n)
theorem ss_ret {e : Expr} {c : C} (ha : Sim X L G cf e c) : SimS X L G cf (.Return (some e) pos) (.ret c) := by
  refine ⟨fun W tk ρ σd σ S H f S' D r rs h k => ?_⟩
  replace h := bx_good (r := evC cf G c σd S) h
  refine ofS (ps_ret (pE e)) (ha.run W tk ρ σd σ S H _ r rs (h.imp (fun d S1 g => ?_) (xc_k k rs)))
  cases g
  exact k
theorem ss_retN : SimS X L G cf (.Return none pos) .retN := ⟨fun W tk ρ σd σ S H f S' D r rs h k => by
  cases h
  exact ofS ps_retN (k ρ H .non (Nx.refl r) rfl)⟩
theorem ss_pass : SimS X L G cf (.Pass pos) .pass := ⟨fun W tk ρ σd σ S H f S' D r rs h k => by
  cases h
  exact ofS ps_pass (k ρ H σ (Nx.refl r) rs.s)⟩
theorem ss_doc {x j} : SimS X L G cf (.Expr (.Constant (.str x) j pos) pos') .pass := ⟨fun W tk ρ σd σ S H f S' D r rs h k => by
  cases h
  exact ofS ps_doc (k ρ H σ (Nx.refl r) rs.s)⟩
theorem ss_brk : SimS X L G cf (.Break pos) .brk := ⟨fun W tk ρ σd σ S H f S' D r rs h k => by
  cases h
  exact ofS ps_break (k ρ H σ (Nx.refl r) rs.s)⟩
theorem ss_cont : SimS X L G cf (.Continue pos) .cont := ⟨fun W tk ρ σd σ S H f S' D r rs h k => by
  cases h
  exact ofS ps_continue (k ρ H σ (Nx.refl r) rs.s)⟩
theorem ss_never {st : Stmt} : SimS X L G cf st .never := ⟨fun W tk ρ σd σ S H f S' D r rs h k => by cases h⟩

/-- x op= y -/
theorem aug_run {i : Nat} {x : Str} {e : Expr} {te : TE} {op : Operator} {D : Ends} {σ : L2.St} {H : Hp} {v0 : V} (hN : X.N.Nodup) (hi : X.N[i]? = some x) (hx : Loc X.env.scope x) (hf : X.fn x = true ∨ X.env.scope.names.lookup x = some .local) (he : PE X e te) (h0 : σ[i]? = some (some v0))
    (h : te σ H fun y H1 => ∀ (pins : List (Addr × Obj)) (s : Shared) (u w : Value), Inv X pins σ H1 s → RelV v0 u → RelV y w → wpAny (model X.prog X.w) X.A (inplaceOp op u w) (EP X pins σ fun z H2 => D.nx (σ.set i (some z)) H2) X.xe s) : wS X (.AugAssign (.Name x pos') op e pos) D σ H := by
  intro pins s I
  obtain ⟨mp, hnd, hlook⟩ := I.loc
  obtain ⟨u0, ru0, lk⟩ := hlook i x v0 hi h0 (hx.elim .inl fun q => .inr (.inl q))
  have rest : wpAny (model X.prog X.w) X.A (eval e X.env) (fun w1 t1 => wpAny (model X.prog X.w) X.A (inplaceOp op u0 w1) (fun z1 t2 => wpAny (model X.prog X.w) X.A (storeName X.env x z1) (fun _ => SP X pins D .next) X.xe t2) X.xe t1) X.xe s :=
    thn (he.run pins s σ H _ I h) fun w1 t1 ⟨y1, G1, J1, ry, q1⟩ => thn (q1 pins t1 u0 w1 J1 ru0 ry) fun z1 t2 ⟨zv, G2, J2, rz, q2⟩ => store_ok J2 hN hi hx rz (fun t3 J3 => ⟨_, G2, J3, q2⟩) hf
  have notFree : ¬ X.env.kindOf x = some .free := fun (k : X.env.scope.names.lookup x = some .free) => by
    rcases hx with q | q <;> (rw [k] at q; cases q)
  refine wpAny_AugAssign_Name ?_
  rcases lk with ⟨k1, k2⟩ | ⟨k1 | k1, c, k2, k3⟩
  · exact wpAny_loadName_local I.ok.kind k1 hnd k2 rest
  · exact wpAny_loadName_cell I.ok.kind k1 k2 k3 rest
  · exact (notFree k1).elim
theorem ss_aug {i : Nat} {x : Str} {e : Expr} {c : C} {op : Operator} {o : Op} (hN : X.N.Nodup) (hi : X.N[i]? = some x) (hx : Loc X.env.scope x) (hf : X.fn x = true ∨ X.env.scope.names.lookup x = some .local) (ho : OpG X L (inplaceOp op) fun x y S => evAug G cf o x y S) (ha : Sim X L G cf e c) : SimS X L G cf (.AugAssign (.Name x pos') op e pos) (.aug i o c) := by
  refine ⟨fun W tk ρ σd σ S H f S' D r rs h k => ?_⟩
  have h0 : (match σd[i]? with
    | some (some x) => (evC cf G c σd S).bx σd fun y S1 => (evAug G cf o x y S1).bx σd fun z S2 => .ok (.nx (σd.set i (some z))) S2
    | _ => .stuck) = .ok f S' := h
  split at h0
  · rename_i d0 e0
    obtain ⟨v0, e1, p0⟩ := rs.s.get e0
    have h1 := bx_good (r := evC cf G c σd S) h0
    refine aug_run hN hi hx hf (pE e) e1 (ha.run W tk ρ σd σ S H _ r rs (h1.imp (fun y S1 g ρ' H' v n p => ?_) (xc_k k rs)))
    have g := bx_good (r := evAug G cf o d0 y S1) g
    intro pins s u w I ru rw'
    refine ho W tk ρ' S1 H' d0 y v0 v σ _ n.r (n.rp p0) p (g.imp (fun z S2 g2 ρ2 H2 v2 n2 p2 => ?_) (xc_k (k.at n) (n.rs rs))) pins s u w I ru rw'
    cases g2
    have nn := n.trans n2
    exact k ρ2 H2 _ nn ((nn.rs rs).s.set i p2)
  · cases h0
/-- .. of own classes, of ints -/
theorem au_op (E : EnvOk X L G cf) {o : Op} (od : OpD X L (inplaceOp (opL o)) (fun S x y => match x, y with | .int _, .int _ => evOp S o x y | _, _ => .stuck)) : OpG X L (inplaceOp (opL o)) fun x y S => evAug G cf o x y S := by
  intro W tk ρ S H x y vx vy σ Q r px py g pins s v u I rv ru
  change (evAug G cf o x y S).Good _ _ at g
  cases x with
  | int i =>
    cases y with
    | int j => exact og_od od W tk ρ S H (.int i) (.int j) vx vy σ Q r px py g pins s v u I rv ru
    | _ => exact g.elim
  | ref i =>
    cases ex : insOf S (.ref i) with
    | none =>
      unfold evAug at g
      dsimp only at g
      rw [ex] at g
      exact g.elim
    | some c =>
      unfold evAug at g
      dsimp only at g
      rw [ex] at g
      dsimp only at g
      unfold evBin at g
      rw [ex] at g
      dsimp only at g
      split at g
      · rename_i f ef
        split at g
        · rename_i hy
          obtain ⟨i', fs, e, ei⟩ := ins_of ex
          cases e
          obtain ⟨hi, rfl⟩ := (show i < S.n ∧ vx = .ref (ρ i) from px)
          obtain rfl : v = Value.ref (ρ i) := rv
          obtain ⟨O, cl, fa, fd, ps, j, kk, hf1, hf2, F, hbn, hl⟩ := (E.cls c).op _ f ef
          have hk : kk = 2 := (F.ar [.ref i, y] S g.ns).symm
          subst hk
          obtain ⟨ox, od', J⟩ := own_at r ei I
          obtain ⟨cd, hc, hm⟩ := O.mro
          obtain ⟨rc, hr, hp⟩ := O.refl o
          obtain ⟨tb, hb, hR, _⟩ := right_of o O r I py ru hy
          refine Own.augOp I.kIn J hc hm (O.inpl o) (obj_no o X.K) (Own.bin1 I.kIn J hc hm (f := fa) (by rw [opS_eq]; exact hf1) (by rw [opR_eq]; exact hr) hp hb hR ?_)
          rw [opS_eq]
          refine Own.tryOne I.kIn J hf1 hf2 ?_
          exact wpAny_mono (own_two F (F.room.mono (by omega)) I.env0 hbn I r px py rfl ru g (fun e t c => pass tk σ pins H s e t I c)) (fun w s' ⟨z, H', I', rz, q⟩ => SlX.cmpback rz ⟨z, H', I', rz, q⟩) fun _ _ e => e
        · exact g.elim
      · exact g.elim
  | _ => exact g.elim
theorem od_no {f : Value → Value → Sem Value} {g : Store → D → D → Res D} (h : ∀ S x y d S', g S x y ≠ .ok d S') : OpD X L f g := fun ρ S H x y d S' vx vy r px py e => (h S x y d S' e).elim
theorem au_intN {o : Op} (h : (match o with | .band => true | .bor => true | _ => false) = true) : True := True.intro

/-! ### for -/
theorem loop_end {body : D → Sl → Store → Res Fl} {q : Sq} {J : It} {K : PySem.W.Frag} {D : Ends} {W0 : WX} {step : V → L2.St → Hp → (L2.St → Hp → Prop) → Prop} {H1 : Hp} {ρ1 : Nat → Addr} {S1 S' : Store} {σd : Sl} {σ : L2.St} {f : Fl} (F : Feed K L q J H1 ρ1 S1) (r : Rel K L H1 ρ1 S1) (rs : RS K L H1 ρ1 S1.n σd σ) (h : loopSq body q σd S1 = .ok f S')
    (k : FlK K L S1 H1 ρ1 W0 f S' D)
    (hstep : ∀ ρ' S2 H' d x σd2 σ2 f2 S3 (N : L2.St → Hp → Prop), Nx K L S1 H1 ρ1 S2 H' ρ' → RS K L H' ρ' S2.n σd2 σ2 → Rp K L H' ρ' S2.n d x → body d σd2 S2 = .ok f2 S3 → FlK K L S2 H' ρ' W0 f2 S3 { D with nx := N, ct := N, bk := D.nx } → step x σ2 H' N) :
    ∃ W : Nat → Nat → L2.St → Hp → Prop, (∃ m, W 0 m σ H1) ∧ ∀ i m σ H, W i m σ H →
      (J.stop i H ∧ D.nx σ H) ∨ (J.go i H ∧ ∃ N : L2.St → Hp → Prop, (∀ σ' H', N σ' H' → ∃ m', m' < m ∧ W (i + 1) m' σ' H') ∧ ∀ x H', J.yld i H x H' → step x σ H' N) := by
  -- a turn's end
  have turn : ∀ {g : Sl → Store → Res Fl} {ρ' : Nat → Addr} {S2 : Store} {H' : Hp} {f2 : Fl} {S3 : Store} {N : L2.St → Hp → Prop}, Nx K L S1 H1 ρ1 S2 H' ρ' →
      (match f2 with
        | .nx σ1 => g σ1 S3
        | .ct σ1 => g σ1 S3
        | .bk σ1 => Res.ok (Fl.nx σ1) S3
        | .rt d => Res.ok (Fl.rt d) S3
        | .xc c d σ1 => Res.ok (Fl.xc c d σ1) S3) = .ok f S' → (∀ σ1 ρ3 H3 σ3, Nx K L S2 H' ρ' S3 H3 ρ3 → RS K L H3 ρ3 S3.n σ1 σ3 → g σ1 S3 = .ok f S' → N σ3 H3) → FlK K L S2 H' ρ' W0 f2 S3 { D with nx := N, ct := N, bk := D.nx } := by
    intro g ρ' S2 H' f2 S3 N n e hN
    cases f2 with
    | nx σ1 => exact fun ρ3 H3 σ3 n3 rs3 => hN σ1 ρ3 H3 σ3 n3 rs3 e
    | ct σ1 => exact fun ρ3 H3 σ3 n3 rs3 => hN σ1 ρ3 H3 σ3 n3 rs3 e
    | bk σ1 => cases e; exact fun ρ3 H3 σ3 n3 rs3 => k ρ3 H3 σ3 (n.trans n3) rs3
    | rt d => cases e; exact fun ρ3 H3 v n3 p3 => k ρ3 H3 v (n.trans n3) p3
    | xc c d σ1 => cases e; exact fun ρ3 H3 σ3 n3 rs3 => k ρ3 H3 σ3 (n.trans n3) rs3
  cases q with
  | fix l =>
    refine ⟨fun i m σ H => m = l.length - i ∧ ∃ ρ' S2 σd2, Nx K L S1 H1 ρ1 S2 H ρ' ∧ RS K L H ρ' S2.n σd2 σ ∧ loopFix body (l.drop i) σd2 S2 = .ok f S', ⟨l.length, by simp, ρ1, S1, σd, Nx.refl r, rs, h⟩, ?_⟩
    rintro i m σ H ⟨rfl, ρ', S2, σd2, n, rs2, e⟩
    obtain ⟨f1, f2⟩ := F ρ' S2 H n i
    by_cases hi : i < l.length
    · rw [drop_cons hi] at e
      obtain ⟨fl, S3, e1, e2⟩ := Res.bind_ok (show (body l[i] σd2 S2).bind (fun f S1 => match f with
        | .nx σ1 => loopFix body (l.drop (i + 1)) σ1 S1
        | .ct σ1 => loopFix body (l.drop (i + 1)) σ1 S1
        | .bk σ1 => Res.ok (Fl.nx σ1) S1
        | .rt d => Res.ok (Fl.rt d) S1
        | .xc c d σ1 => Res.ok (Fl.xc c d σ1) S1) = .ok f S' from e)
      obtain ⟨g1, g2⟩ := f1 l[i] (List.getElem?_eq_getElem hi)
      refine .inr ⟨g1, fun σ' H' => ∃ ρ3 σd3, Nx K L S1 H1 ρ1 S3 H' ρ3 ∧ RS K L H' ρ3 S3.n σd3 σ' ∧ loopFix body (l.drop (i + 1)) σd3 S3 = .ok f S', fun σ' H' ⟨ρ3, σd3, n3, rs3, e3⟩ => ⟨l.length - (i + 1), by omega, rfl, ρ3, S3, σd3, n3, rs3, e3⟩, fun x H' y => ?_⟩
      obtain ⟨n3, p3⟩ := g2 x H' y
      refine hstep ρ' S2 H' l[i] x σd2 σ fl S3 _ (n.trans n3) (n3.rs0 rs2) p3 e1 (turn (g := fun σ1 S1 => loopFix body (l.drop (i + 1)) σ1 S1) (n.trans n3) e2 fun σ1 ρ4 H4 σ4 n4 rs4 e4 => ⟨ρ4, σ1, (n.trans n3).trans n4, rs4, e4⟩)
    · rw [List.drop_eq_nil_of_le (by omega)] at e
      cases e
      exact .inl ⟨f2 (by omega), k ρ' H σ n rs2⟩
  | live i0 k0 =>
    refine ⟨fun i m σ H => ∃ ρ' S2 σd2, Nx K L S1 H1 ρ1 S2 H ρ' ∧ RS K L H ρ' S2.n σd2 σ ∧ loopLive body i0 m i σd2 S2 = .ok f S', ⟨k0, ρ1, S1, σd, Nx.refl r, rs, h⟩, ?_⟩
    rintro i m σ H ⟨ρ', S2, σd2, n, rs2, e⟩
    cases m with
    | zero =>
      have e' : (match S2.get i0 with
        | some (.lst _ l) => if l.length ≤ i then Res.ok (Fl.nx σd2) S2 else .stuck
        | _ => .stuck) = .ok f S' := e
      split at e'
      · rename_i w l el
        split at e'
        · rename_i hl
          cases e'
          exact .inl ⟨(F ρ' S' H n w l i el).2 hl, k ρ' H σ n rs2⟩
        · cases e'
      · cases e'
    | succ m =>
      have e' : (match S2.get i0 with
        | some (.lst _ l) => (match l[i]? with
          | none => Res.ok (Fl.nx σd2) S2
          | some x => (body x σd2 S2).bind fun f S1 => match f with
            | .nx σ1 => loopLive body i0 m (i + 1) σ1 S1
            | .ct σ1 => loopLive body i0 m (i + 1) σ1 S1
            | .bk σ1 => Res.ok (Fl.nx σ1) S1
            | .rt d => Res.ok (Fl.rt d) S1
            | .xc c d σ1 => Res.ok (Fl.xc c d σ1) S1)
        | _ => .stuck) = .ok f S' := e
      split at e'
      · rename_i w l el
        obtain ⟨f1, f2⟩ := F ρ' S2 H n w l i el
        split at e'
        · rename_i hx
          cases e'
          exact .inl ⟨f2 (List.getElem?_eq_none_iff.mp hx), k ρ' H σ n rs2⟩
        · rename_i x hx
          obtain ⟨fl, S3, e1, e2⟩ := Res.bind_ok e'
          obtain ⟨g1, g2⟩ := f1 x hx
          refine .inr ⟨g1, fun σ' H' => ∃ ρ3 σd3, Nx K L S1 H1 ρ1 S3 H' ρ3 ∧ RS K L H' ρ3 S3.n σd3 σ' ∧ loopLive body i0 m (i + 1) σd3 S3 = .ok f S', fun σ' H' ⟨ρ3, σd3, n3, rs3, e3⟩ => ⟨m, Nat.lt_succ_self _, ρ3, S3, σd3, n3, rs3, e3⟩, fun y H' z => ?_⟩
          obtain ⟨n3, p3⟩ := g2 y H' z
          refine hstep ρ' S2 H' x y σd2 σ fl S3 _ (n.trans n3) (n3.rs0 rs2) p3 e1 (turn (g := fun σ1 S1 => loopLive body i0 m (i + 1) σ1 S1) (n.trans n3) e2 fun σ1 ρ4 H4 σ4 n4 rs4 e4 => ⟨ρ4, σ1, (n.trans n3).trans n4, rs4, e4⟩)
      · cases e'
  | liveE t0 i0 k0 =>
    refine ⟨fun i m σ H => ∃ ρ' S2 σd2, Nx K L S1 H1 ρ1 S2 H ρ' ∧ RS K L H ρ' S2.n σd2 σ ∧ loopLiveE body t0 i0 m i σd2 S2 = .ok f S', ⟨k0, ρ1, S1, σd, Nx.refl r, rs, h⟩, ?_⟩
    rintro i m σ H ⟨ρ', S2, σd2, n, rs2, e⟩
    cases m with
    | zero =>
      have e' : (match S2.get i0 with
        | some (.lst _ l) => if (rowE t0 l i).isNone then Res.ok (Fl.nx σd2) S2 else .stuck
        | _ => .stuck) = .ok f S' := e
      split at e'
      · rename_i w l el
        split at e'
        · rename_i hl
          cases e'
          exact .inl ⟨(F ρ' S' H n w l i el).2 (Option.isNone_iff_eq_none.mp hl), k ρ' H σ n rs2⟩
        · cases e'
      · cases e'
    | succ m =>
      have e' : (match S2.get i0 with
        | some (.lst _ l) => (match rowE t0 l i with
          | none => Res.ok (Fl.nx σd2) S2
          | some x => (body x σd2 S2).bind fun f S1 => match f with
            | .nx σ1 => loopLiveE body t0 i0 m (i + 1) σ1 S1
            | .ct σ1 => loopLiveE body t0 i0 m (i + 1) σ1 S1
            | .bk σ1 => Res.ok (Fl.nx σ1) S1
            | .rt d => Res.ok (Fl.rt d) S1
            | .xc c d σ1 => Res.ok (Fl.xc c d σ1) S1)
        | _ => .stuck) = .ok f S' := e
      split at e'
      · rename_i w l el
        obtain ⟨f1, f2⟩ := F ρ' S2 H n w l i el
        split at e'
        · rename_i hx
          cases e'
          exact .inl ⟨f2 hx, k ρ' H σ n rs2⟩
        · rename_i x hx
          obtain ⟨fl, S3, e1, e2⟩ := Res.bind_ok e'
          obtain ⟨g1, g2⟩ := f1 x hx
          refine .inr ⟨g1, fun σ' H' => ∃ ρ3 σd3, Nx K L S1 H1 ρ1 S3 H' ρ3 ∧ RS K L H' ρ3 S3.n σd3 σ' ∧ loopLiveE body t0 i0 m (i + 1) σd3 S3 = .ok f S', fun σ' H' ⟨ρ3, σd3, n3, rs3, e3⟩ => ⟨m, Nat.lt_succ_self _, ρ3, S3, σd3, n3, rs3, e3⟩, fun y H' z => ?_⟩
          obtain ⟨n3, p3⟩ := g2 y H' z
          refine hstep ρ' S2 H' x y σd2 σ fl S3 _ (n.trans n3) (n3.rs0 rs2) p3 e1 (turn (g := fun σ1 S1 => loopLiveE body t0 i0 m (i + 1) σ1 S1) (n.trans n3) e2 fun σ1 ρ4 H4 σ4 n4 rs4 e4 => ⟨ρ4, σ1, (n.trans n3).trans n4, rs4, e4⟩)
      · cases e'
theorem ss_for {tg iter : Expr} {body : List Stmt} {it : Iter} {one : Bool} {ti : List Nat} {cb : Ss} (hp : PassesOwn (model X.prog X.w) X.A X.env X.xe) (hc : X.calm = true) (hi : SimI X L G cf tg iter it) (hg : SimG X L tg one ti) (hb : SimSs X L G cf body cb)
    (hs : ∀ x, foldedSetIterable iter X.env x = pure x := by intro _; rfl) : SimS X L G cf (.For tg iter body [] pos) (.for1 it ti one cb) := by
  refine ⟨fun W tk ρ σd σ S H f S' D r rs h k => ?_⟩
  replace h := bx_good (r := evIt cf G it σd S) h
  refine ofS (ps_for hp hc (pI tg iter) (pG tg) (pSs body) hs) (hi.run W tk ρ σd σ S H _ r rs (h.imp (fun q S1 h2 ρ1 H1 J n1 F => ?_) (xc_k k rs)))
  refine loop_end (W0 := W) (step := fun x σ H' N => wG X tg x σ H' fun σ2 H2 => wSs X body { D with nx := N, ct := N, bk := D.nx } σ2 H2) F n1.r (n1.rs rs).s h2 (k.at n1) fun ρ' S2 H' d x σd2 σ2 f2 S3 N n rs2 p e2 kf => ?_
  obtain ⟨σd3, S4, e3, h4⟩ := Res.bind_ok e2
  obtain ⟨e4, rfl⟩ := Res.of_ok e3
  exact hg.run ρ' σd2 σ2 S4 H' d x σd3 _ n.r rs2 p e4 fun σ3 rs3 _ => hb.run W tk ρ' σd3 σ3 S4 H' f2 S3 _ n.r (((n1.trans n).rs rs).of rs3) h4 kf
/-! ### match on texts -/
theorem sms_nil : SimMs X L G cf [] .nil := ⟨fun W tk ρ σd σ S H x f S' D r rs h k pins s t first I => by
  cases h
  exact wpAny_matchCases_nil ⟨σ, H, I, k ρ H σ (Nx.refl r) rs.s⟩⟩
theorem sms_cons {y : Str} {j : Nat} {p p2 : Pos} {body : List Stmt} {rest : List MatchCase} {b : Ss} {ms : Ms} (E : EnvOk X L G cf) (hb : SimSs X L G cf body b) (hr : SimMs X L G cf rest ms) :
    SimMs X L G cf (⟨.MatchValue (.Constant (.str y) j p) p2, none, body⟩ :: rest) (.cons y b ms) := by
  refine ⟨fun W tk ρ σd σ S H x f S' D r rs h k pins s t first I => ?_⟩
  refine wpAny_matchCases_cons (wpAny_matchPattern_Value ?_)
  refine thn ((pE (X := X) (.Constant (.str y) j p)).run pins s σ H (fun v H1 => v = .str y ∧ H1 = H) I (ofE pe_str ⟨rfl, rfl⟩)) fun u s1 ⟨v, H1, I1, rv, ev, eh⟩ => ?_
  subst ev
  subst eh
  obtain ⟨t2, rfl⟩ := rv
  obtain ⟨r2, ho, hq⟩ := cd_eq (X := X) (L := L) (G := G) E.hu ρ S H1 (.str x) (.str y) (x == y) (.str x) (.str y) r rfl rfl rfl
  refine thn (ho pins s1 σ H1 (.str x) (.str y) _ _ (fun z H3 => z = .bl (x == y) ∧ H3 = H1) I1 ⟨t, rfl⟩ ⟨t2, rfl⟩ (hq _ ⟨rfl, rfl⟩)) fun c s3 ⟨z, H3, I3, rz, ez, eh⟩ => ?_
  subst ez
  subst eh
  obtain rfl : c = Value.bool (x == y) := rz
  refine wpAny_truthy_bool ?_
  have h1 : (if y = x then exSs cf G b σd S else exMs cf x G ms σd S) = .ok f S' := h
  cases e : (x == y) with
  | true =>
    have e2 : y = x := (eq_of_beq e).symm
    rw [if_pos e2] at h1
    rw [if_pos rfl]
    exact wpAny_assignInOrder_none ((pSs body).run pins s3 σ H3 D I3 (hb.run W tk ρ σd σ S H3 f S' D r rs h1 k))
  | false =>
    have e2 : ¬ y = x := fun z => by rw [z, beq_self_eq_true] at e; cases e
    rw [if_neg e2] at h1
    rw [if_neg Bool.false_ne_true]
    exact hr.run W tk ρ σd σ S H3 x f S' D r rs h1 k pins s3 t false I3
theorem ss_mat {e : Expr} {cs : List MatchCase} {c : C} {ms : Ms} (ha : Sim X L G cf e c) (hm : SimMs X L G cf cs ms) : SimS X L G cf (.Match e cs pos) (.mat c ms) := by
  refine ⟨fun W tk ρ σd σ S H f S' D r rs h k => fun pins s I => ?_⟩
  replace h := bx_good (r := evC cf G c σd S) h
  refine wpAny_Match (thn (ha.run W tk ρ σd σ S H (fun v H1 => ∃ ρ1 S1 x, Nx X.K L S H ρ S1 H1 ρ1 ∧ Rp X.K L H1 ρ1 S1.n (.str x) v ∧ exMs cf x G ms σd S1 = .ok f S') r rs (h.imp (fun d S1 g ρ' H' v n p => ?_) (xc_k k rs)) pins s I) fun u s1 ⟨v, H1, I1, rv, ρ1, S1, x, n1, p1, g⟩ => ?_)
  · split at g
    · exact ⟨ρ', S1, _, n, p, g⟩
    · cases g
  · cases (show v = .str x from p1)
    obtain ⟨t, rfl⟩ := rv
    exact hm.run W tk ρ1 σd σ S1 H1 x f S' D n1.r (n1.rs rs) g (k.at n1) pins s1 t true I1
end
end QD

/-! QDA: a def's contract from its body's simulation; levels; what the head tells. -/
namespace QD
open PySem PySem.Spec PyProof.Rows L2
section
variable {K : PySem.W.Frag} {L : Pl}
mutual
theorem Rp.low {H H' : Hp} {ρ ρ' : Nat → Addr} {n n' : Nat} : ∀ {d : D} {v v0 : V}, Rp K L H' ρ' n' d v → Rp K L H ρ n d v0 → Rp K L H' ρ' n d v
  | .non, _, _, h, _ => h
  | .bl _, _, _, h, _ => h
  | .int _, _, _, h, _ => h
  | .str _, _, _, h, _ => h
  | .tup l, v, v0, h, h0 => by
    obtain ⟨p, vs, e, s, r⟩ := (show ∃ a vs, v = .ref a ∧ SqT K H' a vs ∧ RpL K L H' ρ' n' l vs from h)
    obtain ⟨p0, vs0, e0, s0, r0⟩ := (show ∃ a vs, v0 = .ref a ∧ SqT K H a vs ∧ RpL K L H ρ n l vs from h0)
    exact ⟨p, vs, e, s, RpL.low r r0⟩
  | .ref i, v, v0, h, h0 => by
    obtain ⟨h1, h2⟩ := (show i < n' ∧ v = .ref (ρ' i) from h)
    obtain ⟨h3, h4⟩ := (show i < n ∧ v0 = .ref (ρ i) from h0)
    exact ⟨h3, h2⟩
  | .kd _, _, _, h, _ => h
theorem RpL.low {H H' : Hp} {ρ ρ' : Nat → Addr} {n n' : Nat} : ∀ {ds : List D} {vs vs0 : List V}, RpL K L H' ρ' n' ds vs → RpL K L H ρ n ds vs0 → RpL K L H' ρ' n ds vs
  | [], _, _, h, _ => h
  | d :: ds, vs, vs0, h, h0 => by
    obtain ⟨v, r, e, h1, h2⟩ := (show ∃ v r, vs = v :: r ∧ Rp K L H' ρ' n' d v ∧ RpL K L H' ρ' n' ds r from h)
    obtain ⟨v0, r0, e0, h3, h4⟩ := (show ∃ v r, vs0 = v :: r ∧ Rp K L H ρ n d v ∧ RpL K L H ρ n ds r from h0)
    exact ⟨v, r, e, Rp.low h1 h3, RpL.low h2 h4⟩
end
mutual
theorem Rp.less {H : Hp} {ρ : Nat → Addr} {n n' : Nat} : ∀ {d : D} {v : V}, refless d = true → Rp K L H ρ n' d v → Rp K L H ρ n d v
  | .non, _, _, h => h
  | .bl _, _, _, h => h
  | .int _, _, _, h => h
  | .str _, _, _, h => h
  | .tup l, v, e0, h => by
    obtain ⟨p, vs, e, s, r⟩ := (show ∃ a vs, v = .ref a ∧ SqT K H a vs ∧ RpL K L H ρ n' l vs from h)
    exact ⟨p, vs, e, s, RpL.less (show reflessL l = true from e0) r⟩
  | .ref i, v, e0, h => by cases e0
  | .kd _, _, _, h => h
theorem RpL.less {H : Hp} {ρ : Nat → Addr} {n n' : Nat} : ∀ {ds : List D} {vs : List V}, reflessL ds = true → RpL K L H ρ n' ds vs → RpL K L H ρ n ds vs
  | [], _, _, h => h
  | d :: ds, vs, e0, h => by
    obtain ⟨v, r, e, h1, h2⟩ := (show ∃ v r, vs = v :: r ∧ Rp K L H ρ n' d v ∧ RpL K L H ρ n' ds r from h)
    obtain ⟨e1, e2⟩ := Bool.and_eq_true_iff.mp (show (refless d && reflessL ds) = true from e0)
    exact ⟨v, r, e, Rp.less e1 h1, RpL.less e2 h2⟩
end
theorem RpF.low {H H' : Hp} {ρ ρ' : Nat → Addr} {n n' : Nat} : ∀ {ds : List (Str × D)} {vs vs0 : List (Str × V)}, RpF K L H' ρ' n' ds vs → RpF K L H ρ n ds vs0 → RpF K L H' ρ' n ds vs
  | [], _, _, h, _ => h
  | d :: ds, vs, vs0, h, h0 => by
    obtain ⟨v, r, e, h1, h2⟩ := h
    obtain ⟨v0, r0, e0, h3, h4⟩ := h0
    exact ⟨v, r, e, Rp.low h1 h3, RpF.low h2 h4⟩
theorem RpK.low {H H' : Hp} {ρ ρ' : Nat → Addr} {n n' : Nat} : ∀ {ds : List (Key × D)} {vs vs0 : List (Key × V)}, RpK K L H' ρ' n' ds vs → RpK K L H ρ n ds vs0 → RpK K L H' ρ' n ds vs
  | [], _, _, h, _ => h
  | d :: ds, vs, vs0, h, h0 => by
    obtain ⟨v, r, e, h1, h2⟩ := h
    obtain ⟨v0, r0, e0, h3, h4⟩ := h0
    exact ⟨v, r, e, Rp.low h1 h3, RpK.low h2 h4⟩
theorem CellOk.low {H H' : Hp} {ρ ρ' : Nat → Addr} {n n' : Nat} {a a0 : Addr} {c : Cell} (h : CellOk K L H' ρ' n' a c) (h0 : CellOk K L H ρ n a0 c) : CellOk K L H' ρ' n a c := by
  cases c with
  | lst w l =>
    cases w with
    | true =>
      obtain ⟨vs, h1, h2⟩ := h
      obtain ⟨vs0, h3, h4⟩ := h0
      exact ⟨vs, h1, h2.low h4⟩
    | false =>
      obtain ⟨vs, h1, h2⟩ := h
      obtain ⟨vs0, h3, h4⟩ := h0
      exact ⟨vs, h1, h2.low h4⟩
  | ins c fs =>
    obtain ⟨dx, vs, h1, h2⟩ := h
    obtain ⟨dx0, vs0, h3, h4⟩ := h0
    exact ⟨dx, vs, h1, h2.low h4⟩
  | bld k l =>
    obtain ⟨vs, h1, h2, h5⟩ := h
    obtain ⟨vs0, h3, h4, _⟩ := h0
    exact ⟨vs, h1, h2.low h4, h5⟩
  | xd k l =>
    obtain ⟨vs, h1, h2⟩ := h
    obtain ⟨vs0, h3, h4⟩ := h0
    exact ⟨vs, h1, h2.low h4⟩
  | dct l =>
    obtain ⟨o, vs, h1, h2⟩ := h
    obtain ⟨o0, vs0, h3, h4⟩ := h0
    exact ⟨o, vs, h1, h2.low h4⟩
  | dbl l =>
    obtain ⟨vs, h1, h2⟩ := h
    obtain ⟨vs0, h3, h4⟩ := h0
    exact ⟨vs, h1, h2.low h4⟩
  | exo c od =>
    obtain ⟨oe, u, h1, h2, h3, h4, h5⟩ := h
    obtain ⟨_, _, _, _, _, _, h6⟩ := h0
    exact ⟨oe, u, h1, h2, h3, h4, h6⟩
theorem Rel.frame {H : Hp} {ρ : Nat → Addr} {n : Nat} {l : List Cell} {w w' : Nat} (r : Rel K L H ρ ⟨n, l, w⟩) : Rel K L H ρ ⟨n, l, w'⟩ := ⟨r.cell, r.inj, r.tb, r.tc⟩
theorem leaveX_ok {H : Hp} {ρ : Nat → Addr} {S S1 : Store} {H' : Hp} {ρ' : Nat → Addr} (n : Nx K L ⟨S.n, S.l, S.n⟩ H ρ S1 H' ρ') : Nx K L S H ρ (leaveX S S1) H' ρ' := by
  refine ⟨n.n, n.a, n.t, n.r.frame, ?_, fun i hi hn => ?_⟩
  · show (if S1.w < S.w then S1.w else S.w) ≤ S.w
    split <;> omega
  · refine n.k i ?_ hn
    have hi' : i < (if S1.w < S.w then S1.w else S.w) := hi
    split at hi' <;> omega
theorem leave_ok {H : Hp} {ρ : Nat → Addr} {S S1 S' : Store} {d d' : D} {H' : Hp} {ρ' : Nat → Addr} {v : V} {Q : VK} (r : Rel K L H ρ S) (n : Nx K L ⟨S.n, S.l, S.n⟩ H ρ S1 H' ρ') (p : Rp K L H' ρ' S1.n d v) (h : leave S d S1 = .ok d' S')
    (k : ∀ ρ' H' v, Nx K L S H ρ S' H' ρ' → Rp K L H' ρ' S'.n d' v → Q v H') : Q v H' := by
  unfold leave at h
  split at h
  · rename_i c
    cases h
    obtain ⟨c1, c2⟩ := Bool.and_eq_true_iff.mp c
    have hw : S.n ≤ S1.w := Nat.le_of_ble_eq_true c1
    have old : ∀ i, i < S.n → S1.get i = S.get i := fun i hi => n.k i (Nat.lt_of_lt_of_le hi hw) hi
    refine k ρ' H' v ⟨Nat.le_refl _, n.a, n.t, ⟨fun i c hc => ?_, fun i j c e hc he => ?_, n.r.tb, fun p hp ps pos c i d h1 h2 h3 => n.r.tc p hp ps pos c i d h1 h2 (by rw [old i (Store.lt h3)]; exact h3)⟩, Nat.le_refl _, fun _ _ _ => rfl⟩ (p.less c2)
    · have hi := Store.lt hc
      exact (n.r.cell i c (by rw [old i hi]; exact hc)).low (r.cell i c hc)
    · exact n.r.inj i j c e (by rw [old i (Store.lt hc)]; exact hc) (by rw [old j (Store.lt he)]; exact he)
  · cases h
    refine k ρ' H' v ⟨n.n, n.a, n.t, n.r.frame, ?_, fun i hi hn => ?_⟩ p
    · dsimp only
      split <;> omega
    · refine n.k i ?_ hn
      have hi' : i < (if S1.w < S.w then S1.w else S.w) := hi
      split at hi' <;> omega
end
/-- calls by levels -/
def callN (G : Gd) (F : Nat → Option Fn) : Nat → Nat → List D → Store → Res D
  | 0, _, _, _ => .stuck
  | l + 1, f, as, S => match F f with
    | none => .stuck
    | some fn => if as.length = fn.ar then (exSs (callN G F l) G fn.body (start fn.k as) ⟨S.n, S.l, S.n⟩).nox.bind fun r S1 => match r with
      | .rt d => leave S d S1
      | .nx _ => leave S .non S1
      | .xc c d _ => .ex c d (leaveX S S1)
      | _ => .stuck else .stuck
/-- a function's code object -/
def cdOf (K : PySem.W.Frag) (f : Addr) : Value := match K.lookup f with
  | some ⟨_, _, .func fd, _⟩ => fd.code
  | _ => .none
theorem cdOf_eq {K : PySem.W.Frag} {x qual : Str} {params : Arguments} {body : List Stmt} {scope : Scope} {dV kV doc pm cdv ct oc : Value} {an od : Option Addr} {osl : Array (Option Value)} {f : Addr} (lk : K.lookup f = some ⟨oc, od, .func (PySem.W.fnOf x qual params body scope dV kV doc pm an cdv ct), osl⟩) : cdOf K f = cdv := by
  unfold cdOf
  rw [lk]
/-- a def's contract -/
theorem fn_ok {P : Program} {w : World} {K : PySem.W.Frag} {L : Pl} {mg : Str → Option Value} {base : Heap} {G : Gd} {T : Nat → Option Fn} {x qual : Str} {params : Arguments} {body : List Stmt} {scope : Scope} {dvs : List V} {kws : List (Str × V)} {f : Addr} {fd : FuncData} {N ps : List Str} {code : Ss} {g j l : Nat}
    (F : FunD K x qual params body scope dvs kws f fd) (Sc : FnScope N ps scope) (hfn : T g = some ⟨ps.length, N.length, code⟩) (hx : G.exi = none)
    (hb : ∀ (cdv : Value) (A : Around) (outer : List Env) (s : Shared) (H : Hp) (E : XK), cdOf K f = cdv → Room j (A.deeper (envOfC qual scope s.heap.objs.size f cdv)) → SimSs (cxOf (L2.CX P w) P w K mg base N qual scope f cdv A outer s H E) L G (callN G T l) body code) :
    FnOk P w K mg base (L2.CX P w) (j + 1) f fd ps (spD K L (callN G T (l + 1)) g ps.length) := by
  obtain ⟨oc, od, dVv, kVv, doc, pm, an, cdv, ct, osl, rfl, lk, hcd, _, _⟩ := F.ex
  refine fn_of lk hcd Sc (fun vs H Q E h => ?_) (fun A outer s H vs Q E hr h => ?_)
  · obtain ⟨ρ, S, as, hl, _⟩ := h
    exact hl
  · obtain ⟨ρ, S, as, hl, r, p, gd⟩ := h
    refine ⟨_, pSs body, ?_⟩
    have e1 : (match T g with
      | none => Res.stuck
      | some fn => if as.length = fn.ar then (exSs (callN G T l) G fn.body (QD.start fn.k as) ⟨S.n, S.l, S.n⟩).nox.bind fun r S1 => match r with
        | .rt d => leave S d S1
        | .nx _ => leave S .non S1
        | .xc c d _ => .ex c d (leaveX S S1)
        | _ => .stuck else .stuck).Good (kV K L S H ρ Q) (kX K L S H ρ E) := gd
    rw [hfn] at e1
    dsimp only at e1
    split at e1
    · rename_i ha
      obtain ⟨fl, S1, e2, e3⟩ := nox_ok' (Res.good_bind e1)
      have r0 : Rel K L H ρ ⟨S.n, S.l, S.n⟩ := ⟨r.cell, r.inj, r.tb, r.tc⟩
      have rs : RS K L H ρ S.n (QD.start N.length as) (L2.start N vs) := by
        unfold QD.start L2.start
        rw [← p.length]
        exact RS.start p _
      refine (hb cdv A outer s H E (cdOf_eq lk) hr).run (fun cls d _ H => E cls d H) (takes_of rfl rfl rfl rfl) ρ _ _ ⟨S.n, S.l, S.n⟩ H fl S1 _ r0 (RX.blk hx rs) e2 ?_
      have lv : ∀ {d : QD.D} {ρ' : Nat → Addr} {H' : Hp} {v : V}, (leave S d S1).Good (kV K L S H ρ Q) (kX K L S H ρ E) → Nx K L ⟨S.n, S.l, S.n⟩ H ρ S1 H' ρ' → Rp K L H' ρ' S1.n d v → Q v H' := by
        intro d ρ' H' v g n q
        cases ec : leave S d S1 with
        | ok d' S' =>
          rw [ec] at g
          exact leave_ok r n q ec g
        | ex c2 d2 S' => unfold leave at ec; split at ec <;> cases ec
        | stuck => rw [ec] at g; exact g.elim
      cases fl with
      | rt d2 => exact fun ρ' H' v n q => lv e3 n q
      | nx σ2 => exact fun ρ' H' σ' n _ => lv (d := .non) e3 n rfl
      | xc c d σ2 => exact fun ρ' H' σ' n _ => e3 ρ' H' (leaveX_ok n)
      | bk _ => exact e3.elim
      | ct _ => exact e3.elim
    · exact e1.elim
theorem fn_ok0 {P : Program} {w : World} {K : PySem.W.Frag} {L : Pl} {mg : Str → Option Value} {base : Heap} {G : Gd} {T : Nat → Option Fn} {f : Addr} {fd : FuncData} {ps : List Str} {g j : Nat} : FnOk P w K mg base (L2.CX P w) j f fd ps (spD K L (callN G T 0) g ps.length) :=
  ⟨fun vs H Q E h => by obtain ⟨ρ, S, as, hl, _⟩ := h; exact hl, fun A outer s H args us vs Q E hr e0 hb r h => by
    obtain ⟨ρ, S, as, hl, _, _, e⟩ := h
    exact e.elim⟩
theorem callN_ar {G : Gd} {T : Nat → Option Fn} {g : Nat} {fn : Fn} (h : T g = some fn) : ∀ (l : Nat) (as : List D) (S : Store), callN G T l g as S ≠ .stuck → as.length = fn.ar
  | 0, as, S, e => (e rfl).elim
  | l + 1, as, S, e => by
    have e1 : (match T g with
      | none => Res.stuck
      | some fn => if as.length = fn.ar then (exSs (callN G T l) G fn.body (QD.start fn.k as) ⟨S.n, S.l, S.n⟩).nox.bind fun r S1 => match r with
        | .rt d => leave S d S1
        | .nx _ => leave S .non S1
        | .xc c d _ => .ex c d (leaveX S S1)
        | _ => .stuck else .stuck) ≠ .stuck := e
    rw [h] at e1
    dsimp only at e1
    split at e1
    · assumption
    · exact (e1 rfl).elim
/-! ### blocks have the same surroundings -/
section
variable {X : Cx} {L : Pl} {G : Gd} {cf : Nat → List D → Store → Res D} {s : Shared} {H : Hp} {sc : Scope} {e : Env} {fp : List Addr}
theorem FnAt.blk {f k : Nat} {fa : Addr} {fd : FuncData} {ps : List Str} {j : Nat} (F : FnAt X L cf f k fa fd ps j) : FnAt (X.blk s H sc e fp) L cf f k fa fd ps j := ⟨F.ok, F.room, F.ar⟩
theorem CallOk.blk {x : Str} {f n : Nat} {sh : List Src} (h : CallOk X L cf x f n sh) : CallOk (X.blk s H sc e fp) L cf x f n sh := by
  obtain ⟨k, fa, fd, ps, j, ds, dvs, dl, F, h⟩ := h.ex
  exact ⟨⟨k, fa, fd, ps, j, ds, dvs, dl, F.blk, h⟩⟩
theorem CallK.blk {x : Str} {f n : Nat} {ks : List Str} {sh : List Src} (h : CallK X L cf x f n ks sh) : CallK (X.blk s H sc e fp) L cf x f n ks sh := by
  obtain ⟨k, fa, fd, ps, j, g, gV, F, h⟩ := h.ex
  exact ⟨⟨k, fa, fd, ps, j, g, gV, F.blk, h⟩⟩
theorem MkOk.blk {x : Str} {c f n : Nat} {sh : List Src} (h : MkOk X L cf x c f n sh) : MkOk (X.blk s H sc e fp) L cf x c f n sh := by
  obtain ⟨k, fa, fd, ps, j, ds, dvs, dl, F, h⟩ := h.ex
  exact ⟨⟨k, fa, fd, ps, j, ds, dvs, dl, F.blk, h⟩⟩
theorem MkK.blk {x : Str} {c f n : Nat} {ks : List Str} {sh : List Src} (h : MkK X L cf x c f n ks sh) : MkK (X.blk s H sc e fp) L cf x c f n ks sh := by
  obtain ⟨k, fa, fd, ps, j, g, gV, F, h⟩ := h.ex
  exact ⟨⟨k, fa, fd, ps, j, g, gV, F.blk, h⟩⟩
theorem StcOk.blk {x m : Str} {f n : Nat} {sh : List Src} (h : StcOk X L cf x m f n sh) : StcOk (X.blk s H sc e fp) L cf x m f n sh := by
  obtain ⟨c, k, fa, p, fd, ps, j, ds, dvs, dl, mc, rest, F, h⟩ := h.ex
  exact ⟨⟨c, k, fa, p, fd, ps, j, ds, dvs, dl, mc, rest, F.blk, h⟩⟩
theorem EnvOk.blk (E : EnvOk X L G cf) : EnvOk (X.blk s H sc e fp) L G cf := by
  refine ⟨E.nd, E.hu, E.exn, fun c => ⟨fun f g h => ?_, fun m g hm => ?_, (E.cls c).fld, fun m g h => ?_⟩, fun i t h => ⟨(E.kd i t h).d, (E.kd i t h).at_⟩, fun c h => ?_, E.kbo, E.kob, E.koo⟩
  · obtain ⟨cl, p, fa, fd, ps, j, h1, F, h2⟩ := (E.cls c).prop f g h
    exact ⟨cl, p, fa, fd, ps, j, h1, F.blk, h2⟩
  · obtain ⟨cl, fa, fd, ps, j, k, h1, F, h2⟩ := (E.cls c).meth m g hm
    exact ⟨cl, fa, fd, ps, j, k, h1, F.blk, h2⟩
  · obtain ⟨O, cl, fa, fd, ps, j, k, h1, h3, F, h2⟩ := (E.cls c).op m g h
    exact ⟨⟨O.mro, O.sub, O.subR, O.obj, O.ne, O.bool, O.refl, O.inpl⟩, cl, fa, fd, ps, j, k, h1, h3, F.blk, h2⟩
  · have q := E.isi c h
    exact ⟨q.cls, q.ha, q.hn, q.htk, q.hm⟩
/-- what an expression made is dropped where it may be -/
theorem si_scope {e : Expr} {c : C} (h : Sim X L G cf e c) : Sim X L G cf e (.scope c) := by
  refine ⟨fun W tk ρ σd σ S H Q r rs g => ?_⟩
  obtain ⟨d1, S1, e1, e2⟩ := nox_ok' (Res.good_bind (r := (evC cf G c σd ⟨S.n, S.l, S.n⟩).nox) g)
  refine h.run noW takes_no ρ σd σ ⟨S.n, S.l, S.n⟩ H Q ⟨r.cell, r.inj, r.tb, r.tc⟩ ⟨rs.s, rs.e⟩ (Res.Good.ok e1 fun ρ' H' v n p => ?_)
  cases ec : leave S d1 S1 with
  | ok d' S' =>
    rw [ec] at e2
    exact leave_ok r n p ec e2
  | ex c2 d2 S' => unfold leave at ec; split at ec <;> cases ec
  | stuck => rw [ec] at e2; exact e2.elim
end
section
variable {X : Cx} {L : Pl} {G : Gd} {cf : Nat → List D → Store → Res D} {pos : Pos}
theorem ss_setFE {o e : Expr} {g g' : Str} {co cv : C} {tpos : Pos} (E : EnvOk X L G cf) (h : g = g') (hv : Sim X L G cf e cv) (ho : Sim X L G cf o co) (hs : swapsWith e (some (.Attribute o g tpos)) pos.line X.env = pure false := by rfl) : SimS X L G cf (.Assign [.Attribute o g tpos] e pos) (.setF co g' cv) := by
  subst h
  exact ss_setF E hv ho hs
theorem sms_consE {y y' : Str} {j : Nat} {p p2 : Pos} {body : List Stmt} {rest : List MatchCase} {b : Ss} {ms : Ms} (E : EnvOk X L G cf) (h : y = y') (hb : SimSs X L G cf body b) (hr : SimMs X L G cf rest ms) :
    SimMs X L G cf (⟨.MatchValue (.Constant (.str y) j p) p2, none, body⟩ :: rest) (.cons y' b ms) := by
  subst h
  exact sms_cons E hb hr
/-- a comprehension on the line of its name -/
theorem sw_lc {elt : Expr} {gs : List Comprehension} {scope : Scope} {p py : Pos} {y : Str} {l : Nat} {env : Env} (hk : env.scope.kind = .function) (hy : env.scope.names.lookup y = some .local) (hl : (py.line == p.line) = true)
    (ha : (scope.names.any fun (n, k) => n == y && (k == .local || k == .cell)) = false) : swapsWith (.ListComp elt gs scope p) (some (.Name y py)) l env = pure true := sw_true hk hy hl ha
end
/-! ### constants -/
mutual
def relD (K : PySem.W.Frag) : D → Value → Bool
  | .non, u => (match u with | .none => true | _ => false)
  | .bl b, u => (match u with | .bool c => b == c | _ => false)
  | .int i, u => (match u with | .int j _ => decide (i = j) | _ => false)
  | .str x, u => (match u with | .str y _ => decide (x = y) | _ => false)
  | .tup l, u => (match u with
    | .ref a => (match K.lookup a with
      | some ⟨.type c, _, .seq its _, _⟩ => decide (c = "tuple") && (decide (its.size ≤ sizeLine) && relDL K l its.toList)
      | _ => false)
    | _ => false)
  | _, _ => false
def relDL (K : PySem.W.Frag) : List D → List Value → Bool
  | [], us => us.isEmpty
  | d :: ds, us => (match us with
    | u :: us => relD K d u && relDL K ds us
    | _ => false)
end
mutual
theorem relD_ok {K : PySem.W.Frag} {L : Pl} : ∀ {d : D} {u : Value}, relD K d u = true → ∃ v, RelV v u ∧ ∀ H ρ n, Rp K L H ρ n d v
  | .non, u, h => by
    cases u with
    | none => exact ⟨.non, rfl, fun _ _ _ => rfl⟩
    | _ => cases h
  | .bl b, u, h => by
    cases u with
    | bool c =>
      have e : b = c := beq_iff_eq.mp (show (b == c) = true from h)
      subst e
      exact ⟨.bl b, rfl, fun _ _ _ => rfl⟩
    | _ => cases h
  | .int i, u, h => by
    cases u with
    | int j t =>
      have e : i = j := of_decide_eq_true h
      subst e
      exact ⟨.int i, ⟨t, rfl⟩, fun _ _ _ => rfl⟩
    | _ => cases h
  | .str x, u, h => by
    cases u with
    | str y t =>
      have e : x = y := of_decide_eq_true h
      subst e
      exact ⟨.str x, ⟨t, rfl⟩, fun _ _ _ => rfl⟩
    | _ => cases h
  | .tup l, u, h => by
    cases u with
    | ref a =>
      have h1 : (match K.lookup a with
        | some ⟨.type c, _, .seq its _, _⟩ => decide (c = "tuple") && (decide (its.size ≤ sizeLine) && relDL K l its.toList)
        | _ => false) = true := h
      split at h1
      · rename_i c od its n sl q
        obtain ⟨h2, h3⟩ := Bool.and_eq_true_iff.mp h1
        obtain ⟨h4, h5⟩ := Bool.and_eq_true_iff.mp h3
        obtain ⟨vs, r, p⟩ := relDL_ok (L := L) h5
        exact ⟨.ref a, rfl, fun H ρ m => ⟨a, vs, rfl, .inr ⟨_, its, n, q, congrArg Value.type (of_decide_eq_true h2), rfl, of_decide_eq_true h4, r⟩, p H ρ m⟩⟩
      · cases h1
    | _ => cases h
  | .ref _, u, h => by cases h
  | .kd _, u, h => by cases h
theorem relDL_ok {K : PySem.W.Frag} {L : Pl} : ∀ {ds : List D} {us : List Value}, relDL K ds us = true → ∃ vs, Vals vs us ∧ ∀ H ρ n, RpL K L H ρ n ds vs
  | [], us, h => by
    cases us with
    | nil => exact ⟨[], .nil, fun _ _ _ => RpL.nil⟩
    | cons _ _ => cases h
  | d :: ds, us, h => by
    cases us with
    | nil => cases h
    | cons u us =>
      obtain ⟨h1, h2⟩ := Bool.and_eq_true_iff.mp (show (relD K d u && relDL K ds us) = true from h)
      obtain ⟨v, r, p⟩ := relD_ok (L := L) h1
      obtain ⟨vs, rs, ps⟩ := relDL_ok (L := L) h2
      exact ⟨v :: vs, .cons r rs, fun H ρ n => RpL.cons (p H ρ n) (ps H ρ n)⟩
end
/-- a module's constant -/
def gvB (K : PySem.W.Frag) (x : Str) (d : D) : Bool := match PySem.W.nsIn K mainGlobals x with
  | some (some u) => relD K d u
  | _ => false
theorem gv_ok {X : Cx} {L : Pl} {h : Heap} {x : Str} {d : D} (HK : X.K.In h) (HG : h.Ns mainGlobals X.mg) (c : gvB X.K x d = true) : GvOk X L x d := by
  unfold gvB at c
  split at c
  · rename_i u q
    obtain ⟨v, r, p⟩ := relD_ok (L := L) c
    exact ⟨u, v, PySem.W.mg_of HK HG q, r, p⟩
  · cases c
/-! ### tables -/
def dlB (K : PySem.W.Frag) : List (Str × D) → List DictEntry → Bool
  | [], es => es.isEmpty
  | q :: t, es => (match es with
    | e :: es => (match e.key with | .str x _ => decide (x = q.1) | _ => false) && (relD K q.2 e.val && dlB K t es)
    | [] => false)
theorem dl_find {K : PySem.W.Frag} : ∀ {t : List (Str × D)} {es : List DictEntry}, dlB K t es = true → es.any (·.refKey) = false ∧ ∀ z : Str, (t.lookup z = none ∧ es.find? (·.key.isStr z) = none) ∨ ∃ x e, t.lookup z = some x ∧ es.find? (·.key.isStr z) = some e ∧ relD K x e.val = true
  | [], es, h => by
    cases es with
    | nil => exact ⟨rfl, fun z => .inl ⟨rfl, rfl⟩⟩
    | cons _ _ => cases h
  | q :: t, es, h => by
    cases es with
    | nil => cases h
    | cons e es =>
      obtain ⟨h1, h2⟩ := Bool.and_eq_true_iff.mp (show ((match e.key with | .str x _ => decide (x = q.1) | _ => false) && (relD K q.2 e.val && dlB K t es)) = true from h)
      obtain ⟨h3, h4⟩ := Bool.and_eq_true_iff.mp h2
      obtain ⟨i1, i2⟩ := dl_find h4
      split at h1
      · rename_i x tk ek
        have ex : x = q.1 := of_decide_eq_true h1
        refine ⟨?_, fun z => ?_⟩
        · rw [List.any_cons, i1, Bool.or_false]
          unfold DictEntry.refKey
          rw [ek]
        · cases hz : (z == q.1) with
          | true =>
            refine .inr ⟨q.2, e, by simp only [List.lookup, hz], ?_, h3⟩
            rw [List.find?_cons_of_pos]
            show e.key.isStr z = true
            rw [ek, ex]
            show (q.1 == z) = true
            rw [eq_of_beq hz]
            exact beq_self_eq_true _
          | false =>
            have e1 : ((q :: t).lookup z) = t.lookup z := by simp only [List.lookup, hz]
            have e2 : (e :: es).find? (·.key.isStr z) = es.find? (·.key.isStr z) := by
              refine List.find?_cons_of_neg ?_
              show ¬ e.key.isStr z = true
              rw [ek, ex]
              intro hh
              have hh2 : (q.1 == z) = true := hh
              rw [eq_of_beq hh2, beq_self_eq_true] at hz
              cases hz
            rw [e1, e2]
            exact i2 z
      · cases h1
theorem dl_keys {K : PySem.W.Frag} : ∀ {t : List (Str × D)} {es : List DictEntry}, dlB K t es = true → KeysAt t es
  | [], [], _ => ⟨rfl, fun j q e h => by simp at h⟩
  | [], _ :: _, h => by cases h
  | _ :: _, [], h => by cases h
  | q :: t, e :: es, h => by
    obtain ⟨h1, h2⟩ := Bool.and_eq_true_iff.mp (show ((match e.key with | .str x _ => decide (x = q.1) | _ => false) && (relD K q.2 e.val && dlB K t es)) = true from h)
    obtain ⟨h3, h4⟩ := Bool.and_eq_true_iff.mp h2
    obtain ⟨i1, i2⟩ := dl_keys h4
    refine ⟨by rw [List.length_cons, List.length_cons, i1], fun j q' e' g1 g2 => ?_⟩
    cases j with
    | zero =>
      simp only [List.getElem?_cons_zero, Option.some.injEq] at g1 g2
      subst g1 g2
      split at h1
      · rename_i x tk ek
        exact ⟨tk, by rw [ek, of_decide_eq_true h1]⟩
      · cases h1
    | succ j => exact i2 j q' e' (by simpa using g1) (by simpa using g2)
def kdB (K : PySem.W.Frag) (a : Addr) (t : List (Str × D)) : Bool := match K.lookup a with
  | some ⟨_, _, .dict es _, _⟩ => dlB K t es.toList
  | _ => false
theorem kd_ok {X : Cx} {L : Pl} {i : Nat} {t : List (Str × D)} (hd : ∃ es n, KDict X.K X.w (L.kda i) es n) (c : kdB X.K (L.kda i) t = true) : KdOk X L i t := by
  have hk : ∃ es n, KDict X.K X.w (L.kda i) es n ∧ KeysAt t es.toList := by
    obtain ⟨es, n, D⟩ := hd
    refine ⟨es, n, D, ?_⟩
    unfold kdB at c
    rw [D.at_] at c
    exact dl_keys c
  refine ⟨hk, fun z => ?_⟩
  unfold kdB at c
  split at c
  · rename_i oc od es n sl q
    obtain ⟨h1, h2⟩ := dl_find c
    rcases h2 z with ⟨e1, e2⟩ | ⟨x, e, e1, e2, e3⟩
    · refine .inl ⟨e1, ?_⟩
      unfold PySem.W.nsIn
      rw [q]
      dsimp only
      rw [e2]
      dsimp only
      rw [if_neg (by rw [h1]; exact Bool.false_ne_true)]
    · obtain ⟨v, r, p⟩ := relD_ok (L := L) e3
      refine .inr ⟨x, e.val, v, e1, ?_, r, p⟩
      unfold PySem.W.nsIn
      rw [q]
      dsimp only
      rw [e2]
  · cases c
/-! ### properties, classes asked -/
def getter (K : PySem.W.Frag) (C f : Str) : Addr := match PySem.W.findIn K (.ref (He.ga K C)) f with
  | some (some (.ref p)) => (match PySem.W.recIn K p "property" with
    | some (.ref g :: _) => g
    | _ => 0)
  | _ => 0
def propB (K : PySem.W.Frag) (C f : Str) : Bool := match PySem.W.findIn K (.ref (He.ga K C)) f with
  | some (some (.ref p)) => decide (PySem.W.specialIn K (.ref p) "__get__" = some (some (.builtin "property.__get__"))) && (decide (PySem.W.takesIn K (.ref p) = some true) && (match PySem.W.recIn K p "property" with
    | some (.ref _ :: _) => true
    | _ => false))
  | _ => false
theorem prop_ok {K : PySem.W.Frag} {C f : Str} (c : propB K C f = true) : ∃ p, PropOf K (He.ga K C) f p (getter K C f) := by
  unfold propB at c
  unfold getter
  split at c
  · rename_i p q
    obtain ⟨h1, h2⟩ := Bool.and_eq_true_iff.mp c
    obtain ⟨h3, h4⟩ := Bool.and_eq_true_iff.mp h2
    split at h4
    · rename_i g rest e
      exact ⟨p, q, of_decide_eq_true h1, of_decide_eq_true h3, rest, e⟩
    · cases h4
  · cases c
def isiB (K : PySem.W.Frag) (C : Addr) : Bool := decide (PySem.W.findIn K (.ref C) "__class__" = some (some (.builtin "object.__class__"))) && (decide (PySem.W.specialIn K (.builtin "object.__class__") "__get__" = some (some (.builtin "getset_descriptor.__get__"))) &&
  (decide (PySem.W.takesIn K (.builtin "object.__class__") = some true) && decide (PySem.W.mroIn K C (.type "object") = some true)))
theorem isi_ok {X : Cx} {L : Pl} {c : Nat} (cl : Cls X.K (L.cla c)) (h : isiB X.K (L.cla c) = true) : IsiOk X L c := by
  obtain ⟨h1, h2⟩ := Bool.and_eq_true_iff.mp h
  obtain ⟨h3, h4⟩ := Bool.and_eq_true_iff.mp h2
  obtain ⟨h5, h6⟩ := Bool.and_eq_true_iff.mp h4
  exact ⟨cl, of_decide_eq_true h1, of_decide_eq_true h3, of_decide_eq_true h5, of_decide_eq_true h6⟩
def bts : List Bt := [.non, .bool, .int, .str, .list, .tuple, .dict]
def bks : List Tk := [.int, .bool, .str, .list, .tuple, .dict]
def kitB1 (K : PySem.W.Frag) (L : Pl) (c : Nat) : Bool := (bts.all fun b => decide (PySem.W.kitOne K (btV b) (.ref (L.cla c)) = some false)) && (bks.all fun t => decide (PySem.W.kitOne K (.ref (L.cla c)) (tkV L t) = some false))
theorem kbo_ok {K : PySem.W.Frag} {L : Pl} {c : Nat} (h : kitB1 K L c = true) (b : Bt) : PySem.W.kitOne K (btV b) (.ref (L.cla c)) = some false := by
  have h1 := List.all_eq_true.mp (Bool.and_eq_true_iff.mp h).1 b (by cases b <;> simp [bts])
  exact of_decide_eq_true h1
theorem kob_ok {K : PySem.W.Frag} {L : Pl} {c : Nat} (h : kitB1 K L c = true) (t : Tk) (ht : ∀ c', t ≠ .cls c') : PySem.W.kitOne K (.ref (L.cla c)) (tkV L t) = some false := by
  have h1 := List.all_eq_true.mp (Bool.and_eq_true_iff.mp h).2 t (by
    cases t with
    | cls c' => exact absurd rfl (ht c')
    | _ => simp [bks])
  exact of_decide_eq_true h1
def kitB2 (K : PySem.W.Frag) (L : Pl) (c c' : Nat) : Bool := decide (PySem.W.kitOne K (.ref (L.cla c')) (.ref (L.cla c)) = some (c == c'))
/-! ### own operators -/
def allOps : List Op := [.add, .sub, .mul, .fdiv, .mod, .shl, .shr, .band, .bor, .bxor, .pow]
def ownB (K : PySem.W.Frag) (C : Addr) : Bool := (match PySem.W.clsIn K C with
    | some cd => decide (cd.mro = [.ref C, .type "object"])
    | none => false) && ((bts.all fun b => decide (PySem.W.subIn K (.ref C) (btV b) = some false) && decide (PySem.W.subIn K (btV b) (.ref C) = some false)) && (decide (PySem.W.mroIn K C (.type "object") = some true) &&
  (decide (PySem.W.findIn K (.ref C) "__ne__" = some (some (.builtin "object.__ne__"))) && (decide (PySem.W.findIn K (.ref C) "__bool__" = some none) && (allOps.all fun o => (match PySem.W.findIn K (.ref C) (opR o) with
    | some none => true
    | some (some (.ref _)) => true
    | _ => false) && decide (PySem.W.findIn K (.ref C) (dunderI (opL o).info.2) = some none))))))
theorem own_ok {X : Cx} {L : Pl} {c : Nat} (h : ownB X.K (L.cla c) = true) : OwnOk X L c := by
  obtain ⟨h1, h⟩ := Bool.and_eq_true_iff.mp h
  obtain ⟨h2, h⟩ := Bool.and_eq_true_iff.mp h
  obtain ⟨h3, h⟩ := Bool.and_eq_true_iff.mp h
  obtain ⟨h4, h⟩ := Bool.and_eq_true_iff.mp h
  obtain ⟨h5, h6⟩ := Bool.and_eq_true_iff.mp h
  have B := fun b : Bt => Bool.and_eq_true_iff.mp (List.all_eq_true.mp h2 b (by cases b <;> simp [bts]))
  have O := fun o : Op => Bool.and_eq_true_iff.mp (List.all_eq_true.mp h6 o (by cases o <;> simp [allOps]))
  refine ⟨?_, fun b => of_decide_eq_true (B b).1, fun b => of_decide_eq_true (B b).2, of_decide_eq_true h3, of_decide_eq_true h4, of_decide_eq_true h5, fun o => ?_, fun o => of_decide_eq_true (O o).2⟩
  · split at h1
    · rename_i cd q
      exact ⟨cd, q, of_decide_eq_true h1⟩
    · cases h1
  · have z := (O o).1
    split at z
    · rename_i q
      exact ⟨none, q, .inl rfl⟩
    · rename_i g q
      exact ⟨_, q, .inr ⟨g, rfl⟩⟩
    · cases z
def opB (K : PySem.W.Frag) (C : Addr) (m : Str) : Bool := match PySem.W.findIn K (.ref C) m with
  | some (some (.ref f)) => PySem.W.isFn K (.ref f)
  | _ => false
theorem opB_ok {K : PySem.W.Frag} {C : Addr} {m : Str} (h : opB K C m = true) : PySem.W.findIn K (.ref C) m = some (some (.ref (He.ma K C m))) ∧ PySem.W.isFn K (.ref (He.ma K C m)) = true := by
  unfold opB at h
  unfold He.ma
  split at h
  · rename_i f q
    rw [q]
    exact ⟨rfl, h⟩
  · cases h
/-! ### static methods -/
def smAd (K : PySem.W.Frag) (C : Addr) (m : Str) : Addr := match PySem.W.recIn K (He.ma K C m) "staticmethod" with
  | some (.ref f :: _) => f
  | _ => 0
def smB (K : PySem.W.Frag) (C : Addr) (m : Str) : Bool := decide (PySem.W.specialIn K (.ref C) "__getattribute__" = some (some (.builtin "type.__getattribute__"))) && (match PySem.W.typeIn K (.ref C) with
  | some mc => PySem.W.readsIn K C mc && (match PySem.W.findCls K (.ref C) mc m with
    | some (.get (.builtin g) (.ref p) .none (.ref D)) => decide (g = "staticmethod.__get__") && (decide (p = He.ma K C m) && decide (D = C))
    | _ => false)
  | none => false) && (match PySem.W.recIn K (He.ma K C m) "staticmethod" with
    | some (.ref f :: _) => PySem.W.handedIn (.ref f)
    | _ => false)
theorem sm_ok {K : PySem.W.Frag} {C : Addr} {m : Str} (h : smB K C m = true) : ∃ (mc : Value) (p : Addr) (rest : List Value), PySem.W.specialIn K (.ref C) "__getattribute__" = some (some (.builtin "type.__getattribute__")) ∧ PySem.W.typeIn K (.ref C) = some mc ∧ PySem.W.readsIn K C mc = true ∧
    PySem.W.findCls K (.ref C) mc m = some (.get (.builtin "staticmethod.__get__") (.ref p) .none (.ref C)) ∧ PySem.W.recIn K p "staticmethod" = some (.ref (smAd K C m) :: rest) ∧ PySem.W.handedIn (.ref (smAd K C m)) = true := by
  obtain ⟨h1, h3⟩ := Bool.and_eq_true_iff.mp h
  obtain ⟨h1, h2⟩ := Bool.and_eq_true_iff.mp h1
  split at h2
  · rename_i mc q
    obtain ⟨h4, h5⟩ := Bool.and_eq_true_iff.mp h2
    split at h5
    · rename_i g p D q2
      obtain ⟨h6, h7⟩ := Bool.and_eq_true_iff.mp h5
      obtain ⟨h8, h9⟩ := Bool.and_eq_true_iff.mp h7
      cases of_decide_eq_true h6
      cases of_decide_eq_true h8
      cases of_decide_eq_true h9
      unfold smAd
      split at h3
      · rename_i f rest q3
        exact ⟨mc, _, rest, of_decide_eq_true h1, q, h4, q2, q3, h3⟩
      · cases h3
    · cases h5
  · cases h2
/-! ### the Hook -/
structure FD where
  ad : PySem.W.Frag → Addr
  d : He.DefD
def fnAt (K : PySem.W.Frag) (a : Addr) : He.FnW := match K.lookup a with
  | some ⟨_, _, .func fd, _⟩ => some (fd.name, fd.qualname, fd.params, fd.body, fd.scope, fd.globals, fd.closure, fd.builtins)
  | _ => none
def okAt (K : PySem.W.Frag) (a : Addr) (d : He.DefD) : Bool := PySem.W.keepIn K (.ref a) && (match K.lookup a with
  | some ⟨_, _, .func fd, _⟩ => PySem.W.codeIn K fd.code d.qual && (He.dflB K fd.defaults (d.dvs K) && He.kwdB K fd.kwdefaults (d.kws K))
  | _ => false)
abbrev IsAt (K : PySem.W.Frag) (i : FD) (fd : FuncData) : Prop := FunD K i.d.name i.d.qual i.d.params i.d.body i.d.scope (i.d.dvs K) (i.d.kws K) (i.ad K) fd
theorem isAt_of {K : PySem.W.Frag} {i : FD} (e : fnAt K (i.ad K) = i.d.val) (c : okAt K (i.ad K) i.d = true) : ∃ fd, IsAt K i fd := by
  obtain ⟨kp, c2⟩ := Bool.and_eq_true_iff.mp c
  unfold fnAt at e
  split at c2
  · rename_i oc od fd osl q
    rw [q] at e
    obtain ⟨n1, n2, n3, n4, n5, n6, n7, n8, n9, n10, n11, n12, n13, n14, n15⟩ := fd
    have e2 : (some (n1, n2, n3, n4, n5, n6, n7, n15) : He.FnW) = some (i.d.name, i.d.qual, i.d.params, .stmts i.d.body, i.d.scope, mainGlobals, [], builtinsNs) := e
    simp only [Option.some.injEq, Prod.mk.injEq] at e2
    obtain ⟨h1, h2, h3, h4, h5, h6, h7, h8⟩ := e2
    subst h1 h2 h3 h4 h5 h6 h7 h8
    obtain ⟨k1, k2⟩ := Bool.and_eq_true_iff.mp c2
    obtain ⟨k3, k4⟩ := Bool.and_eq_true_iff.mp k2
    exact ⟨_, ⟨oc, od, n8, n9, n10, n11, n12, n13, n14, osl, rfl, q, k1, He.dflB_ok k3, He.kwdB_ok k4⟩, kp⟩
  · cases c2
abbrev AlP : Type := (Bool × List He.FnW) × List (Option (List (Option (Str × Int))))
def obsP (fa : List He.Fa) (fn : List FD) (ts : List He.Tab) (ex : PySem.W.Frag → Bool) (K : PySem.W.Frag) : AlP :=
  (((fa.all fun f => f.ok K) && ((fn.all fun d => okAt K (d.ad K) d.d) && ex K), fn.map fun d => fnAt K (d.ad K)), ts.map fun t => He.dicW K (t.1 K))
def valP (fn : List FD) (ts : List He.Tab) (w : World) : AlP := ((true, fn.map fun d => d.d.val), ts.map fun t => some (He.keysIn w.params t.2))
def SaysP (fa : List He.Fa) (fn : List FD) (ts : List He.Tab) (ex : PySem.W.Frag → Bool) (w : World) (K : PySem.W.Frag) : Prop := obsP fa fn ts ex K = valP fn ts w
/-- what the module's names reach, step by step -/
def asP (g : Addr → Option Obj) : Nat → List Addr → List Addr
  | 0, as => as
  | n + 1, as => as ++ asP g n (as.flatMap fun a => match g a with
    | some o => He.refsD o
    | none => [])
def obsPG (n : Nat) (fa : List He.Fa) (fn : List FD) (ts : List He.Tab) (ex : PySem.W.Frag → Bool) (g : Addr → Option Obj) : AlP := obsP fa fn ts ex (He.frG g (cStatics :: asP g n [mainGlobals]))
def hookP (n : Nat) (fa : List He.Fa) (fn : List FD) (ts : List He.Tab) (ex : PySem.W.Frag → Bool) : PySem.W.Hook where
  α := AlP
  obs := fun s => obsPG n fa fn ts ex s.heap.get?
  val := fun w => valP fn ts w
  says := fun w h => ∃ K : PySem.W.Frag, K.In h ∧ SaysP fa fn ts ex w K
  of := fun _ _ e => ⟨_, He.frG_in, e⟩
  keeps := fun _ _ _ ⟨K, hK, c⟩ k => ⟨K, PySem.W.Frag.In.keeps hK k, c⟩
theorem obsPG_eq {n : Nat} {fa : List He.Fa} {fn : List FD} {ts : List He.Tab} {ex : PySem.W.Frag → Bool} {g : Addr → Option Obj} {s : Shared} (h : ∀ a, g a = s.heap.get? a) : obsPG n fa fn ts ex g = (hookP n fa fn ts ex).obs s := by
  have e : g = s.heap.get? := funext h
  rw [e] <;> rfl
section
variable {fa : List He.Fa} {fn : List FD} {ts : List He.Tab} {ex : PySem.W.Frag → Bool} {w : World} {K : PySem.W.Frag}
theorem SaysP.bools (c : SaysP fa fn ts ex w K) : ((fa.all fun f => f.ok K) && ((fn.all fun d => okAt K (d.ad K) d.d) && ex K)) = true := congrArg (fun z : AlP => z.1.1) c
theorem SaysP.fact (c : SaysP fa fn ts ex w K) (i : Nat) {f : He.Fa} (h : fa[i]? = some f := by rfl) : f.ok K = true :=
  List.all_eq_true.mp (Bool.and_eq_true_iff.mp c.bools).1 f (List.mem_of_getElem? h)
theorem SaysP.more (c : SaysP fa fn ts ex w K) : ex K = true := (Bool.and_eq_true_iff.mp (Bool.and_eq_true_iff.mp c.bools).2).2
theorem SaysP.def_ (c : SaysP fa fn ts ex w K) (i : Nat) {d : FD} (h : fn[i]? = some d) : ∃ fd, IsAt K d fd := by
  have e : fn.map (fun d => fnAt K (d.ad K)) = fn.map fun d => d.d.val := congrArg (fun z : AlP => z.1.2) c
  have e2 : (fn.map fun d => fnAt K (d.ad K))[i]? = (fn.map fun d => d.d.val)[i]? := by rw [e]
  rw [List.getElem?_map, List.getElem?_map, h] at e2
  exact isAt_of (Option.some.inj e2) (List.all_eq_true.mp (Bool.and_eq_true_iff.mp (Bool.and_eq_true_iff.mp c.bools).2).1 d (List.mem_of_getElem? h))
theorem SaysP.tab (c : SaysP fa fn ts ex w K) (i : Nat) {t : He.Tab} (h : ts[i]? = some t := by rfl) : ∃ es n, KDict K w (t.1 K) es n := by
  have e : ts.map (fun t => He.dicW K (t.1 K)) = ts.map fun t => some (He.keysIn w.params t.2) := congrArg (fun z : AlP => z.2) c
  have e2 : (ts.map fun t => He.dicW K (t.1 K))[i]? = (ts.map fun t => some (He.keysIn w.params t.2))[i]? := by rw [e]
  rw [List.getElem?_map, List.getElem?_map, h] at e2
  exact He.dicW_ok (Option.some.inj e2)
end
/-! ### a table of defs at addresses, levels -/
structure FJ where
  f : FD
  N : List Str
  ps : List Str
  code : Ss
  /-- a def made for one lambda: no function of the text -/
  lam : Bool := false
def tabJ (T : List FJ) (f : Nat) : Option Fn := (T[f]?).map fun i => ⟨i.ps.length, i.N.length, i.code⟩
def AllJ (P : Program) (w : World) (K : PySem.W.Frag) (mg : Str → Option Value) (base : Heap) (L : Pl) (G : Gd) (T : List FJ) (l : Nat) : Prop :=
  ∀ (f : Nat) (i : FJ) (fd : FuncData), T[f]? = some i → i.lam = false → IsAt K i.f fd → FnOk P w K mg base (L2.CX P w) (4 * l) (i.f.ad K) fd i.ps (spD K L (callN G (tabJ T) l) f i.ps.length)
theorem all_j {P : Program} {w : World} {K : PySem.W.Frag} {mg : Str → Option Value} {base : Heap} {L : Pl} {G : Gd} {T : List FJ} (hx : G.exi = none) (hs : ∀ (f : Nat) (i : FJ), T[f]? = some i → i.lam = false → FnScope i.N i.ps i.f.d.scope)
    (hb : ∀ (f : Nat) (i : FJ) (fd : FuncData), T[f]? = some i → i.lam = false → IsAt K i.f fd → ∀ l, AllJ P w K mg base L G T l → (∀ l', l = l' + 1 → AllJ P w K mg base L G T l') → ∀ (cdv : Value) (A : Around) (outer : List Env) (s : Shared) (H : Hp) (E : XK), cdOf K (i.f.ad K) = cdv →
      Room (4 * l + 3) (A.deeper (envOfC i.f.d.qual i.f.d.scope s.heap.objs.size (i.f.ad K) cdv)) →
      SimSs (cxOf (L2.CX P w) P w K mg base i.N i.f.d.qual i.f.d.scope (i.f.ad K) cdv A outer s H E) L G (callN G (tabJ T) l) i.f.d.body i.code) : ∀ l, AllJ P w K mg base L G T l ∧ ∀ l', l = l' + 1 → AllJ P w K mg base L G T l'
  | 0 => ⟨fun f i fd hi hl hF => fn_ok0, fun l' e => by cases e⟩
  | l + 1 => by
    obtain ⟨h1, h2⟩ := all_j hx hs hb l
    refine ⟨fun f i fd hi hl hF => ?_, fun l' e => by cases e; exact h1⟩
    have e : tabJ T f = some ⟨i.ps.length, i.N.length, i.code⟩ := by unfold tabJ; rw [hi]; rfl
    exact fn_ok (j := 4 * l + 3) hF (hs f i hi hl) e hx fun cdv A outer s H E hc hr => hb f i fd hi hl hF l h1 h2 cdv A outer s H E hc hr
/-- keywords for all that is not written, no defaults in use -/
theorem kbindsN {K : PySem.W.Frag} {x qual : Str} {params : Arguments} {body : List Stmt} {scope : Scope} {f : Addr} {fd : FuncData} {ps : List Str} (F : FunD K x qual params body scope [] [] f fd) (n : Nat) (ks : List Str)
    (h : ∀ (kV doc pm : Value) (an : Option Addr) (cdv ct : Value) (us ws : List Value), us.length = n → ws.length = ks.length → bindArgs (PySem.W.fnOf x qual params body scope .none kV doc pm an cdv ct) ⟨us, ks.zip ws⟩ = pure (ps.zip (us ++ ws))) :
    KBn K fd ps n ks (fun us ws => us ++ ws) (fun vs zs => vs ++ zs) := by
  obtain ⟨oc, od, dV, kV, doc, pm, an, cdv, ct, osl, rfl, lk, hcd, hD, hK⟩ := F.ex
  rcases hD with ⟨_, rfl⟩ | ⟨e, _⟩
  · exact ⟨fun s us ws X l1 l2 => BindsTo.of_eq (h kV doc pm an cdv ct us ws l1 l2), fun r1 r2 => r1.append r2⟩
  · exact absurd rfl e
theorem callJ_ar {G : Gd} {T : List FJ} {g : Nat} {i : FJ} (h : T[g]? = some i) (l : Nat) (as : List D) (S : Store) (e : callN G (tabJ T) l g as S ≠ .stuck) : as.length = i.ps.length :=
  callN_ar (fn := ⟨i.ps.length, i.N.length, i.code⟩) (by unfold tabJ; rw [h]; rfl) l as S e
def gdOf (gvs : List D) (kts : List (List (Str × D))) (pt mt ot : List (Nat × Str × Nat)) (ft : List (Nat × Str)) (ic : List Nat) (xs : Nat → Nat → Option Bool) : Gd :=
  ⟨fun i => gvs[i]?, fun i => kts[i]?, fun c => (pt.filter (·.1 == c)).map (·.2), fun c => (mt.filter (·.1 == c)).map (·.2), fun c => (ft.filter (·.1 == c)).map (·.2), fun c => ic.contains c, fun c => (ot.filter (·.1 == c)).map (·.2), xs, none⟩
theorem look_tri {tri : List (Nat × Str × Nat)} {c : Nat} {f : Str} {g : Nat} (h : ((tri.filter (·.1 == c)).map (·.2)).lookup f = some g) : (c, f, g) ∈ tri := by
  have h1 := PySem.mem_of_lookup h
  obtain ⟨t, ht, e⟩ := List.mem_map.mp h1
  obtain ⟨h2, h3⟩ := List.mem_filter.mp ht
  have e1 : t.1 = c := beq_iff_eq.mp h3
  have e2 : t = (c, f, g) := by
    cases t with
    | mk a b =>
      have e3 : b = (f, g) := e
      rw [e3, show a = c from e1]
  rw [← e2]
  exact h2
theorem has_pair {l : List (Nat × Str)} {c : Nat} {f : Str} (h : ((l.filter (·.1 == c)).map (·.2)).contains f = true) : (c, f) ∈ l := by
  have h1 : f ∈ (l.filter (·.1 == c)).map (·.2) := List.contains_iff_mem.mp h
  obtain ⟨t, ht, e⟩ := List.mem_map.mp h1
  obtain ⟨h2, h3⟩ := List.mem_filter.mp ht
  have e1 : t.1 = c := beq_iff_eq.mp h3
  have e2 : t = (c, f) := by
    cases t with
    | mk a b =>
      have e3 : b = f := e
      rw [e3, show a = c from e1]
  rw [← e2]
  exact h2
section
variable {P : Program} {w : World} {K : PySem.W.Frag} {mg : Str → Option Value} {base : Heap} {L : Pl} {G : Gd} {T : List FJ} {l : Nat} {X : Cx}
/-- X is a def's body at the level l -/
structure At (P : Program) (w : World) (K : PySem.W.Frag) (mg : Str → Option Value) (base : Heap) (l : Nat) (X : Cx) : Prop where
  p : X.prog = P
  w : X.w = w
  k : X.K = K
  m : X.mg = mg
  b : X.base = base
  c : X.calm = true
  n : X.N.Nodup
  r : Room (4 * l + 3) X.A
theorem At.fn (a : At P w K mg base l X) (AJ : AllJ P w K mg base L G T l) {g : Nat} {j : FJ} {fd : FuncData} (hj : T[g]? = some j) (hl : j.lam = false) (hF : IsAt K j.f fd) : FnAt X L (callN G (tabJ T) l) g j.ps.length (j.f.ad K) fd j.ps (4 * l) := by
  obtain ⟨h1, h2, h3, h4, h5, h6, h7, h8⟩ := a
  subst h1 h2 h3 h4 h5
  exact ⟨AJ g j fd hj hl hF, h8, callJ_ar hj l⟩
theorem At.call (a : At P w K mg base l X) (AJ : AllJ P w K mg base L G T l) {g n : Nat} {j : FJ} {fd : FuncData} {x : Str} {sh : List Src} {ds : List Value} {dvs : List V} {dl : List D} (hj : T[g]? = some j) (hF : IsAt K j.f fd) (hm : mg x = some (.ref (j.f.ad K))) (hb : Binds K fd j.ps ds) (hv : Vals dvs ds) (hn : n + dvs.length = j.ps.length)
    (hs : ∀ as : List D, as.length = n → srcs as sh = some (as ++ dl)) (hd : ∀ H ρ m, RpL K L H ρ m dl dvs) (hl : j.lam = false := by rfl) : CallOk X L (callN G (tabJ T) l) x g n sh := by
  have F := a.fn AJ hj hl hF
  obtain ⟨h1, h2, h3, h4, h5, h6, h7, h8⟩ := a
  subst h3 h4
  exact ⟨⟨_, _, fd, _, _, ds, dvs, dl, F, hm, hF.kp, hb, hv, hn, hs, hd⟩⟩
theorem At.callK (a : At P w K mg base l X) (AJ : AllJ P w K mg base L G T l) {g n : Nat} {j : FJ} {fd : FuncData} {x : Str} {ks : List Str} {sh : List Src} (hj : T[g]? = some j) (hF : IsAt K j.f fd) (hm : mg x = some (.ref (j.f.ad K))) (hb : KBn K fd j.ps n ks (fun us ws => us ++ ws) (fun vs zs => vs ++ zs)) (hn : n + ks.length = j.ps.length)
    (hs : ∀ as es : List D, as.length = n → es.length = ks.length → srcs (as ++ es) sh = some (as ++ es)) (hl : j.lam = false := by rfl) : CallK X L (callN G (tabJ T) l) x g n ks sh := by
  have F := a.fn AJ hj hl hF
  obtain ⟨h1, h2, h3, h4, h5, h6, h7, h8⟩ := a
  subst h3 h4
  exact ⟨⟨_, _, fd, _, _, _, _, F, hm, hF.kp, hb, fun as es vs zs H ρ m p q l1 l2 => ⟨by rw [List.length_append, ← p.length, ← q.length, l1, l2]; exact hn, _, hs as es l1 l2, p.append q⟩⟩⟩
theorem At.mkK (a : At P w K mg base l X) (AJ : AllJ P w K mg base L G T l) {g n c : Nat} {j : FJ} {fd : FuncData} {x : Str} {ks : List Str} {sh : List Src} {gg : List Value → List Value → List Value} (hj : T[g]? = some j) (hF : IsAt K j.f fd) (M : Mk K (L.cla c) (j.f.ad K)) (hm : mg x = some (.ref (L.cla c))) (hb : KBn K fd j.ps (n + 1) ks gg (fun vs zs => vs ++ zs)) (hn : n + 1 + ks.length = j.ps.length)
    (hs : ∀ as es : List D, as.length = n + 1 → es.length = ks.length → srcs (as ++ es) sh = some (as ++ es)) (hl : j.lam = false := by rfl) : MkK X L (callN G (tabJ T) l) x c g n ks sh := by
  have F := a.fn AJ hj hl hF
  obtain ⟨h1, h2, h3, h4, h5, h6, h7, h8⟩ := a
  subst h3 h4
  exact ⟨⟨_, _, fd, _, _, _, _, F, M, hm, hb, fun as es vs zs H ρ m p q l1 l2 => ⟨by rw [List.length_append, ← p.length, ← q.length, l1, l2]; exact hn, _, hs as es l1 l2, p.append q⟩⟩⟩
theorem At.mkI (a : At P w K mg base l X) (AJ : AllJ P w K mg base L G T l) {g n c : Nat} {j : FJ} {fd : FuncData} {x : Str} {sh : List Src} {ds : List Value} {dvs : List V} {dl : List D} (hj : T[g]? = some j) (hF : IsAt K j.f fd) (M : Mk K (L.cla c) (j.f.ad K)) (hm : mg x = some (.ref (L.cla c))) (hb : Binds K fd j.ps ds) (hv : Vals dvs ds) (hn : n + 1 + dvs.length = j.ps.length)
    (hs : ∀ as : List D, as.length = n + 1 → srcs as sh = some (as ++ dl)) (hd : ∀ H ρ m, RpL K L H ρ m dl dvs) (hl : j.lam = false := by rfl) : MkOk X L (callN G (tabJ T) l) x c g n sh := by
  have F := a.fn AJ hj hl hF
  obtain ⟨h1, h2, h3, h4, h5, h6, h7, h8⟩ := a
  subst h3 h4
  exact ⟨⟨_, _, fd, _, _, ds, dvs, dl, F, M, hm, hb, hv, hn, hs, hd⟩⟩
theorem At.stc (a : At P w K mg base l X) (AJ : AllJ P w K mg base L G T l) {g n c : Nat} {j : FJ} {fd : FuncData} {x m : Str} {sh : List Src} {ds : List Value} {dvs : List V} {dl : List D} (hj : T[g]? = some j) (hF : IsAt K j.f fd) (hs0 : smB K (L.cla c) m = true) (hA : j.f.ad K = smAd K (L.cla c) m) (hm : mg x = some (.ref (L.cla c))) (hb : Binds K fd j.ps ds) (hv : Vals dvs ds) (hn : n + dvs.length = j.ps.length)
    (hs : ∀ as : List D, as.length = n → srcs as sh = some (as ++ dl)) (hd : ∀ H ρ m, RpL K L H ρ m dl dvs) (hl : j.lam = false := by rfl) : StcOk X L (callN G (tabJ T) l) x m g n sh := by
  have F := a.fn AJ hj hl hF
  obtain ⟨mc, p, rest, s1, s2, s3, s4, s5, s6⟩ := sm_ok hs0
  obtain ⟨h1, h2, h3, h4, h5, h6, h7, h8⟩ := a
  subst h3 h4
  rw [← hA] at s5 s6
  exact ⟨⟨c, _, _, p, fd, _, _, ds, dvs, dl, mc, rest, F, hm, s1, s2, s3, s4, s5, s6, hF.kp, hb, hv, hn, hs, hd⟩⟩
/-- what stands behind the classes of gdOf -/
theorem At.env (a : At P w K mg base l X) {gvs : List D} {kts : List (List (Str × D))} {pt mt ot : List (Nat × Str × Nat)} {ft : List (Nat × Str)} {ic : List Nat} {xs : Nat → Nat → Option Bool} (AJ : AllJ P w K mg base L (gdOf gvs kts pt mt ot ft ic xs) T l)
    (hp : ∀ t ∈ pt, Cls K (L.cla t.1) ∧ ∃ p j fd, PropOf K (L.cla t.1) t.2.1 p (j.f.ad K) ∧ T[t.2.2]? = some j ∧ j.lam = false ∧ IsAt K j.f fd ∧ j.ps.length = 1 ∧ Binds K fd j.ps [])
    (hm : ∀ t ∈ mt, Cls K (L.cla t.1) ∧ ∃ j fd, Meth K (L.cla t.1) t.2.1 (j.f.ad K) ∧ T[t.2.2]? = some j ∧ j.lam = false ∧ IsAt K j.f fd ∧ Binds K fd j.ps [])
    (ho : ∀ t ∈ ot, ownB K (L.cla t.1) = true ∧ opB K (L.cla t.1) t.2.1 = true ∧ Cls K (L.cla t.1) ∧ ∃ j fd, j.f.ad K = He.ma K (L.cla t.1) t.2.1 ∧ T[t.2.2]? = some j ∧ j.lam = false ∧ IsAt K j.f fd ∧ Binds K fd j.ps [])
    (hf : ∀ t ∈ ft, Cls K (L.cla t.1) ∧ NoAttr K (L.cla t.1) t.2)
    (hk : ∀ i t, kts[i]? = some t → (∃ es n, KDict K w (L.kda i) es n) ∧ kdB K (L.kda i) t = true)
    (hi : ∀ c ∈ ic, Cls K (L.cla c) ∧ isiB K (L.cla c) = true ∧ kitB1 K L c = true ∧ ∀ c' ∈ ic, kitB2 K L c c' = true) : EnvOk X L (gdOf gvs kts pt mt ot ft ic xs) (callN (gdOf gvs kts pt mt ot ft ic xs) (tabJ T) l) := by
  have F := fun {g : Nat} {j : FJ} {fd : FuncData} (hj : T[g]? = some j) (hl : j.lam = false) (hF : IsAt K j.f fd) => a.fn AJ hj hl hF
  obtain ⟨h1, h2, h3, h4, h5, h6, h7, h8⟩ := a
  subst h1 h2 h3 h4 h5
  refine ⟨h7, ?_, fun _ => rfl, fun c => ⟨fun f g e => ?_, fun m g e => ?_, fun f e => ?_, fun m g e => ?_⟩, fun i t e => ?_, fun c e => ?_, fun c b e => ?_, fun c t e ht => ?_, fun c c' e e' => ?_⟩
  · have := h8.un
    omega
  · obtain ⟨cl, p, j, fd, q, hj, hla, hF, hl, hb⟩ := hp _ (look_tri e)
    have FF := F hj hla hF
    rw [hl] at FF
    exact ⟨cl, p, _, fd, _, _, q, FF, hb⟩
  · obtain ⟨cl, j, fd, q, hj, hla, hF, hb⟩ := hm _ (look_tri e)
    exact ⟨cl, _, fd, _, _, _, q, F hj hla hF, hb, rfl⟩
  · exact hf _ (has_pair e)
  · obtain ⟨o1, o2, cl, j, fd, ea, hj, hla, hF, hb⟩ := ho _ (look_tri e)
    obtain ⟨p1, p2⟩ := opB_ok o2
    have FF := F hj hla hF
    dsimp only at ea p1 p2
    rw [← ea] at p1 p2
    exact ⟨own_ok o1, cl, _, fd, _, _, _, p1, p2, FF, hb, rfl⟩
  · obtain ⟨d, c⟩ := hk i t e
    exact kd_ok d c
  · have hc : c ∈ ic := List.contains_iff_mem.mp e
    exact isi_ok (hi c hc).1 (hi c hc).2.1
  · exact kbo_ok (hi c (List.contains_iff_mem.mp e)).2.2.1 b
  · exact kob_ok (hi c (List.contains_iff_mem.mp e)).2.2.1 t ht
  · exact of_decide_eq_true ((hi c (List.contains_iff_mem.mp e)).2.2.2 c' (List.contains_iff_mem.mp e'))
end
end QD

/-! QDB: rules by name. -/
namespace QD
open PySem PySem.Spec PyProof.Rows L2
section
variable {X : Cx} {L : Pl} {G : Gd} {cf : Nat → List D → Store → Res D} {pos : Pos}
theorem cg_lt : CmG X L (compareOp .Lt) fun x y S => evCmO G cf .lt x y S := cg_cd cd_lt
theorem cg_le : CmG X L (compareOp .LtE) fun x y S => evCmO G cf .le x y S := cg_cd cd_le
theorem cg_gt : CmG X L (compareOp .Gt) fun x y S => evCmO G cf .gt x y S := cg_cd cd_gt
theorem cg_ge : CmG X L (compareOp .GtE) fun x y S => evCmO G cf .ge x y S := cg_cd cd_ge
theorem cg_isN : CmG X L (compareOp .Is) fun x y S => evCmO G cf .isN x y S := cg_cd cd_isN
theorem cg_notN : CmG X L (compareOp .IsNot) fun x y S => evCmO G cf .notN x y S := cg_cd cd_notN
theorem oi_int {o : Op} {g : Int → Int → Int} {P : Int → Int → Prop} (rule : OpR X (inplaceOp (opL o)) (rI P fun i j => .int (g i j))) (he : ∀ S i j d S', evOp S o (.int i) (.int j) = .ok d S' → P i j ∧ d = .int (g i j) ∧ S' = S) :
    OpD X L (inplaceOp (opL o)) (fun S x y => match x, y with | .int _, .int _ => evOp S o x y | _, _ => .stuck) := by
  intro ρ S H x y d S' vx vy r px py h
  dsimp only at h
  split at h
  · rename_i i j
    obtain ⟨hp, rfl, rfl⟩ := he S i j d S' h
    cases (show vx = .int i from px)
    cases (show vy = .int j from py)
    exact ⟨_, rule, fun Q k => ⟨i, j, rfl, rfl, hp, k ρ H _ (Nx.refl r) rfl⟩⟩
  · cases h
theorem au_band (E : EnvOk X L G cf) : OpG X L (inplaceOp .BitAnd) fun x y S => evAug G cf .band x y S := au_op (o := .band) E (oi_int (OpR.of0 iop_and) fun S i j d S' h => by cases h; exact ⟨trivial, rfl, rfl⟩)
theorem au_bor (E : EnvOk X L G cf) : OpG X L (inplaceOp .BitOr) fun x y S => evAug G cf .bor x y S := au_op (o := .bor) E (oi_int (OpR.of0 iop_or) fun S i j d S' h => by cases h; exact ⟨trivial, rfl, rfl⟩)
theorem au_sub (E : EnvOk X L G cf) : OpG X L (inplaceOp .Sub) fun x y S => evAug G cf .sub x y S := au_op (o := .sub) E (oi_int (OpR.of0 iop_sub) fun S i j d S' h => by cases h; exact ⟨trivial, rfl, rfl⟩)
theorem au_add (E : EnvOk X L G cf) : OpG X L (inplaceOp .Add) fun x y S => evAug G cf .add x y S := au_op (o := .add) E (oi_int (OpR.of0 iop_add) fun S i j d S' h => by cases h; exact ⟨trivial, rfl, rfl⟩)
theorem og_add (E : EnvOk X L G cf) : OpG X L (binaryOp .Add) fun x y S => evBin G cf .add x y S := og_bin (o := .add) E od_add
theorem og_sub (E : EnvOk X L G cf) : OpG X L (binaryOp .Sub) fun x y S => evBin G cf .sub x y S := og_bin (o := .sub) E od_sub
theorem og_mul (E : EnvOk X L G cf) : OpG X L (binaryOp .Mult) fun x y S => evBin G cf .mul x y S := og_bin (o := .mul) E od_mul
theorem og_fdiv (E : EnvOk X L G cf) : OpG X L (binaryOp .FloorDiv) fun x y S => evBin G cf .fdiv x y S := og_bin (o := .fdiv) E od_fdiv
theorem og_mod (E : EnvOk X L G cf) : OpG X L (binaryOp .Mod) fun x y S => evBin G cf .mod x y S := og_bin (o := .mod) E od_mod
theorem og_shl (E : EnvOk X L G cf) : OpG X L (binaryOp .LShift) fun x y S => evBin G cf .shl x y S := og_bin (o := .shl) E od_shl
theorem og_shr (E : EnvOk X L G cf) : OpG X L (binaryOp .RShift) fun x y S => evBin G cf .shr x y S := og_bin (o := .shr) E od_shr
theorem og_band (E : EnvOk X L G cf) : OpG X L (binaryOp .BitAnd) fun x y S => evBin G cf .band x y S := og_bin (o := .band) E od_band
theorem og_bor (E : EnvOk X L G cf) : OpG X L (binaryOp .BitOr) fun x y S => evBin G cf .bor x y S := og_bin (o := .bor) E od_bor
theorem og_bxor (E : EnvOk X L G cf) : OpG X L (binaryOp .BitXor) fun x y S => evBin G cf .bxor x y S := og_bin (o := .bxor) E od_bxor
theorem og_pow (E : EnvOk X L G cf) : OpG X L (binaryOp .Pow) fun x y S => evBin G cf .pow x y S := og_bin (o := .pow) E od_pow
theorem si_mk0 {x : Str} {c f : Nat} {sh : List Src} {p pos : Pos} (hc : MkOk X L cf x c f 0 sh) (hg : Gl X x) (hdb : (x == ("__debug__" : Str)) = false := by decide) : Sim X L G cf (.Call (.Name x p) [] [] pos) (.mk c f sh .nil) := by
  refine ⟨fun W tk ρ σd σ S H Q r rs h => fun pins s I => ?_⟩
  obtain ⟨kk, fa, fd, ps, j, dsv, dvs, dl, F, M, hm, hb, hd, hl, hs, hdl⟩ := hc.ex
  obtain ⟨as, e3, g4⟩ := Res.good_of (Res.good_bind (r := Res.of (srcs [.ref S.n] sh) S) h)
  have e5 := hs [.ref S.n] rfl
  rw [e3] at e5
  cases e5
  refine wpAny_Call_Name_kw (ld_glob I hg hm ?_ hdb)
  refine PySem.W.callWith_K0 I.kIn M.kp ?_
  have len : (V.ref 0 :: dvs).length = kk := by
    rw [List.length_cons]
    omega
  refine run_mk (all := fun a => .ref a :: dsv) (vs := fun a => .ref a :: dvs) tk M F.ok (F.room.mono (by omega)) I (fun a t hk hz => hb t [.ref a] hk hz) (fun a => .cons rfl hd) fun a da ha hda hne => ?_
  obtain ⟨n2, p2⟩ := mk_self (L := L) (c := c) r ha hda hne
  exact mk_end (Nx.refl r) ha hda hne g4 len (RpL.cons p2 (hdl _ _ _))
/-- a, b = x, y of plain locals -/
theorem ss_par {i j : Nat} {x y : Str} {a b : Expr} {cs : Cs} {px py pt pt2 : Pos} {kt k2 : Nat} (hc : X.calm = true) (hN : X.N.Nodup) (hi : X.N[i]? = some x) (hj : X.N[j]? = some y) (hij : i ≠ j) (hx : X.env.scope.names.lookup x = some .local) (hy : X.env.scope.names.lookup y = some .local) (ha : SimA X L G cf [a, b] cs)
    (hw : swappedStores [.Tuple [.Name x px, .Name y py] kt pt] (.Tuple [a, b] k2 pt2) X.env = pure (some [x, y])) (hs : swapsWithSole [.Tuple [.Name x px, .Name y py] kt pt] (.Tuple [a, b] k2 pt2) pos.line X.env = pure false := by rfl) :
    SimS X L G cf (.Assign [.Tuple [.Name x px, .Name y py] kt pt] (.Tuple [a, b] k2 pt2) pos) (.asgT [i, j] (.tup cs)) := by
  refine ⟨fun W tk ρ σd σ S H f S' D r rs h k => ?_⟩
  have h := Res.good_bind (r := evCs cf G cs σd S) (bx_good (r := evC cf G (.tup cs) σd S) h)
  refine ofS (ps_par hc hN hi hj hij hx hy (pA [a, b]) hw hs) (ha.run W tk ρ σd σ S H _ r rs (h.imp (fun ds S1 g ρ' H' vs n p => ?_) (xc_k k rs)))
  split at g
  · obtain ⟨σ1, S2, e2, h4⟩ := Res.bind_ok (show (Res.of (bindT S1 false [i, j] σd (.tup ds)) S1).bind (fun σ1 S2 => .ok (.nx σ1) S2) = .ok f S' from g)
    obtain ⟨e3, rfl⟩ := Res.of_ok e2
    cases h4
    cases ds with
    | nil => cases e3
    | cons d1 ds =>
      cases ds with
      | nil => cases e3
      | cons d2 ds =>
        cases ds with
        | cons _ _ => cases e3
        | nil =>
          cases e3
          obtain ⟨v1, r1, rfl, p1, p2⟩ := p
          obtain ⟨v2, r2, rfl, p2, p3⟩ := p2
          cases (show r2 = [] from p3)
          exact ⟨v1, v2, rfl, k ρ' H' _ n (((n.rs rs).s.set i p1).set j p2)⟩
  · exact g.elim
theorem sf_litE {x y : Str} {j : Nat} {p : Pos} {es : List Expr} {fs : Fs} (h : x = y) (hr : SimF X L G cf es fs) : SimF X L G cf (.Constant (.str x) j p :: es) (.lit y fs) := h ▸ sf_lit hr
/-- -x, ~x -/
theorem un_neg_d : ∀ S x d S', evUn S .neg x = .ok d S' → ∃ i, x = .int i ∧ d = .int (-i) ∧ S' = S := fun S x d S' h => by
  cases x <;> first | (cases h; exact ⟨_, rfl, rfl, rfl⟩) | cases h
theorem un_inv_d : ∀ S x d S', evUn S .inv x = .ok d S' → ∃ i, x = .int i ∧ d = .int (Builtin.bitNot i) ∧ S' = S := fun S x d S' h => by
  cases x <;> first | (cases h; exact ⟨_, rfl, rfl, rfl⟩) | cases h
def unL : Un → UnaryOp
  | .neg => .USub | .inv => .Invert
theorem si_un {a : Expr} {ca : C} {op : UnaryOp} {o : Un} {g : Int → Int} (E : EnvOk X L G cf) (hop : op = unL o) (ho : UnR X (unaryOp op) (rU fun i => .int (g i))) (hd : ∀ S x d S', evUn S o x = .ok d S' → ∃ i, x = .int i ∧ d = .int (g i) ∧ S' = S) (ha : Sim X L G cf a ca) : Sim X L G cf (.UnaryOp op a pos) (.un o ca) := by
  refine ⟨fun W tk ρ σd σ S H Q r rs h => fun pins s I => ?_⟩
  have h := Res.good_bind (r := evC cf G ca σd S) h
  refine UnaryOp_ (thn (ha.run W tk ρ σd σ S H (fun v H1 => ∃ ρ1 S1 x, Nx X.K L S H ρ S1 H1 ρ1 ∧ Rp X.K L H1 ρ1 S1.n x v ∧ (evUnO G cf o x S1).Good (kV X.K L S H ρ Q) (kX X.K L S H ρ (WE W σ))) r rs (h.imp (fun x S1 g ρ' H' v n p => ⟨ρ', S1, x, n, p, g⟩) fun _ _ _ k => k) pins s I) fun u s1 ⟨v, H1, I1, rv, ρ1, S1, x, n1, p1, gg⟩ => ?_)
  unfold evUnO at gg
  cases ex : insOf S1 x with
  | none =>
    rw [ex] at gg
    obtain ⟨d, S2, e, k⟩ := good_nox_ok gg
    obtain ⟨i, rfl, rfl, rfl⟩ := hd _ _ _ _ e
    exact ho pins s1 σ H1 v u Q I1 rv ⟨i, p1, k ρ1 H1 _ n1 rfl⟩
  | some c =>
    rw [ex] at gg
    dsimp only at gg
    split at gg
    · rename_i f ef
      obtain ⟨i, fs, rfl, ei⟩ := ins_of ex
      obtain ⟨hi, rfl⟩ := (show i < S1.n ∧ v = .ref (ρ1 i) from p1)
      obtain rfl : u = Value.ref (ρ1 i) := rv
      obtain ⟨O, cl, fa, fd, ps, j, kk, hf1, hf2, F, hbn, hl⟩ := (E.cls c).op _ f ef
      have hk : kk = 1 := (F.ar [.ref i] S1 gg.ns).symm
      subst hk
      obtain ⟨ox, od', J⟩ := own_at n1.r ei I1
      obtain ⟨m, hF⟩ := I1.fr
      have run := run_in (us := [.ref (ρ1 i)]) (vs := [.ref (ρ1 i)]) (E' := X.xe) F.ok (F.room.mono (by omega)) I1.env0 hbn I1 (.cons rfl .nil) ⟨ρ1, S1, [.ref i], rfl, n1.r, RpL.cons p1 RpL.nil, gg.at n1⟩ (fun e t c => pass tk σ pins H1 s1 e t I1 c)
      subst hop
      cases o with
      | neg => exact PySem.W.ksp_neg hF I1.ok.mod.kin J hf1 hf2 run
      | inv => exact PySem.W.ksp_inv hF I1.ok.mod.kin J hf1 hf2 run
    · exact gg.elim
end
end QD

/-! QDC: list(a text). -/
namespace QD
open PySem PySem.Spec PyProof.Rows L2
namespace Ls
open Builtin Builtin.List
variable {prog : Program} {w : World} {A : Around} {E : Value → Shared → Prop} {s : Shared} {x : Str} {t : Tok}
theorem hint {Q : Bool → Shared → Prop} (h : Q false s) : wpAny (model prog w) A (listLengthHint (.str x t)) Q E s := by
  unfold listLengthHint
  refine wpAny_bind (wpAny_specialOf (PySem.typeIs_str s x t) PySem.F.slot_str_len.lookup ?_)
  generalize hw : ("str.__len__" : String) = wd
  wp_delta
  rw [show splitId wd = some ("str", "__len__") from by subst hw; decide +kernel]
  subst hw
  refine wpAny_bind (wpAny_isInstance (T := "str") (b := true) (PySem.typeIs_str s x t) isSubtype_str_str ?_)
  refine wpAny_ite_split (fun q => absurd q (by decide)) fun _ => ?_
  refine wpAny_ite_split (fun _ => ?_) fun q => absurd q (by decide +kernel)
  exact wpAny_bind (wpAny_typeOf (T := "str") (PySem.typeIs_str s x t) (wpAny_pure h))
theorem fill {R : Result → Shared → Prop} (hh : A.handled = none) (hz : x.cps.size ≤ 1048576) (B : Addr) (c0 : Nat) (hB : s.heap.get? B = some { cls := .type "list", data := .seq #[] c0 })
    (hR : ∀ (h' : Heap) (tk : Nat) (got : Array Value) (c' : Nat), (∀ b o, b ≠ B → s.heap.get? b = some o → h'.get? b = some o) → h'.get? B = some { cls := .type "list", dict := none, data := .seq got c', slots := #[] } → ItemsOf (SignAt x) got x.cps.size → R (.ok (.ret .none)) { s with heap := h', toks := tk }) :
    wpAny (model prog w) A.in1 (listExtendWith (.ref B) (.str x t) .none) (fun fin s' => match fin with
      | .done f => R (.ok f) s'
      | .again c' => c'.quiet = true ∧ codeAny (model prog w) A c' R s') (fun e s' => R (.error e) s') s := by
  have ltB : B < s.heap.objs.size := Heap.lt_size hB
  have neB : B ≠ s.heap.objs.size := Nat.ne_of_lt ltB
  have notIn : B ∉ [s.heap.objs.size] := fun q => neB (List.mem_singleton.mp q)
  unfold listExtendWith
  refine wpAny_bind (wpAny_typeOf (T := "str") (PySem.typeIs_str s x t) ?_)
  have d1 : listSameRef (.ref B) (.str x t) = false := rfl
  have d2 : (Value.type "str" == Value.type "list") = false := by decide
  have d3 : (Value.type "str" == Value.type "tuple") = false := by decide
  simp only [d1, d2, d3, Bool.or_false, Bool.false_eq_true, if_false]
  refine wpAny_bind (wpAny_pyIter_str fun oI St WW st0 => ?_)
  have W := (WW A.in1 hh).toS
  have kept : ∀ b o, s.heap.get? b = some o → (s.heap.push oI).get? b = some o := fun b o e => Heap.get?_push_of_some _ e
  refine wpAny_bind (wpAny_holding (hint ?_))
  refine wpAny_ite_split (fun q => absurd q (by decide +kernel)) fun _ => ?_
  refine wpAny_pure ⟨plainId_quiet PySem.F.plain_extend_loop _, ?_⟩
  refine codeAny_extend_loopS W (by rw [sizeLine_eq]; omega) B notIn .none x.cps.size 0 _ #[] c0 rfl (Nat.zero_le _) st0 (kept _ _ hB) (ItemsOf.nil _) fun s2 got c' hm hB2 hg => ?_
  rw [Moved.eq_with hm]
  refine hR s2.heap s2.toks got c' (fun b o nb e => hm.heap b o (fun q => ?_) (kept b o e)) hB2 hg
  rcases List.mem_cons.mp q with q | q
  · exact nb q
  · have z := Heap.lt_size e
    rw [List.mem_singleton.mp q] at z
    exact Nat.lt_irrefl _ z
theorem call_list {Q : Value → Shared → Prop} (hh : A.handled = none) (hz : x.cps.size ≤ 1048576)
    (hQ : ∀ (h' : Heap) (tk : Nat) (got : Array Value) (c' : Nat), (∀ b o, s.heap.get? b = some o → h'.get? b = some o) → h'.get? s.heap.objs.size = some { cls := .type "list", dict := none, data := .seq got c', slots := #[] } → ItemsOf (SignAt x) got x.cps.size → Q (.ref s.heap.objs.size) { s with heap := h', toks := tk }) :
    wpAny (model prog w) A (call (.type "list") [.str x t]) Q E s := by
  refine callType_codes (Q₁ := fun o s₁ => o = .ref s.heap.objs.size ∧ s₁ = { s with heap := s.heap.push { cls := .type "list", data := .seq #[] } }) PySem.F.called_list (PySem.F.typeCall_list_1 _) PySem.F.entry_list_init (code_list_new _ ⟨rfl, rfl⟩) ?_
  rintro o s₁ ⟨rfl, rfl⟩
  have hB : (s.heap.push { cls := .type "list", data := .seq #[] }).get? s.heap.objs.size = some { cls := .type "list", data := .seq #[] } := Heap.get?_push_size _ rfl
  refine ⟨⟨_, hB, rfl⟩, PySem.F.args_list_init_2 _ _, ?_⟩
  show wpAny _ _ (do let l ← listItems (.ref s.heap.objs.size); listUpdate (.ref s.heap.objs.size) (fun _ => #[]); letGo l.toList.reverse; listExtendWith (.ref s.heap.objs.size) (.str x t) .none) _ _ _
  refine wpAny_bind ?_
  unfold listItems
  refine wpAny_bind (wpAny_seqItems hB rfl (wpAny_pure ?_))
  refine wpAny_bind (m := updateSeq s.heap.objs.size (fun _ => #[])) (wpAny_updateSeq hB rfl ?_)
  have hB2 := Heap.get?_update_self (Obj.mapSeq (fun _ => (#[] : Array Value))) hB rfl
  have other : ∀ b o, b ≠ s.heap.objs.size → (s.heap.push { cls := .type "list", data := .seq #[] }).get? b = some o → ((s.heap.push { cls := .type "list", data := .seq #[] }).update s.heap.objs.size (Obj.mapSeq (fun _ => (#[] : Array Value)))).get? b = some o := fun b o nb e => (Heap.get?_update_other _ _ (Ne.symm nb)).trans e
  refine wpAny_bind (wpAny_letGo ?_)
  refine fill (A := A.in1) hh hz s.heap.objs.size _ hB2 fun h' tk got c' hk h2 hg => ?_
  exact ⟨rfl, hQ h' tk got c' (fun b o e => hk b o (Nat.ne_of_lt (Heap.lt_size e)) (other b o (Nat.ne_of_lt (Heap.lt_size e)) (Heap.get?_push_of_some _ e))) h2 hg⟩
end Ls
section
variable {X : Cx} {L : Pl} {G : Gd} {cf : Nat → List D → Store → Res D}
theorem items_str {x : Str} {got : Array Value} (h : ItemsOf (SignAt x) got x.cps.size) : Vals (x.cps.toList.map fun c => V.str ⟨#[c]⟩) got.toList := by
  obtain ⟨h1, h2⟩ := h
  refine vals_of_idx _ _ (by simp [h1]) fun j u e => ?_
  have e' : got[j]? = some u := by simpa using e
  obtain ⟨c, t, e1, rfl⟩ := h2 j u e'
  refine ⟨.str ⟨#[c]⟩, ?_, t, rfl⟩
  rw [List.getElem?_map]
  have e2 : x.cps.toList[j]? = some c := by simpa using e1
  rw [e2]
  rfl
theorem rp_keyD {K : PySem.W.Frag} {H : Hp} {ρ : Nat → Addr} {n : Nat} (k : Key) : Rp K L H ρ n (keyD k) (L2.kV k) := by
  cases k <;> rfl
theorem rpk_keys {K : PySem.W.Frag} {H : Hp} {ρ : Nat → Addr} {n : Nat} : ∀ {l : List (Key × D)} {vs : List (Key × V)}, RpK K L H ρ n l vs → ∀ {H' : Hp} {ρ' : Nat → Addr} {n' : Nat}, RpL K L H' ρ' n' (l.map fun q => keyD q.1) (vs.map fun q => L2.kV q.1)
  | [], _, h, _, _, _ => by cases h; exact RpL.nil
  | p :: l, vs, h, _, _, _ => by
    obtain ⟨v, r, rfl, h1, h2⟩ := h
    exact RpL.cons (rp_keyD p.1) (rpk_keys h2)
theorem rpl_keys {K : PySem.W.Frag} {H : Hp} {ρ : Nat → Addr} {n : Nat} : ∀ (t : List (Str × D)), RpL K L H ρ n (t.map fun q => .str q.1) (t.map fun q => V.str q.1)
  | [] => RpL.nil
  | _ :: t => RpL.cons rfl (rpl_keys t)
/-- list(x) where x tells its keys one by one -/
theorem call_keys (hc : X.calm = true) {pins : List (Addr × Obj)} {σ : L2.St} {H : Hp} {s : Shared} {Q : VK} {d : Addr} {n : Nat} {Pk : Nat → Value → Prop} {Sd : Heap → Prop} (I : Inv X pins σ H s) (src : PySem.W.KdlSrc X.prog X.w "dict" d d n Pk Sd) (hs : Sd s.heap) (hn : n ≤ sizeLine)
    {xs : List V} (hl : xs.length = n) (hx : ∀ (j : Nat) (x : V) (u : Value), xs[j]? = some x → Pk j u → RelV x u) (q : ∀ p, H p = none → Q (.ref p) (upd H p (.lst xs))) : wpAny (model X.prog X.w) X.A (call (.type "list") [.ref d]) (EP X pins σ Q) X.xe s := by
  refine PySem.W.kdl_call src (I.ok.hd hc) hs hn fun h2 t2 out cap keep at_ told => ?_
  obtain ⟨hsz, hval⟩ := told
  have hv : Vals xs out.toList := vals_of_at (by rw [hl, Array.length_toList, hsz]) fun j x u e1 e2 => hx j x u e1 (hval j u (by rw [← Array.getElem?_toList]; exact e2))
  have ok : ObjOk X.prog X.w (upd H s.heap.objs.size (.lst xs)) h2 s.heap.objs.size (.lst xs) := ⟨by rw [hl]; exact hn, out.toList, cap, hv, by rw [Array.toArray_toList]; exact at_⟩
  exact ⟨.ref s.heap.objs.size, upd H s.heap.objs.size (.lst xs), I.laid keep (Nat.le_refl _) ok, rfl, q _ (I.hok.fresh (Nat.le_refl _))⟩
/-- list(a dict), one that stands too -/
theorem call_list_dKr (hc : X.calm = true) : CallR X (.type "list") (fun xs H Q => ∃ p kvs, xs = [.ref p] ∧ Rd H p (.dK kvs) ∧ ∀ q, H q = none → Q (.ref q) (upd H q (.lst (kvs.map fun kv => L2.kV kv.1)))) := by
  rintro pins s σ H xs us Q I r ⟨p, kvs, rfl, hk, q⟩
  obtain ⟨u, rfl, ru⟩ := vals1 r
  cases (show u = Value.ref p from ru)
  obtain ⟨z, lo, vs, rk, hd⟩ := dk_rd I.hok hk
  obtain ⟨ep, hat⟩ := hd.dictAt
  have hl : kvs.length = vs.length := Paired.length rk
  refine call_keys hc I (PySem.W.kdl_dict (knd := mixKind X.prog X.w) (kvs := vs) (ep := ep) lo) hat (by rw [← hl]; exact z) (by rw [List.length_map, hl]) (fun j x u e1 e2 => ?_) q
  obtain ⟨k, y, hky, hi⟩ := e2
  obtain ⟨kv, e3, rfl⟩ := Option.map_eq_some_iff.mp (by rw [List.getElem?_map] at e1; exact e1)
  have e4 := congrArg (fun l : List Key => l[j]?) (KV.keys rk)
  simp only [List.getElem?_map, e3, hky, Option.map_some] at e4
  show RelV (L2.kV kv.1) u
  rw [Option.some.inj e4]
  exact keyIs_rel hi
/-- list(a dict of the top) -/
theorem call_list_kd (hc : X.calm = true) {d : Addr} {es : Array DictEntry} {n : Nat} {t : List (Str × D)} (D0 : KDict X.K X.w d es n) (hk : KeysAt t es.toList) : CallR X (.type "list") (fun xs H Q => xs = [.ref d] ∧ t.length ≤ sizeLine ∧ ∀ q, H q = none → Q (.ref q) (upd H q (.lst (t.map fun q => V.str q.1)))) := by
  rintro pins s σ H xs us Q I r ⟨rfl, hz, q⟩
  obtain ⟨u, rfl, ru⟩ := vals1 r
  cases (show u = Value.ref d from ru)
  have hl : t.length = es.size := by rw [hk.1, Array.length_toList]
  refine call_keys hc I (kdl_raw (o := ⟨.type "dict", none, .dict es n, #[]⟩) D0.low ⟨rfl, rfl, rfl⟩ rfl) (I.kIn _ _ D0.at_) (by rw [← hl]; exact hz) (by rw [List.length_map, hl]) (fun j x u e1 e2 => ?_) q
  obtain ⟨en, g1, rfl⟩ := e2
  obtain ⟨q0, h3, rfl⟩ := Option.map_eq_some_iff.mp (by rw [List.getElem?_map] at e1; exact e1)
  obtain ⟨tk, h5⟩ := hk.2 j q0 en h3 (by rw [Array.getElem?_toList]; exact g1)
  rw [h5]
  exact ⟨tk, rfl⟩
theorem bl_listS (E : EnvOk X L G cf) (hc : X.calm = true) : BlOk X L G cf (.type "list") .list1 := by
  intro ρ S H ds vs d S' Q r0 p h k pins s σ us I rv
  rcases blo_cases h with ⟨x, c, rfl, e⟩ | h1
  · exact (no_own e h rfl).elim
  · by_cases hz : ∃ z, ds = [.str z]
    · obtain ⟨z, rfl⟩ := hz
      obtain ⟨v, rfl, px⟩ := rp1 p
      cases (show v = .str z from px)
      obtain ⟨u, rfl, ru⟩ := rv.one
      obtain ⟨t, rfl⟩ := (show ∃ t, u = Value.str z t from ru)
      have h2 : (if z.cps.size ≤ 1048576 then Res.ok (.ref S.n) (S.push (.lst true (z.cps.toList.map fun c => .str ⟨#[c]⟩))) else .stuck) = Res.ok d S' := h1
      split at h2
      · rename_i hs
        cases h2
        refine Ls.call_list (I.ok.hd hc) hs fun h' tk got c' kp e hi => ?_
        have hp := I.hok.fresh (Nat.le_refl _)
        have vv := items_str hi
        have n2 := r0.push (o := .lst (z.cps.toList.map fun c => V.str ⟨#[c]⟩)) (c := .lst true (z.cps.toList.map fun c => .str ⟨#[c]⟩)) hp ⟨_, upd_same, RpL.of_forall (f := fun c => D.str ⟨#[c]⟩) (g := fun c => V.str ⟨#[c]⟩) fun c _ => rfl⟩
        refine ⟨.ref s.heap.objs.size, _, I.laid (t' := tk) kp (Nat.le_refl _) (show ObjOk X.prog X.w _ h' _ (.lst _) from ⟨by rw [List.length_map, Array.length_toList, sizeLine_eq]; omega, got.toList, c', vv, by simpa using e⟩), rfl, k _ _ _ n2 ⟨Nat.lt_succ_self _, by rw [more_new]⟩⟩
      · cases h2
    · by_cases hkd : ∃ z, ds = [.kd z]
      · obtain ⟨z, rfl⟩ := hkd
        obtain ⟨v, rfl, px⟩ := rp1 p
        cases (show v = .ref (L.kda z) from px)
        have h2 : (match G.kdt z with | some t => if t.length ≤ 1000 then Res.ok (.ref S.n) (S.push (.lst true (t.map fun q => .str q.1))) else .stuck | none => .stuck) = Res.ok d S' := h1
        split at h2
        · rename_i t et
          split at h2
          case isFalse => cases h2
          rename_i hlen
          cases h2
          obtain ⟨es, n, D0, hk⟩ := (E.kd z t et).d
          have hz2 : t.length ≤ sizeLine := by
            have : (1000 : Nat) ≤ sizeLine := by decide
            omega
          refine call_list_kd hc D0 hk pins s σ H _ us Q I rv ⟨rfl, hz2, fun a ha => ?_⟩
          have n2 := r0.push (o := .lst (t.map fun q => V.str q.1)) (c := .lst true (t.map fun q => .str q.1)) ha ⟨_, upd_same, rpl_keys t⟩
          exact k _ _ _ n2 ⟨Nat.lt_succ_self _, by rw [more_new]⟩
        · cases h2
      · by_cases hd : ∃ i l, ds = [.ref i] ∧ S.get i = some (.dct l)
        · obtain ⟨i, l, rfl, e⟩ := hd
          obtain ⟨v, rfl, px⟩ := rp1 p
          obtain ⟨_, rfl⟩ := (show i < S.n ∧ v = .ref (ρ i) from px)
          have h2 : (match S.get i with | some (.lst _ l) => Res.ok (.ref S.n) (S.push (.lst true l)) | some (.dct l) => .ok (.ref S.n) (S.push (.lst true (l.map fun q => keyD q.1))) | _ => .stuck) = Res.ok d S' := h1
          rw [e] at h2
          cases h2
          obtain ⟨o, vs2, g1, g2⟩ := r0.cell i _ e
          refine call_list_dKr hc pins s σ H _ us Q I rv ⟨_, vs2, rfl, .inr ⟨o, g1⟩, fun a ha => ?_⟩
          have n2 := r0.push (o := .lst (vs2.map fun q => L2.kV q.1)) (c := .lst true (l.map fun q => keyD q.1)) ha ⟨_, upd_same, rpk_keys g2⟩
          exact k _ _ _ n2 ⟨Nat.lt_succ_self _, by rw [more_new]⟩
        · exact call_list_of pins s σ H vs us Q I rv (bl_list ρ S H ds vs d S' Q r0 p h1 (fun z e => hz ⟨z, e⟩) (fun z e => hkd ⟨z, e⟩) (fun i l e g => hd ⟨i, l, e, g⟩) k)
theorem si_list1 {e : Expr} {p pos : Pos} {cs : Cs} (E : EnvOk X L G cf) (hc : X.calm = true) (hg : Gl X "list") (hm : X.mg "list" = none) (ha : SimA X L G cf [e] cs) (he : starEach [e] X.env = (false, eval e X.env) :: starEach [] X.env := by rfl) (hpl : (backTo pos (starEach [] X.env)).any (·.1) = false := by rfl) : Sim X L G cf (.Call (.Name "list" p) [e] [] pos) (.blt .list1 cs) :=
  si_blt (.inr ⟨_, rfl, by rfl⟩) (bl_listS E hc) hg hm ha (by decide) (by decide) he hpl

end
end QD

/-! QDE: an own error, raised. -/
namespace PySem
namespace ExcX
open PySem.W PySem.Calls PyProof.Rows PySem.HandSPX
open Builtin Builtin.ObjectAttr
/-! ### own classes of errors under ValueError, under KeyError -/
def keT : List Value := ["KeyError", "LookupError", "Exception", "BaseException", "object"].map Value.type
def oeT : List Value := ["OverflowError", "ArithmeticError", "Exception", "BaseException", "object"].map Value.type
def veT : List Value := ["ValueError", "Exception", "BaseException", "object"].map Value.type
/-- own classes, then this line -/
def owns (t : List Value) : List Value → Bool
  | .ref _ :: r => owns t r
  | l => l == t
theorem owns_ex {t : List Value} : ∀ {l : List Value}, owns t l = true → ∃ as : List Addr, l = as.map Value.ref ++ t := by
  intro l
  induction l with
  | nil => exact fun h => ⟨[], eq_of_beq (show ([] == t) = true from h)⟩
  | cons a r ih =>
    intro h
    cases a with
    | ref c =>
      obtain ⟨as, e⟩ := ih h
      exact ⟨c :: as, by rw [e]; rfl⟩
    | _ => exact ⟨[], eq_of_beq h⟩
/-- what is asked of a class's line -/
structure LineOk (B : String) (bm : List Value) : Prop where
  b : bm.contains (.type B) = true
  o : bm.contains (.type "object") = true
  a : bm.contains (.type "AttributeError") = false
  n : bm.contains (.type "NameError") = false
  e : bm.isEmpty = false
  p : ∀ self : Value, refuseLoop self "__setattr__" bm = pure ()
theorem line_cons {B : String} {bm : List Value} (c : Addr) (H : LineOk B bm) : LineOk B (.ref c :: bm) := by
  have k : ∀ x : String, (Value.ref c :: bm).contains (.type x) = bm.contains (.type x) := fun x => by
    rw [List.contains_cons]
    rfl
  exact ⟨(k _).trans H.b, (k _).trans H.o, (k _).trans H.a, (k _).trans H.n, rfl, fun self => (refuseLoop_ref self "__setattr__" c bm).trans (H.p self)⟩
theorem line_owns {B : String} {t : List Value} (H : LineOk B t) {l : List Value} (h : owns t l = true) : LineOk B l := by
  obtain ⟨as, rfl⟩ := owns_ex h
  induction as with
  | nil => exact H
  | cons c as ih =>
    refine line_cons c (ih ?_)
    exact h
theorem line_ve : LineOk "ValueError" veT := ⟨by decide +kernel, by decide +kernel, by decide +kernel, by decide +kernel, rfl, fun self => F.store_ValueError.passes self⟩
theorem line_oe : LineOk "OverflowError" oeT := ⟨by decide +kernel, by decide +kernel, by decide +kernel, by decide +kernel, rfl, fun self => by kernel_rfl⟩
theorem line_ke : LineOk "LookupError" keT := ⟨by decide +kernel, by decide +kernel, by decide +kernel, by decide +kernel, rfl, fun self => by kernel_rfl⟩
section
variable {M : Model} {A : Around} {E : Value → Shared → Prop} {hp : Heap} {gs : Array GenState} {dr : Drawn} {tk : Nat} {os : OsState}
variable {nm qn : Str} {C N : Addr} {bs bm bmB : List Value} {sn : List Str} {sub : List Value} {ab : Bool} {col : Option Bool} {dd : Option Addr} {k0 k1 k2 k3 k5 : Option Value} {B nw ini : String}
theorem line_new (F : ExcBaseFacts B nw ini bmB) (H : LineOk B (.ref C :: bm)) {args : List Value} {Q : Unit → Shared → Prop}
    (c : hp.get? C = some (excClassObj nm qn C N bs bm true sn sub ab col dd k0 k1 k2 k3 k5 nw)) (q : Q () ⟨hp, gs, dr, tk, os⟩) :
    wpAny M A (checkBuiltinCall nw ⟨.ref C :: args, []⟩) Q E ⟨hp, gs, dr, tk, os⟩ := by
  have b := H.b
  have star := F.noStar
  simp only [checkBuiltinCall, F.newKind, F.newSplit, F.newRow]
  repeat (first
    | refine wpAny_loadPart_at c ?_
    | (refine wpAny_isSubtype_exc c ?_; rw [b])
    | refine wpAny_staticBase_exc c ?_
    | refine wpAny_madeBy_exc c ?_
    | simp only [bne_self_eq_false, Bool.false_eq_true, if_false]
    | wp_step)
  exact q
end
section
variable {P : Program} {wd : World} {A : Around} {E : Value → Shared → Prop} {R : Result → Shared → Prop} {hp : Heap} {gs : Array GenState} {dr : Drawn} {tk : Nat} {os : OsState}
variable {nm qn : Str} {C N : Addr} {bs bm bmB : List Value} {sn : List Str} {sub : List Value} {ab : Bool} {col : Option Bool} {dd : Option Addr} {k0 k1 k2 k3 k5 : Option Value} {B nw ini : String}
theorem line_make (F : ExcBaseFacts B nw ini bmB) (H : LineOk B (.ref C :: bm)) {args : List Value}
    (c : hp.get? C = some (excClassObj nm qn C N bs bm true sn sub ab col dd k0 k1 k2 k3 k5 nw)) (l : args.length ≤ sizeLine)
    (q : R (.ok (.ret (.ref (hp.objs.size + 1)))) ⟨(hp.push (kdv_tup args)).push (excO C hp.objs.size), gs, dr, tk, os⟩) :
    codeAny (model P wd) A (.builtin nw ⟨.ref C :: args, []⟩) R ⟨hp, gs, dr, tk, os⟩ := by
  have tail := F.ends
  have b := H.b
  have a := H.a
  have n := H.n
  refine codeAny_builtinAt F.entry ?_
  unfold Builtin.«BaseException.__new__»
  refine wpAt_bind ?_
  show wpAt _ _ _ (stack >>= _) _ _ _
  refine wpAt_bind (wpAt_stack fun x below => wpAt_of_wpAny ?_)
  wp_walk
  refine wpAt_of_wpAny ?_
  rw [F.owner]
  repeat (first
    | with_reducible refine wpAny_madeHere_exc F.canon c ?_
    | with_reducible refine wpAny_loadPart_at c ?_
    | (with_reducible refine wpAny_isSubtype_exc c ?_; first | rw [b] | rw [a] | rw [n])
    | wp_step)
  show R _ _
  rw [Heap.size_push]
  exact q
theorem line_typecall (F : ExcBaseFacts B nw ini bmB) (H : LineOk B (.ref C :: bm)) {args : List Value} {fi : Addr} {Q : Fin → Shared → Prop}
    (c : hp.get? C = some (excClassObj nm qn C N bs bm true sn sub ab col dd k0 k1 k2 k3 k5 nw))
    (i : W.Looks (model P wd) hp (typeLookup (.ref C) "__init__") (some (.ref fi))) (bnd : ∀ self, W.Looks (model P wd) hp (bindSpecial (.ref fi) self) (.ref fi, [self])) (l : args.length ≤ sizeLine)
    (q : codeAny (model P wd) A (.call (.ref fi) ⟨.ref (hp.objs.size + 1) :: args, []⟩)
      (fun r s' => match r with
        | .ok (.ret v) => v = .none ∧ Q (.done (.ret (.ref (hp.objs.size + 1)))) s'
        | .ok _ => False
        | .error e => E e s') ⟨(hp.push (kdv_tup args)).push (excO C hp.objs.size), gs, dr, tk, os⟩) :
    wpAny (model P wd) A (Builtin.«type.__call__» ⟨.ref C :: args, []⟩) Q E ⟨hp, gs, dr, tk, os⟩ := by
  repeat (first
    | with_reducible refine wpAny_loadPart_at c ?_
    | with_reducible refine wpAny_madeBy_exc c ?_
    | wp_step)
  refine codeAny_call_builtin_code (Code.quiet_builtin _ F.quiet) (line_new F H c ?_)
  refine line_make F H c l ?_
  show wpAny _ _ _ _ _ _
  have up : ∀ b o, hp.get? b = some o → ((hp.push (kdv_tup args)).push (excO C hp.objs.size)).get? b = some o := fun b o e => Heap.get?_push_of_some _ (Heap.get?_push_of_some _ e)
  have c2 := up _ _ c
  have here : ((hp.push (kdv_tup args)).push (excO C hp.objs.size)).get? (hp.objs.size + 1) = some (excO C hp.objs.size) := by heap_get
  have self_ : (Value.ref C :: bm).contains (.ref C) = true := by simp
  have i2 := i.keeps up
  have b2 := (bnd (.ref (hp.objs.size + 1))).keeps up
  unfold isInstance
  repeat (first
    | with_reducible refine wpAny_loadPart_at here ?_
    | (with_reducible refine wpAny_isSubtype_exc c2 ?_; rw [self_])
    | wp_step)
  show wpAny _ _ (typeLookup (.ref C) _) _ _ _
  refine i2.at ?_
  refine wpAny_holding (wpAny_bind (b2.at ?_))
  refine wpAny_bind (wpAny_call (codeAny_mono q fun r s' z => ?_))
  rcases r with e | (v | _ | _ | _) <;> first | exact z | exact z.elim | skip
  obtain ⟨rfl, z⟩ := z
  first
    | exact wpAny_pure (wpAny_pure z)
    | (wp_walk; exact z)
theorem line_call (F : ExcBaseFacts B nw ini bmB) (H : LineOk B (.ref C :: bm)) {args : List Value} {fi : Addr}
    (c : hp.get? C = some (excClassObj nm qn C N bs bm true sn sub ab col dd k0 k1 k2 k3 k5 nw))
    (i : W.Looks (model P wd) hp (typeLookup (.ref C) "__init__") (some (.ref fi))) (bnd : ∀ self, W.Looks (model P wd) hp (bindSpecial (.ref fi) self) (.ref fi, [self])) (l : args.length ≤ sizeLine)
    (q : codeAny (model P wd) (A.under (.builtin "type.__call__" ⟨.ref C :: args, []⟩)) (.call (.ref fi) ⟨.ref (hp.objs.size + 1) :: args, []⟩) (W.InitBack (hp.objs.size + 1) R)
      ⟨(hp.push (kdv_tup args)).push (excO C hp.objs.size), gs, dr, tk, os⟩) :
    codeAny (model P wd) A (.call (.ref C) ⟨args, []⟩) R ⟨hp, gs, dr, tk, os⟩ := by
  have t1 := tc_lookup
  have t2 := tc_bind (.ref C)
  have ty : (⟨hp, gs, dr, tk, os⟩ : Shared).TypeIs (.ref C) "type" := ⟨_, c, rfl⟩
  refine codeAny_of_tree ?_
  show wpAny _ _ (callAny (.ref C) _) _ _ _
  repeat (any_goals (first
    | assumption
    | with_reducible refine wpAny_loadPart_at c ?_
    | wp_step))
  refine ⟨rfl, ?_⟩
  refine codeAny_call_builtin_at (Code.quiet_builtin _ (by decide +kernel)) entry_typeCall (wpAny_check_type_call_sub c (line_typecall F H c i bnd l ?_))
  refine codeAny_mono q fun r s' z => ?_
  rcases r with e | (v | _ | _ | _) <;> exact z
/-- self.name = v on a fresh one -/
theorem line_osa {K : Frag} {name : Str} {tn : Tok} {v : Value} {x : Addr} {fv : Array Value} {cd : ClassData} (X : K.In hp) (at_ : hp.get? x = some { cls := .ref C, data := .fields fv }) (cl : clsIn K C = some cd) (H : LineOk B cd.mro) (dct : cd.hasDict = true) (no : findIn K (.ref C) name = some none)
    (q : ∀ h' tk' dx, (∀ b o, b ≠ x → hp.get? b = some o → h'.get? b = some o) → hp.objs.size ≤ dx → dx ≠ x → h'.get? x = some { cls := .ref C, dict := some dx, data := .fields fv } →
      h'.Ns1 dx (fun y => if y = name then some v else none) → R (.ok (.ret .none)) ⟨h', gs, dr, tk', os⟩) :
    codeAny (model P wd) A (.call (.builtin "object.__setattr__") ⟨[.ref x, .str name tn, v], []⟩) R ⟨hp, gs, dr, tk, os⟩ := by
  have inst : W.InstAt hp x { cls := .ref C, data := .fields fv } C none := ⟨at_, rfl, rfl, trivial⟩
  have st := F.store_object
  have ne := H.e
  have apart : x ≠ hp.objs.size := Nat.ne_of_lt (Heap.lt_size at_)
  have sb : W.Looks (model P wd) hp (isInstance (.ref x) (.type "object")) true := inst.type.andThen (W.looks_mroIn X (by unfold W.mroIn; rw [cl, Option.bind_some, if_neg (by rw [ne]; decide), H.o]))
  refine codeAny_call_builtin st.slot.plain st.entry (@W.check_slot (model P wd) _ _ ⟨hp, gs, dr, tk, os⟩ "object.__setattr__" "object" "__setattr__" (.ref x) [.str name tn, v] [] _ st.kind st.split sb (st.args (.ref x) (.str name tn) v) ?_)
  have line : W.Looks (model P wd) hp (mroOf (.ref C)) cd.mro := (W.looks_clsIn X cl).andThen .now
  have taker : W.Looks (model P wd) hp (storeTaker? none) none := .now
  have data_ : W.Looks (model P wd) hp (classData C) cd := W.looks_clsIn X cl
  rw [W.osa_eq, refuse_eq]
  refine wpAny_bind (wpAny_bind (inst.type.at (wpAny_bind (line.at ?_))))
  rw [H.p]
  refine wpAny_pure (wpAny_bind (inst.type.at (wpAny_bind ((W.looks_findIn X no).at (wpAny_bind (taker.at ?_))))))
  show wpAny _ _ (storeInOwnDict (.ref x) (.ref C) (.str name tn) name v false) _ _ _
  obtain ⟨nm', bs', mro', ns', qn', hd', sn', sb', ab', col', del'⟩ := cd
  dsimp only at dct
  subst dct
  unfold storeInOwnDict ownDictForStores
  repeat (first
    | with_reducible refine store_in_new ?_ ?_
    | with_reducible refine wpAny_loadPart_at at_ ?_
    | with_reducible refine data_.at ?_
    | wp_step)
  · exact ⟨_, #[], _, (Heap.get?_update_ne _ _ _ _ apart.symm).trans (Heap.get?_push_at rfl rfl), rfl, fun e he => absurd he (by simp), fun _ => rfl⟩
  · intro h' tk' n2 same
    have at2 : (hp.push { cls := .type "dict", data := .dict #[] }).get? x = some { cls := .ref C, data := .fields fv } := Heap.get?_push_of_some _ at_
    refine q h' tk' hp.objs.size (fun b o hb ho => ?_) (Nat.le_refl _) apart.symm ?_ n2
    · exact (same.2 b (Nat.ne_of_lt (Heap.lt_size ho))).trans ((Heap.get?_update_ne _ _ _ _ hb).trans (Heap.get?_push_of_some _ ho))
    · exact (same.2 x apart).trans (Heap.get?_update_self _ at2 rfl)
end
def famB (nw : String) (bm : List Value) : Bool := (decide (nw = "ValueError.__new__") && owns veT bm) || ((decide (nw = "LookupError.__new__") && owns keT bm) || (decide (nw = "OverflowError.__new__") && owns oeT bm))
theorem fam_ok {nw : String} {bm : List Value} (h : famB nw bm = true) : ∃ B ini bmB, ExcBaseFacts B nw ini bmB ∧ LineOk B bm := by
  rcases Bool.or_eq_true_iff.mp h with h | h
  · obtain ⟨h1, h2⟩ := Bool.and_eq_true_iff.mp h
    cases of_decide_eq_true h1
    exact ⟨_, _, _, F.excBase_ValueError, line_owns line_ve h2⟩
  · rcases Bool.or_eq_true_iff.mp h with h | h
    · obtain ⟨h1, h2⟩ := Bool.and_eq_true_iff.mp h
      cases of_decide_eq_true h1
      exact ⟨_, _, _, F.excBase_LookupError, line_owns line_ke h2⟩
    · obtain ⟨h1, h2⟩ := Bool.and_eq_true_iff.mp h
      cases of_decide_eq_true h1
      exact ⟨_, _, _, F.excBase_OverflowError, line_owns line_oe h2⟩
/-! ### the text of __init__ -/
def iA (p1 p2 : Pos) : Arguments := { posonlyargs := [], args := [{ arg := "self", annotation := none, pos := p1 }, { arg := "value", annotation := none, pos := p2 }], vararg := none, kwonlyargs := [], kw_defaults := [], kwarg := none, defaults := [] }
def iB (q1 q2 q3 q4 : Pos) : List Stmt := [.Assign [.Attribute (.Name "self" q1) "value" q2] (.Name "value" q3) q4]
def iS : Scope := { kind := .function, names := [(PySem.Str.ofString "self", .local), (PySem.Str.ofString "value", .local)], isGenerator := false, isCoroutine := false, more := [] }
/-- what the written part says of Low, at C, and of its __init__, at fI -/
structure ETxt (cn : Str) (qu : String) (K : Frag) (mg : Str → Option Value) (C fI : Addr) : Prop where
  gC : mg cn = some (.ref C)
  cls : ∃ nm q N bs bm sn sub ab col dd k0 k1 k2 k3 k5 nw, K.lookup C = some (excClassObj nm q C N bs bm true sn sub ab col dd k0 k1 k2 k3 k5 nw) ∧ famB nw bm = true
  sa : findIn K (.ref C) "__setattr__" = some (some (.builtin "object.__setattr__"))
  ga : findIn K (.ref C) "__getattribute__" = some (some (.builtin "BaseException.__getattribute__"))
  gg : findIn K (.ref C) "__getattr__" = some none
  noN : findIn K (.ref C) "value" = some none
  iC : findIn K (.ref C) "__init__" = some (some (.ref fI))
  tC : typeIn K (.ref fI) = some (.type "function")
  kC : keepIn K (.ref C) = true
  exC : subIn K (.ref C) (.type "BaseException") = some true
  tyC : typeIn K (.ref C) = some (.type "type")
  hdC : hasDictIn K C = true
  fn : ∃ (oc : Value) (od : Option Addr) (kV doc pm : Value) (an : Option Addr) (cdv ct : Value) (osl : Array (Option Value)) (p1 p2 q1 q2 q3 q4 : Pos),
    K.lookup fI = some ⟨oc, od, .func (fnOf "__init__" qu (iA p1 p2) (iB q1 q2 q3 q4) iS .none kV doc pm an cdv ct), osl⟩ ∧ codeIn K cdv qu = true
theorem one_size (v : Value) : [v].length ≤ sizeLine := by
  rw [sizeLine_eq]
  exact (by decide : 1 ≤ 16777216)
theorem kept_but {K : Frag} {h h' : Heap} {x : Addr} (X : K.In h) (hx : K.lookup x = none) (k : ∀ b o, b ≠ x → h.get? b = some o → h'.get? b = some o) : K.In h' := fun a o e =>
  k a o (fun z => by rw [z, hx] at e; cases e) (X a o e)
theorem ldC {M : Model} {s : Shared} {name : Str} {scope : Scope} {L a : Addr} {cd : Value} {m : Str → Option Value} {x : Str} {pos : Pos} {v : Value} {Q : Value → Shared → Prop} {A : Around} {E : Value → Shared → Prop} (hn : s.heap.Ns L m) (hv : m x = some v) (h : Q v s)
    (hk : scope.kind = .function := by rfl) (hl : (envOfC name scope L a cd).kindOf x = some .local := by rfl) (hd : (x == ("__debug__" : Str)) = false := by decide) :
    wpAny M A (eval (.Name x pos) (envOfC name scope L a cd)) Q E s := wpAny_Name (wpAny_loadName_local hk hl hn hv h) hd
/-- what __init__ leaves of a fresh exception at x -/
structure InitEnd (h h' : Heap) (x C dx t1 : Addr) (v : Value) : Prop where
  keep : ∀ b o, b ≠ x → h.get? b = some o → h'.get? b = some o
  obj : h'.get? x = some { cls := .ref C, dict := some dx, data := .fields #[.ref t1, .none, .none, .none, .bool false, .none] }
  dbig : h.objs.size ≤ dx
  dne : dx ≠ x
  ns : h'.Ns1 dx (fun y => if y = "value" then some v else none)
/-- a made Low -/
structure OwnMade (h h' : Heap) (e C d : Addr) (v : Value) : Prop where
  keep : ∀ b o, h.get? b = some o → h'.get? b = some o
  new : h.objs.size ≤ e
  obj : ∃ oe vs, h'.get? e = some oe ∧ oe.cls = .ref C ∧ oe.dict = some d ∧ oe.data = .fields vs ∧ vs[1]? = some .none
  dbig : h.objs.size ≤ d
  dne : d ≠ e
  ns : h'.Ns1 d (fun y => if y = "value" then some v else none)
section
variable {prog : Program} {w : World} {A : Around} {E : Value → Shared → Prop} {R : Result → Shared → Prop} {s : Shared} {K : Frag} {mg : Str → Option Value} {C fI : Addr} {cn : Str} {qu : String}
theorem ex_init (T : ETxt cn qu K mg C fI) {x t0 : Addr} {v : Value} (X : K.In s.heap) (hlim : s.heap.NoLimit) (hx : s.heap.get? x = some (excO C t0)) (hnx : K.lookup x = none) (hroom : A.depth < recursionLimit)
    (hq : ∀ h' tk dx, InitEnd s.heap h' x C dx t0 v → R (.ok (.ret .none)) { s with heap := h', toks := tk }) :
    codeAny (model prog w) A (.call (.ref fI) ⟨[.ref x, v], []⟩) R s := by
  obtain ⟨oc, od, kV, doc, pm, an, cdv, ct, osl, p1, p2, q1, q2, q3, q4, ho, hcd⟩ := T.fn
  obtain ⟨nm, q, N, bs, bm, sn, sub, ab, col, dd, k0, k1, k2, k3, k5, nw, hC, hbm⟩ := T.cls
  obtain ⟨B, ini, bmB, FB, HL⟩ := fam_ok hbm
  have hcl : clsIn K C = some { name := nm, bases := bs, mro := .ref C :: bm, ns := N, qualname := q, hasDict := true, slotNames := sn, subclasses := sub, abstract := ab, collection := col, hasDel := false } := by unfold clsIn; rw [hC] <;> rfl
  refine Att.call_fn (binds := [("self", .ref x), ("value", v)]) X hlim ho hcd hroom (BindsTo.of_eq (by first | rfl | with_unfolding_all rfl)) (by first | rfl | decide | with_unfolding_all rfl) (fun s₁ IC => ?_) rfl rfl rfl
  obtain ⟨h₁, tk₁, rfl⟩ := IC.toInCall.same
  have k : ∀ b o, s.heap.get? b = some o → h₁.get? b = some o := IC.toInCall.keep
  have hn := IC.toInCall.ns
  have hxL : s.heap.objs.size ≠ x := Nat.ne_of_gt (Heap.lt_size hx)
  have X₁ : K.In h₁ := X.keeps k
  have hx₁ := k _ _ hx
  -- self.by = by
  show wpAny _ _ (execs _ _) _ _ _
  refine wpAny_execs_cons (plainObj_wpAny_Assign_Attribute ?_)
  refine ldC (v := v) hn (by first | rfl | with_unfolding_all rfl | kernel_rfl) (ldC (v := .ref x) hn (by first | rfl | with_unfolding_all rfl | kernel_rfl) ?_)
  refine set_plain X₁ (ox := excO C t0) (od := none) ⟨hx₁, rfl, rfl, trivial⟩ T.sa ?_
  refine line_osa X₁ hx₁ hcl (show LineOk B (.ref C :: bm) from line_cons C HL) rfl T.noN (fun h₃ tk₃ dx k₃ dn dne hx₃ hn₃ => ?_)
  show wpAny _ _ (execs _ _) _ _ _
  have z : s.heap.objs.size < h₁.objs.size := hn.lt
  exact wpAny_execs_nil (hq h₃ tk₃ dx ⟨fun b o hb e => k₃ b o hb (k b o e), hx₃, Nat.le_of_lt (Nat.lt_of_lt_of_le z dn), dne, hn₃⟩)
theorem ex_made (T : ETxt cn qu K mg C fI) {v : Value} (X : K.In s.heap) (hlim : s.heap.NoLimit) (hroom : A.depth + 1 < recursionLimit)
    (hq : ∀ h' tk e d, OwnMade s.heap h' e C d v → R (.ok (.ret (.ref e))) { s with heap := h', toks := tk }) :
    codeAny (model prog w) A (.call (.ref C) ⟨[v], []⟩) R s := by
  obtain ⟨nm, q, N, bs, bm, sn, sub, ab, col, dd, k0, k1, k2, k3, k5, nw, hC, hbm⟩ := T.cls
  obtain ⟨B, ini, bmB, FB, HL⟩ := fam_ok hbm
  obtain ⟨hp, g, dr, tk, os⟩ := s
  have k : ∀ b o, hp.get? b = some o → ((hp.push (kdv_tup [v])).push (excO C hp.objs.size)).get? b = some o := fun b o e => Heap.get?_push_of_some _ (Heap.get?_push_of_some _ e)
  have hget : ((hp.push (kdv_tup [v])).push (excO C hp.objs.size)).get? (hp.objs.size + 1) = some (excO C hp.objs.size) := by heap_get
  have hnx : K.lookup (hp.objs.size + 1) = none := by
    cases e : K.lookup (hp.objs.size + 1) with
    | none => rfl
    | some o =>
      have z : hp.get? (hp.objs.size + 1) = some o := X _ _ e
      exact absurd (Nat.lt_of_succ_lt (Heap.lt_size z)) (Nat.lt_irrefl _)
  refine line_call FB (line_cons C HL) (X _ _ hC) (looks_findIn X T.iC) (fun self => bind_fn X self T.tC) (one_size v) ?_
  refine ex_init (s := ⟨(hp.push (kdv_tup [v])).push (excO C hp.objs.size), g, dr, tk, os⟩) T (X.keeps k) (hlim.keeps k) hget hnx ?_ fun h' tk' dx ⟨k', hx, dn, dne, hns⟩ => ?_
  · show A.depth + 1 < recursionLimit
    exact hroom
  · have old : ∀ b o, hp.get? b = some o → h'.get? b = some o := fun b o e => k' b o (Nat.ne_of_lt (Nat.lt_succ_of_lt (Heap.lt_size e))) (k b o e)
    have z : hp.objs.size + 1 + 1 ≤ dx := by
      first
        | (simpa only [Heap.size_push] using dn)
        | exact dn
        | (have q := dn; rw [Heap.size_push, Heap.size_push] at q; exact q)
    exact ⟨rfl, hq h' tk' (hp.objs.size + 1) dx ⟨old, Nat.le_succ _, ⟨_, _, hx, rfl, rfl, rfl, rfl⟩, Nat.le_trans (Nat.le_trans (Nat.le_succ _) (Nat.le_succ _)) z, dne, hns⟩⟩
end
end ExcX
end PySem
namespace L2
open PySem PySem.Spec PyProof.Rows
theorem relO_val {v : V} {v' : Value} (r : RelV v v') (f : Str) : RelO (List.lookup f [(("value" : Str), v)]) (if f = "value" then some v' else none) := by
  by_cases hw : f = "value"
  · subst hw
    rw [if_pos rfl]
    have q : List.lookup ("value" : Str) [(("value" : Str), v)] = some v := by simp [List.lookup]
    rw [q]
    exact r
  · rw [if_neg hw]
    have qw : (f == ("value" : Str)) = false := by simpa using hw
    have q2 : List.lookup f [(("value" : Str), v)] = none := by simp [List.lookup, qw]
    rw [q2]
    trivial
section
variable {X : Cx} {C fI : Addr} {cn : Str} {qu : String}
/-- Low(e) -/
def tMkE (C : Addr) (ta : TA) : St → Hp → XK → Prop := fun σ H Q => ta σ H fun vs H1 => ∃ v, vs = [v] ∧ ∀ d, H1 d = none → Q (.ref C) (some d) (upd H1 d (.xd [(("value" : Str), v)]))
theorem pmk_exc {a : Expr} {ta : TA} {p pos : Pos} {k : Nat} (T : PySem.ExcX.ETxt cn qu X.K X.mg C fI) (hr : Room k X.A) (ha : PA X [a] ta) (hg : Gl X cn) (hdb : (cn == ("__debug__" : Str)) = false)
    (he : starEach (a :: []) X.env = (false, eval a X.env) :: starEach [] X.env := by rfl) (hpl : (backTo pos (starEach [] X.env)).any (·.1) = false := by rfl) :
    PMk X (.Call (.Name cn p) [a] [] pos) (tMkE C ta) := by
  intro pins s σ H Q I h
  refine wpAny_Call_Name_kw (ld_glob I hg T.gC ?_ hdb)
  refine PySem.W.callWith_K (h₀ := X.base) I.ok.mod.kin T.kC (thn (ha.run pos pins s σ H _ I h) fun us s1 hh => ?_) he hpl
  obtain ⟨vs, H1, I1, r1, v, ev, q1⟩ := hh
  subst ev
  refine ⟨I1.kIn, ?_⟩
  cases r1 with
  | cons rv rn =>
    rename_i v' us'
    cases rn
    show wpAny _ _ (call (.ref C) [v']) _ _ _
    have hlim := I1.nolimit
    obtain ⟨hp, g, dr, tk, os⟩ := s1
    refine wpAny_call (PySem.ExcX.ex_made T I1.kIn hlim (by have := hr.dp; omega) fun h' tk' e d M => ?_)
    show MkP X pins σ Q (.ref e) ⟨h', g, dr, tk', os⟩
    obtain ⟨oe, fv, hoe, hc, hd, hdat, h1⟩ := M.obj
    have hns := M.ns
    obtain ⟨G', g1, g2⟩ := restrict h' fun b => decide (b ≠ e)
    have gk : ∀ b, b ≠ e → G'.get? b = h'.get? b := fun b hb => g1 b (decide_eq_true hb)
    have ge : G'.get? e = none := g2 e (by simp)
    have old : ∀ b o, hp.get? b = some o → G'.get? b = some o := fun b o q => (gk b (Nat.ne_of_lt (Nat.lt_of_lt_of_le (Heap.lt_size q) M.new))).trans (M.keep b o q)
    have ob : ObjOk X.prog X.w (upd H1 d (.xd [(("value" : Str), v)])) G' d (.xd [(("value" : Str), v)]) :=
      ⟨_, hns.at (fun o q => (gk d M.dne).trans q), fun f => relO_val rv f⟩
    have J : Inv X pins σ (upd H1 d (.xd [(("value" : Str), v)])) ⟨G', g, dr, tk', os⟩ := I1.laid (t' := tk') old M.dbig ob
    refine ⟨e, oe, fv, ⟨G', g, dr, tk', os⟩, _, .ref C, some d, rfl, J, fun b o q => ?_, ge, hoe, ⟨hc, hd⟩, hdat, h1, ?_, rfl, I1.bare, raises_own T.exC T.tyC, q1 d (I1.hok.fresh M.dbig)⟩
    · by_cases hb : b = e
      · have q' : G'.get? b = some o := q
        rw [hb, ge] at q'; cases q'
      · exact (gk b hb).symm.trans q
    · rw [upd_ne (Ne.symm M.dne)]
      exact I1.hok.fresh M.new
/-- raise Low(e) -/
def tRaiseE (C : Addr) (W : WX) (ta : TA) : TS := fun _ σ H => tMkE C ta σ H fun cls d H' => W cls d σ H'
theorem ps_raiseE {a : Expr} {ta : TA} {W : WX} {p pos pos2 : Pos} {k : Nat} (hc : X.calm = true) (T : PySem.ExcX.ETxt cn qu X.K X.mg C fI) (hr : Room k X.A) (tk : Takes X W) (ha : PA X [a] ta) (hg : Gl X cn) (hdb : (cn == ("__debug__" : Str)) = false)
    (he : starEach (a :: []) X.env = (false, eval a X.env) :: starEach [] X.env := by rfl) (hpl : (backTo pos (starEach [] X.env)).any (·.1) = false := by rfl) :
    PS X (.Raise (some (.Call (.Name cn p) [a] [] pos)) none pos2) (tRaiseE C W ta) := ps_raise hc tk (pmk_exc T hr ha hg hdb he hpl)
end
end L2
namespace QD
open PySem PySem.Spec PyProof.Rows L2
/-- an own error's class, as the code numbers it -/
structure RaisOk (X : Cx) (L : Pl) (x : Str) (c : Nat) : Prop where
  ex : ∃ (qu : String) (fI : Addr) (k : Nat), PySem.ExcX.ETxt x qu X.K X.mg (L.cla c) fI ∧ Room k X.A
theorem ss_rais {X : Cx} {L : Pl} {G : Gd} {cf : Nat → List D → Store → Res D} {x : Str} {c : Nat} {a : Expr} {ca : C} {p pos pos2 : Pos} (hc : X.calm = true) (T : RaisOk X L x c) (hg : Gl X x) (ha : Sim X L G cf a ca) (hdb : (x == ("__debug__" : Str)) = false := by decide)
    (he : starEach (a :: []) X.env = (false, eval a X.env) :: starEach [] X.env := by rfl) (hpl : (backTo pos (starEach [] X.env)).any (·.1) = false := by rfl) : SimS X L G cf (.Raise (some (.Call (.Name x p) [a] [] pos)) none pos2) (.rais c ca) := by
  obtain ⟨qu, fI, k, T, hr⟩ := T.ex
  refine ⟨fun W tk ρ σd σ S H f S' DD r rs h kk => ?_⟩
  have h := bx_good (r := evC cf G ca σd S) h
  refine ofS (ps_raiseE hc T hr tk (pa_cons (pE a) pa_nil he) hg hdb he hpl) (ha.run W tk ρ σd σ S H _ r rs (h.imp (fun d S1 g ρ' H' v n q => ?_) (xc_k kk rs)))
  refine ⟨v, rfl, fun dd hdd => ?_⟩
  cases g
  have n2 := n.r.push (o := .xd [(("value" : Str), v)]) (c := .xd c [(("value" : Str), d)]) hdd ⟨_, upd_same, v, [], rfl, q.mono (TM.new hdd) more_agree (Nat.le_succ _), rfl⟩
  have z := kk _ _ σ (n.trans n2) ((n.trans n2).rs rs).s
  rw [more_new] at z
  exact z
end QD

/-! QDF: chains of comparisons; slices. -/
namespace QD
open PySem PySem.Spec PyProof.Rows L2
section
variable {X : Cx} {L : Pl} {G : Gd} {cf : Nat → List D → Store → Res D} {a b c : Expr} {ca cb cc : C} {op op' : CmpOp} {o o' : Cm} {pos : Pos}
theorem si_chain (ho : CmD X L (compareOp op) (fun S x y => evCm G S o x y)) (ho' : CmD X L (compareOp op') (fun S x y => evCm G S o' x y)) (ha : Sim X L G cf a ca) (hb : Sim X L G cf b cb) (hc : Sim X L G cf c cc)
    (hm : lastMarks [op, op'] [b, c] = false := by with_unfolding_all rfl) : Sim X L G cf (.Compare a [op, op'] [b, c] pos) (.cmp2 o o' ca cb cc) := by
  refine ⟨fun W tk ρ σd σ S H Q r rs h => fun pins s I => ?_⟩
  have h := Res.good_bind (r := evC cf G ca σd S) h
  refine Compare_chain (thn (ha.run W tk ρ σd σ S H (fun v H1 => ∃ ρ1 S1 x, Nx X.K L S H ρ S1 H1 ρ1 ∧ Rp X.K L H1 ρ1 S1.n x v ∧ ((evC cf G cb σd S1).bind fun y S2 => (Res.of (evCm G S2 o x y) S2).bind fun k S3 =>
    if k then (evC cf G cc σd S3).bind fun z S4 => (Res.of (evCm G S4 o' y z) S4).bind fun k S5 => .ok (D.bl k) S5 else .ok (D.bl false) S3).Good (kV X.K L S H ρ Q) (kX X.K L S H ρ (WE W σ))) r rs (h.imp (fun x S1 g ρ' H' v n p => ⟨ρ', S1, x, n, p, g⟩) fun _ _ _ k => k) pins s I) fun u s1 ⟨v, H1, I1, rv, ρ1, S1, x, n1, p1, g⟩ => chain_link ?_) hm
  have g := Res.good_bind g
  refine thn (hb.run W tk ρ1 σd σ S1 H1 (fun w H2 => ∃ ρ2 S2 y, Nx X.K L S1 H1 ρ1 S2 H2 ρ2 ∧ Rp X.K L H2 ρ2 S2.n y w ∧ ((Res.of (evCm G S2 o x y) S2).bind fun k S3 =>
    if k then (evC cf G cc σd S3).bind fun z S4 => (Res.of (evCm G S4 o' y z) S4).bind fun k S5 => .ok (D.bl k) S5 else .ok (D.bl false) S3).Good (kV X.K L S H ρ Q) (kX X.K L S H ρ (WE W σ))) n1.r (n1.rs rs) (g.imp (fun y S2 gg ρ' H' w n p => ⟨ρ', S2, y, n, p, gg⟩) fun _ _ _ k => k.at n1) pins s1 I1) fun u2 s2 ⟨w, H2, I2, rw', ρ2, S2, y, n2, p2, gg⟩ => ?_
  obtain ⟨kb, e3, gg⟩ := Res.good_of (Res.good_bind gg)
  have n12 := n1.trans n2
  obtain ⟨r2, ho2, hq2⟩ := ho ρ2 S2 H2 x y kb v w n2.r (n2.rp p1) p2 e3
  refine thn (ho2 pins s2 σ H2 v w u u2 (fun z H3 => z = .bl kb ∧ H3 = H2) I2 rv rw' (hq2 _ ⟨rfl, rfl⟩)) fun c3 s3 ⟨z, H3, I3, rz, ez, eh⟩ => ?_
  subst ez
  subst eh
  obtain rfl : c3 = Value.bool kb := rz
  refine wpAny_truthy_bool ?_
  cases kb with
  | false =>
    rw [if_neg Bool.false_ne_true] at gg
    exact ite_ff ⟨.bl false, H3, I3, rfl, gg ρ2 H3 _ n12 rfl⟩
  | true =>
    rw [if_pos rfl] at gg
    have gg := Res.good_bind gg
    refine ite_tt (chain_last ?_)
    refine thn (hc.run W tk ρ2 σd σ S2 H3 (fun w4 H4 => ∃ ρ4 S4 z2 k2, Nx X.K L S2 H3 ρ2 S4 H4 ρ4 ∧ Rp X.K L H4 ρ4 S4.n z2 w4 ∧ evCm G S4 o' y z2 = some k2 ∧ kV X.K L S H ρ Q (.bl k2) S4) n2.r (n12.rs rs) (gg.imp (fun z2 S4 g4 ρ' H' w4 n p => ?_) fun _ _ _ k => k.at n12) pins s3 I3) fun u4 s4 ⟨w4, H4, I4, rw4, ρ4, S4, z2, k2, n4, p4, e6, k⟩ => ?_
    · obtain ⟨k2, e6, k⟩ := Res.good_of (Res.good_bind g4)
      exact ⟨ρ', S4, z2, k2, n, p, e6, k⟩
    · obtain ⟨r5, ho5, hq5⟩ := ho' ρ4 S4 H4 y z2 k2 w w4 n4.r (n4.rp p2) p4 e6
      exact ho5 pins s4 σ H4 w w4 u2 u4 Q I4 rw' rw4 (hq5 Q (k ρ4 H4 _ (n12.trans n4) rfl))
/-! ### slices -/
theorem RpL.drop {K : PySem.W.Frag} {H : Hp} {ρ : Nat → Addr} {n : Nat} : ∀ (i : Nat) {l : List D} {vs : List V}, RpL K L H ρ n l vs → RpL K L H ρ n (l.drop i) (vs.drop i)
  | 0, l, vs, h => h
  | i + 1, [], vs, h => by cases (show vs = [] from h); exact RpL.nil
  | i + 1, d :: l, vs, h => by
    obtain ⟨v, r, rfl, _, h2⟩ := h
    exact RpL.drop i h2
theorem RpL.take {K : PySem.W.Frag} {H : Hp} {ρ : Nat → Addr} {n : Nat} : ∀ (i : Nat) {l : List D} {vs : List V}, RpL K L H ρ n l vs → RpL K L H ρ n (l.take i) (vs.take i)
  | 0, l, vs, h => RpL.nil
  | i + 1, [], vs, h => by cases (show vs = [] from h); exact RpL.nil
  | i + 1, d :: l, vs, h => by
    obtain ⟨v, r, rfl, h1, h2⟩ := h
    exact RpL.cons h1 (RpL.take i h2)
theorem RpL.cut {K : PySem.W.Frag} {H : Hp} {ρ : Nat → Addr} {n : Nat} {l : List D} {vs : List V} {lo hi : Option Int} (h : RpL K L H ρ n l vs) : RpL K L H ρ n (cutA l lo hi) (cutV vs lo hi) := by
  have e := h.length
  unfold cutA cutV
  rw [e]
  exact (h.drop _).take _
structure SimO (X : Cx) (L : Pl) (G : Gd) (cf : Nat → List D → Store → Res D) (e : Option Expr) (oc : Oc) : Prop where
  run : ∃ t : TO, PO X e t ∧ ∀ (W : WX) (_ : Takes X W) (ρ : Nat → Addr) (σd : Sl) (σ : L2.St) (S : Store) (H : Hp) (Q : Option Int → Hp → Prop), Rel X.K L H ρ S → RX X L G H ρ S.n σd σ →
    (evO cf G oc σd S).Good (fun i S' => ∀ ρ' H', Nx X.K L S H ρ S' H' ρ' → Q i H') (kX X.K L S H ρ (WE W σ)) → t σ H Q
theorem so_none : SimO X L G cf none .no := ⟨⟨_, po_none, fun W tk ρ σd σ S H Q r rs h => h ρ H (Nx.refl r)⟩⟩
theorem so_some (ha : Sim X L G cf a ca) : SimO X L G cf (some a) (.so ca) := by
  refine ⟨⟨_, po_some (pE a), fun W tk ρ σd σ S H Q r rs h => ?_⟩⟩
  have h := Res.good_bind (r := evC cf G ca σd S) h
  refine ha.run W tk ρ σd σ S H _ r rs (h.imp (fun d S1 g ρ' H' v n p => ?_) fun _ _ _ k => k)
  split at g
  · rename_i i
    exact ⟨i, p, g ρ' H' n⟩
  · exact g.elim
theorem si_slice {lo hi : Option Expr} {cl ch : Oc} {p2 : Pos} (ha : Sim X L G cf a ca) (hl : SimO X L G cf lo cl) (hh : SimO X L G cf hi ch) : Sim X L G cf (.Subscript a (.Slice lo hi none p2) pos) (.slice ca cl ch) := by
  obtain ⟨tl, pl, rl⟩ := hl.run
  obtain ⟨th, ph, rh⟩ := hh.run
  refine ⟨fun W tk ρ σd σ S H Q r rs h => ?_⟩
  have h := Res.good_bind (r := evC cf G ca σd S) h
  refine ofE (pe_slice (sl_list.or (sl_tupA.or sl_str)) (pE a) pl ph) (ha.run W tk ρ σd σ S H _ r rs (h.imp (fun d S1 g ρ' H' v n p => ?_) fun _ _ _ k => k))
  refine rl W tk ρ' σd σ S1 H' _ n.r (n.rs rs) ((Res.good_bind g).imp (fun i S2 g2 ρ2 H2 n2 => ?_) fun _ _ _ k => k.at n)
  have n12 := n.trans n2
  refine rh W tk ρ2 σd σ S2 H2 _ n2.r (n12.rs rs) ((Res.good_bind g2).imp (fun j S3 g3 ρ3 H3 n3 => ?_) fun _ _ _ k => k.at n12)
  have nn := n12.trans n3
  have p3 := n3.rp (n2.rp p)
  unfold evSlice at g3
  split at g3
  · rename_i i0
    split at g3
    · rename_i w0 l el
      obtain ⟨_, rfl⟩ := (show i0 < S3.n ∧ v = .ref (ρ3 i0) from p3)
      obtain ⟨us, s, q⟩ := cell_lst n3.r el
      refine .inl ⟨_, us, rfl, s, fun pp hp => ?_⟩
      have n4 := n3.r.push (o := .lst (cutV us i j)) (c := .lst true (cutA l i j)) hp ⟨_, upd_same, q.cut.mono (TM.new hp) more_agree (Nat.le_succ _)⟩
      exact g3 _ _ _ (nn.trans n4) ⟨Nat.lt_succ_self _, by rw [more_new]⟩
    · exact g3.elim
  · rename_i l
    obtain ⟨x, us, rfl, s, q⟩ := (show ∃ a vs, v = .ref a ∧ SqT X.K H3 a vs ∧ RpL X.K L H3 ρ3 S3.n l vs from p3)
    have e := q.length
    refine .inr (.inl ⟨x, us, rfl, s, fun ⟨z1, z2⟩ => ?_, fun _ pp hp => ?_⟩)
    · have ec : cutA l i j = l := by
        unfold cutA
        rw [e, z1, z2, List.drop_zero]
        exact List.take_of_length_le (by omega)
      rw [ec] at g3
      exact g3 ρ3 H3 _ nn ⟨x, us, rfl, s, q⟩
    · have n4 := n3.r.new (o := .tup (cutV us i j)) hp
      exact g3 ρ3 _ _ (nn.trans n4) ⟨pp, cutV us i j, rfl, SqT.of upd_same, n4.rpl q.cut⟩
  · rename_i z
    split at g3
    · cases (show v = .str z from p3)
      exact .inr (.inr ⟨z, rfl, by assumption, g3 ρ3 H3 _ nn rfl⟩)
    · exact g3.elim
  · exact g3.elim
end
end QD

/-! QDG: try with clauses `except X as n`. -/
namespace QD
open PySem PySem.Spec PyProof.Rows L2
abbrev ClT := Value × Nat × (Addr → Value → Option Addr → TS)
/-- behind a suite its name is gone -/
def endsAt (D : Ends) (i : Nat) : Ends := { nx := fun σ H => D.nx (σ.set i none) H, rt := D.rt, bk := fun σ H => D.bk (σ.set i none) H, ct := fun σ H => D.ct (σ.set i none) H }
/-- what the clauses wish of an exception -/
def wCl (K : PySem.W.Frag) (Wout : WX) (D : Ends) : List ClT → WX
  | [] => Wout
  | q :: r => fun cls d σ H => ∃ b, PySem.W.exmOne K cls q.1 = some b ∧ (b = true → ∀ a, H a = none → q.2.2 a cls d (endsAt D q.2.1) (σ.set q.2.1 (some (.ref a))) H) ∧ (b = false → wCl K Wout D r cls d σ H)
inductive Clauses (X : Cx) : List ExceptHandler → List ClT → Prop where
  | nil : Clauses X [] []
  | cons {x n : Str} {c : Value} {i : Nat} {ts : Addr → Value → Option Addr → TS} {b0 : Stmt} {su : List Stmt} {np p : Pos} {hs : List ExceptHandler} {l : List ClT} (hc : Names X x c) (hi : X.N[i]? = some n) (hl : X.env.kindOf n = some .local)
      (hsu : ∀ (a : Addr) (oe : Obj) (cls : Value) (d : Option Addr) (pn : List (Addr × Obj)), Zc cls d oe → (∃ vs, oe.data = .fields vs) → PSs (X.suite a ((a, oe) :: pn)) (b0 :: su) (ts a cls d)) (r : Clauses X hs l) :
      Clauses X (.ExceptHandler (some (.Name x np)) (some n) (b0 :: su) p :: hs) ((c, i, ts) :: l)
section
variable {X : Cx} {pins : List (Addr × Obj)} {σ : L2.St} {H : Hp} {a : Addr} {cls : Value} {d : Option Addr} {t : Shared}
/-- the exception at a has come back to X's own frame; without it the state is one of ours -/
def Landed (X : Cx) (pins : List (Addr × Obj)) (σ : L2.St) (H : Hp) (a : Addr) (cls : Value) (d : Option Addr) (t : Shared) : Prop := ∃ (B : Heap) (t0 : Shared), Inv X pins σ H t0 ∧ (∀ b o, t0.heap.get? b = some o → b ∉ frs X.stack → B.get? b = some o) ∧ t0.heap.UpToSlots t.heap ∧ t.os = t0.os ∧ AllBare t.gens ∧ H a = none ∧
  HandSPX.FlyingZ B (X.env :: X.outer) a (Zc cls d) t.heap
theorem Landed.inv (l : Landed X pins σ H a cls d t) : Inv X pins σ H t := by
  obtain ⟨B, t0, J, nb, up, os, ag, na, fl⟩ := l
  exact J.landed nb fl.1 up os ag
theorem Landed.suite (hf : X.env.frame = some X.env.locals) (l : Landed X pins σ H a cls d t) : ∃ oe, Zc cls d oe ∧ (∃ vs, oe.data = .fields vs) ∧ t.heap.get? a = some oe ∧ Inv (X.suite a ((a, oe) :: (X.pn ++ pins))) [] σ H t := by
  have J := l.inv
  obtain ⟨B, t0, _, nb, up, os, ag, na, fl⟩ := l
  obtain ⟨oe, vs, eo, ez, ed⟩ := fl.there
  have far : a ∉ frs (X.env :: X.outer) := fun m => by
    obtain ⟨_, o2, e2, no⟩ := fl.2.2.1.mem m
    rw [eo] at e2
    cases e2
    exact no _ ed
  refine ⟨oe, ez, ⟨vs, ed⟩, eo, J.suite eo ed na (fun z => far ?_) fun m => far ?_⟩
  · exact List.mem_filterMap.mpr ⟨X.env, List.mem_cons_self, by rw [hf, z]⟩
  · obtain ⟨e, me, q⟩ := List.mem_filterMap.mp m
    exact List.mem_filterMap.mpr ⟨e, List.mem_cons_of_mem _ me, q⟩
/-- no clause takes it: it goes on -/
theorem Landed.out {W : WX} {R : Flow → Shared → Prop} (hs : X.stack = X.env :: X.outer) (hf : X.env.frame = some X.env.locals) (tk : Takes X W) (l : Landed X pins σ H a cls d t) (w : W cls d σ H) : wpAny (model X.prog X.w) X.A (handleBy (.ref a) X.env []) R X.xe t := by
  obtain ⟨B, t0, J, nb, up, os, ag, na, fl⟩ := l
  obtain ⟨_, _, _, oe, vs, T, _, _, eo, _, ed, e1, _⟩ := id fl
  have up2 : wpAny (model X.prog X.w) X.A (setFlight (.ref a) X.env.frame) (fun _ t2 => wpAny (model X.prog X.w) X.A (throw (.ref a) : Sem Flow) R X.xe t2) X.xe t := by
    rw [hf]
    refine HandSPX.setFlight_upZ fl fun h2 held more => wpAny_throw (tk _ _ ⟨a, B, t0, pins, σ, H, cls, d, rfl, J, nb, up.trans more, .inr (.inr ?_), na, os, ag, w⟩)
    rw [hs]
    exact held
  refine wpAny_handleBy_nil ?_
  unfold PySem.passOn
  refine wpAny_bind (wpAny_field eo ed e1 ?_)
  have nn : ¬ ((Value.ref T == Value.none) = true) := by simp
  rw [if_neg nn]
  first
    | exact wpAny_bind (wpAny_pure (wpAny_bind up2))
    | exact wpAny_bind up2
theorem clauses_run {W : WX} {D : Ends} (hs : X.stack = X.env :: X.outer) (hf : X.env.frame = some X.env.locals) (hN : X.N.Nodup) (tk : Takes X W) {hds : List ExceptHandler} {l : List ClT} (hk : Clauses X hds l) : Landed X pins σ H a cls d t → wCl X.K W D l cls d σ H →
    wpAny (model X.prog X.w) X.A (handleBy (.ref a) X.env hds) (SP X pins D) X.xe t := by
  induction hk with
  | nil => exact fun ld w => ld.out hs hf tk w
  | @cons x n c i ts b0 su np p hs' l' hc hi hl hsu r ih =>
    rintro ld ⟨b, hb, yes, no⟩
    have J := ld.inv
    obtain ⟨oe, ez, ed, eo, S⟩ := ld.suite hf
    refine wpAny_handleBy_cons (codeAny_handlers_test ?_) (by intro q; cases q)
    have ty : PySem.W.Looks (model X.prog X.w) t.heap (typeOf (.ref a)) cls := fun A Q E s k q => wpAny_typeOf_ref (k _ _ eo) (by rw [ez.1]; exact q)
    have look : ∀ {Q E : Value → Shared → Prop}, Q c t → wpAny (model X.prog X.w) (X.A.mark (some (.ref a))) (eval (.Name x np) X.env) Q E t := fun {Q E} q => by
      obtain ⟨g1, g2, g3 | ⟨g3, g4, g5⟩⟩ := hc
      · exact ld_glob (X := X.suite a ((a, oe) :: (X.pn ++ pins))) S g1 g3 q g2
      · exact ld_blt (X := X.suite a ((a, oe) :: (X.pn ++ pins))) S g1 g3 g4 q g5 g2
    refine look ((PySem.W.exm_one (M := model X.prog X.w) J.kIn ty hb).here ?_)
    cases b with
    | false => exact ih ld (no rfl)
    | true =>
      refine codeAny_handlers_suite_as ?_
      have ld0 := ld
      obtain ⟨B, t0, J0, nb, up, os, ag, na, fl⟩ := ld
      refine HandSPX.lands_againZ fl fun h2 fl2 more => ?_
      have ld2 : Landed X pins σ H a cls d { t with heap := h2 } := ⟨B, t0, J0, nb, up.trans more, os, ag, na, fl2⟩
      obtain ⟨o2, z2, f2, e2, S2⟩ := ld2.suite hf
      refine store_ok (X := X.suite a ((a, o2) :: (X.pn ++ pins))) (v := .ref a) S2 hN hi (.inl hl) rfl (fun t3 S3 => ?_) (.inr hl)
      refine wpAny_mono ((hsu a o2 cls d (X.pn ++ pins) z2 f2).run [] t3 _ H _ S3 (yes rfl a na)) (fun fl4 t4 sp => ?_) fun _ _ z => False.elim z
      have last : ∀ {τ : L2.St} {G : Hp} {Q : Shared → Prop}, Inv (X.suite a ((a, o2) :: (X.pn ++ pins))) [] τ G t4 → (∀ t5, Inv X pins (τ.set i none) G t5 → Q t5) → wpAny (model X.prog X.w) X.A (do bindName X.env n .none; unbindBehindTheSuite X.env n p) (fun _ t5 => Q t5) X.xe t4 :=
        fun {τ G Q} S4 q => gone_ok (S4.unsuite J.ok) hN hi hl q
      cases fl4 with
      | next => obtain ⟨τ, G, S4, q⟩ := sp; exact last S4 fun t5 J5 => ⟨_, _, J5, q⟩
      | brk => obtain ⟨τ, G, S4, q⟩ := sp; exact last S4 fun t5 J5 => ⟨_, _, J5, q⟩
      | cont => obtain ⟨τ, G, S4, q⟩ := sp; exact last S4 fun t5 J5 => ⟨_, _, J5, q⟩
      | ret u => obtain ⟨v, τ, G, S4, rr, q⟩ := sp; exact last S4 fun t5 J5 => ⟨_, _, _, J5, rr, q⟩
/-- try: body; except X as n: .. -/
theorem ps_tryN {body : List Stmt} {h0 : ExceptHandler} {hds : List ExceptHandler} {l : List ClT} {pos : Pos} {tb : WX → TS} {Wout : WX} (hs : X.stack = X.env :: X.outer) (hf : X.env.frame = some X.env.locals) (hN : X.N.Nodup) (tk : Takes X Wout)
    (hb : ∀ (W : WX) (pn : List (Addr × Obj)) (xe : Value → Shared → Prop), Takes (X.tr pn xe) W → PassesOwn (model X.prog X.w) X.A X.env xe → PSs (X.tr pn xe) body (tb W)) (hh : Clauses X (h0 :: hds) l) : PS X (.Try body (h0 :: hds) [] [] pos) (fun D σ H => tb (wCl X.K Wout D l) D σ H) := by
  refine ⟨fun pins s σ H D I w => ?_⟩
  have ok := I.ok
  have fr : X.A.frames = some (X.env :: X.outer) := by rw [ok.frames, hs]
  let xe' : Value → Shared → Prop := fun e t1 => wpAny (model X.prog X.w) X.A (noteFrame e X.env) (fun _ t2 => wpAny (model X.prog X.w) X.A (setFlight e none) (fun _ t3 => wpAny (model X.prog X.w) X.A (handleBy e X.env (h0 :: hds)) (SP X pins D) X.xe t3) X.xe t2) X.xe t1
  have tk' : Takes (X.tr (X.pn ++ pins) xe') (wCl X.K Wout D l) := by
    rintro u t1 ⟨a, B, t0, p2, τ, G, cls, d, rfl, J, nb, up, sky, na, os, ag, w2⟩
    have sky2 : Sky B (X.env :: X.outer) a (Zc cls d) X.env.locals t1.heap := by
      rw [← hs]
      exact sky
    show wpAny (model X.prog X.w) X.A (noteFrame (.ref a) X.env) _ _ _
    exact Sky.land Zc.steady fr hf sky2 fun h2 fl more => clauses_run hs hf hN tk hh ⟨B, t0, J.ofTry ok, nb, up.trans more, os, ag, na, fl⟩ w2
  refine wpAny_Try_except (wpAny_mono ((hb _ (X.pn ++ pins) xe' tk' PassesOwn.looking).run [] s σ H D (I.toTry _) w) (fun f t1 sp => ?_) fun e t1 q => q)
  cases f with
  | next => obtain ⟨τ, G, J, q⟩ := sp; exact wpAny_execs_nil ⟨τ, G, J.ofTry ok, q⟩
  | brk => obtain ⟨τ, G, J, q⟩ := sp; exact ⟨τ, G, J.ofTry ok, q⟩
  | cont => obtain ⟨τ, G, J, q⟩ := sp; exact ⟨τ, G, J.ofTry ok, q⟩
  | ret u => obtain ⟨v, τ, G, J, rr, q⟩ := sp; exact ⟨v, τ, G, J.ofTry ok, rr, q⟩
end
end QD

/-! QDH: try, simulated. -/
namespace QD
open PySem PySem.Spec PyProof.Rows L2
section
variable {X : Cx} {L : Pl} {G : Gd} {cf : Nat → List D → Store → Res D}
/-- a suite: the slot i holds the exception at a -/
structure SuiteAt (X : Cx) (L : Pl) (G : Gd) (cf : Nat → List D → Store → Res D) (i : Nat) (a : Addr) (st : List Stmt) (c : Ss) : Prop where
  run : ∀ (W : WX) (_ : Takes X W) (ρ : Nat → Addr) (σd : Sl) (σ : L2.St) (S : Store) (H : Hp) (f : Fl) (S' : Store) (D : Ends), Rel X.K L H ρ S → RX X L G H ρ S.n σd σ → σ[i]? = some (some (.ref a)) → exSs cf G c σd S = .ok f S' → FlK X.K L S H ρ W f S' D → wSs X st D σ H
theorem RS.len {K : PySem.W.Frag} {L : Pl} {H : Hp} {ρ : Nat → Addr} {n : Nat} : ∀ {σd : Sl} {σ : L2.St}, RS K L H ρ n σd σ → σ.length = σd.length
  | [], _, h => by
    cases h
    rfl
  | o :: ds, vs, h => by
    obtain ⟨u, r, e, _, h2⟩ := h
    rw [e]
    exact congrArg (· + 1) (RS.len h2)
/-- the clauses beside their codes -/
inductive SimHs (X : Cx) (L : Pl) (G : Gd) (cf : Nat → List D → Store → Res D) : List ExceptHandler → Hs → Prop where
  | nil : SimHs X L G cf [] .nil
  | cons {x n : Str} {e i : Nat} {b0 : Stmt} {su : List Stmt} {np p : Pos} {hs : List ExceptHandler} {b : Ss} {r : Hs} (hc : Names X x (.ref (L.cla e))) (hi : X.N[i]? = some n) (hl : X.env.kindOf n = some .local)
      (hx : ∀ c k, G.exs c e = some k → PySem.W.exmOne X.K (.ref (L.cla c)) (.ref (L.cla e)) = some k)
      (hsu : ∀ (a : Addr) (oe : Obj) (pn : List (Addr × Obj)) (c d : Nat), (∃ vs, oe.data = .fields vs) → oe.cls = .ref (L.cla c) → G.exs c e = some true → SuiteAt (X.suite a ((a, oe) :: pn)) L { G with exi := some (d, c) } cf i a (b0 :: su) b) (hr : SimHs X L G cf hs r) :
      SimHs X L G cf (.ExceptHandler (some (.Name x np)) (some n) (b0 :: su) p :: hs) (.cons e i b r)
theorem hs_run {hds : List ExceptHandler} {hs : Hs} (h : SimHs X L G cf hds hs) : ∃ l, Clauses X hds l ∧ ∀ (W : WX) (D : Ends) (S : Store) (H : Hp) (ρ : Nat → Addr) (c d : Nat) (σ1 : Sl) (S1 : Store) (f : Fl) (S' : Store), exHs cf c d G hs σ1 S1 = .ok f S' → FlK X.K L S H ρ W f S' D →
    ∀ ρ' H' σ', Nx X.K L S H ρ S1 H' ρ' → RS X.K L H' ρ' S1.n σ1 σ' → wCl X.K W D l (.ref (L.cla c)) (some (ρ' d)) σ' H' := by
  induction h with
  | nil =>
    refine ⟨[], .nil, fun W D S H ρ c d σ1 S1 f S' e k ρ' H' σ' n rs => ?_⟩
    cases e
    exact k ρ' H' σ' n rs
  | @cons x n e i b0 su np p hs b r hc hi hl hx hsu hr ih =>
    obtain ⟨l, cl, run⟩ := ih
    refine ⟨(.ref (L.cla e), i, fun a cls d D σ H => ∀ (oe : Obj) (pn : List (Addr × Obj)), Zc cls d oe → (∃ vs, oe.data = .fields vs) → wSs (X.suite a ((a, oe) :: pn)) (b0 :: su) D σ H) :: l, .cons hc hi hl (fun a oe cls d pn z v => ⟨fun pins s σ H D I q => q oe pn z v pins s I⟩) cl, fun W D S H ρ c d σ1 S1 f S' h2 k ρ' H' σ' n rs => ?_⟩
    have h3 : (match G.exs c e with
      | some true => if (Nat.blt d S1.n && Nat.blt i σ1.length) = true then (exSs cf { G with exi := some (d, c) } b (σ1.set i none) S1).bind fun f S1 => (match f with
        | .xc _ _ _ => .stuck
        | f => .ok (gone i f) S1) else .stuck
      | some false => exHs cf c d G r σ1 S1
      | none => .stuck) = .ok f S' := h2
    cases ek : G.exs c e with
    | none => rw [ek] at h3; cases h3
    | some kb =>
      rw [ek] at h3
      refine ⟨kb, hx c kb ek, fun hk a na oe pn z v => ?_, fun hk => ?_⟩
      · subst hk
        dsimp only at h3
        split at h3
        · rename_i hd
          obtain ⟨f1, S2, e1, e2⟩ := Res.bind_ok h3
          have rx : RX (X.suite a ((a, oe) :: pn)) L { G with exi := some (d, c) } H' ρ' S1.n (σ1.set i none) (σ'.set i (some (.ref a))) := ⟨rs.setN i, fun d2 c2 q => by
            cases q
            exact ⟨Nat.le_of_ble_eq_true (Bool.and_eq_true_iff.mp hd).1, z.2⟩⟩
          refine (hsu a oe pn c d v z.1 ek).run noW takes_no ρ' _ _ S1 H' f1 S2 _ n.r rx (List.getElem?_set_self (by rw [RS.len rs]; exact Nat.le_of_ble_eq_true (Bool.and_eq_true_iff.mp hd).2)) e1 ?_
          cases f1 with
          | nx σ2 => cases e2; exact fun ρ2 H2 σ3 n2 rs2 => k ρ2 H2 _ (n.trans n2) (rs2.setN i)
          | rt d2 => cases e2; exact fun ρ2 H2 v2 n2 p2 => k ρ2 H2 v2 (n.trans n2) p2
          | bk σ2 => cases e2; exact fun ρ2 H2 σ3 n2 rs2 => k ρ2 H2 _ (n.trans n2) (rs2.setN i)
          | ct σ2 => cases e2; exact fun ρ2 H2 σ3 n2 rs2 => k ρ2 H2 _ (n.trans n2) (rs2.setN i)
          | xc _ _ _ => cases e2
        · cases h3
      · subst hk
        exact run W D S H ρ c d σ1 S1 f S' h3 k ρ' H' σ' n rs
theorem ss_try {body : List Stmt} {h0 : ExceptHandler} {hds : List ExceptHandler} {pos : Pos} {b : Ss} {hs : Hs} (hst : X.stack = X.env :: X.outer) (hf : X.env.frame = some X.env.locals) (hN : X.N.Nodup) (hx : G.exi = none)
    (hb : ∀ (pn : List (Addr × Obj)) (xe : Value → Shared → Prop), PassesOwn (model X.prog X.w) X.A X.env xe → SimSs (X.tr pn xe) L G cf body b) (hh : SimHs X L G cf (h0 :: hds) hs) : SimS X L G cf (.Try body (h0 :: hds) [] [] pos) (.tryX b hs) := by
  obtain ⟨l, cl, run⟩ := hs_run hh
  refine ⟨fun W tk ρ σd σ S H f S' DD r rs h k => ?_⟩
  obtain ⟨f1, S1, e1, h3⟩ := Res.bind_ok (show (exSs cf G b σd S).bind (fun f S1 => match f with
    | .xc c d σ1 => exHs cf c d G hs σ1 S1
    | f => .ok f S1) = .ok f S' from h)
  refine ofS (ps_tryN (tb := fun W' D σ H => ∀ pn xe, Takes (X.tr pn xe) W' → PassesOwn (model X.prog X.w) X.A X.env xe → wSs (X.tr pn xe) body D σ H) hst hf hN tk (fun W' pn xe tk' hp => ⟨fun pins s σ H D I q => q pn xe tk' hp pins s I⟩) cl) fun pn xe tk' hp => ?_
  refine (hb pn xe hp).run _ tk' ρ σd σ S H f1 S1 DD r (RX.blk hx rs.s) e1 ?_
  cases f1 with
  | nx σ1 => cases h3; exact k
  | rt d => cases h3; exact k
  | bk σ1 => cases h3; exact k
  | ct σ1 => cases h3; exact k
  | xc c d σ1 => exact run W DD S H ρ c d σ1 S1 f S' h3 k
/-- the handled error's value; what it is -/
theorem si_xisi_dummy : True := True.intro
end
end QD

/-! QDI: a chain of comparisons as a test. -/
namespace QD
open PySem PySem.Spec PyProof.Rows L2
section
variable {X : Cx} {L : Pl} {G : Gd} {cf : Nat → List D → Store → Res D} {a b c : Expr} {ca cb cc : C} {op op' : CmpOp} {o o' : Cm} {pos : Pos}
theorem st_chain (ho : CmD X L (compareOp op) (fun S x y => evCm G S o x y)) (ho' : CmD X L (compareOp op') (fun S x y => evCm G S o' x y)) (ha : Sim X L G cf a ca) (hb : Sim X L G cf b cb) (hc : Sim X L G cf c cc)
    (hm : lastMarks [op, op'] [b, c] = false := by with_unfolding_all rfl) : SimT X L G cf (.Compare a [op, op'] [b, c] pos) (.cmp2 o o' ca cb cc) := by
  refine ⟨fun W tk ρ σd σ S H Q r rs h => fun pins s I => ?_⟩
  have h := Res.good_bind (r := evC cf G ca σd S) h
  refine isTrue_chain (thn (ha.run W tk ρ σd σ S H (fun v H1 => ∃ ρ1 S1 x, Nx X.K L S H ρ S1 H1 ρ1 ∧ Rp X.K L H1 ρ1 S1.n x v ∧ ((evC cf G cb σd S1).bind fun y S2 => (Res.of (evCm G S2 o x y) S2).bind fun k S3 =>
    if k then (evC cf G cc σd S3).bind fun z S4 => (Res.of (evCm G S4 o' y z) S4).bind fun k S5 => .ok (D.bl k) S5 else .ok (D.bl false) S3).Good (fun d S' => ∃ b, truth S' d = some b ∧ ∀ ρ' H', Nx X.K L S H ρ S' H' ρ' → Q b H') (kX X.K L S H ρ (WE W σ))) r rs (h.imp (fun x S1 g ρ' H' v n p => ⟨ρ', S1, x, n, p, g⟩) fun _ _ _ k => k) pins s I) fun u s1 ⟨v, H1, I1, rv, ρ1, S1, x, n1, p1, g⟩ => test_link ?_) hm
  have g := Res.good_bind g
  refine thn (hb.run W tk ρ1 σd σ S1 H1 (fun w H2 => ∃ ρ2 S2 y, Nx X.K L S1 H1 ρ1 S2 H2 ρ2 ∧ Rp X.K L H2 ρ2 S2.n y w ∧ ((Res.of (evCm G S2 o x y) S2).bind fun k S3 =>
    if k then (evC cf G cc σd S3).bind fun z S4 => (Res.of (evCm G S4 o' y z) S4).bind fun k S5 => .ok (D.bl k) S5 else .ok (D.bl false) S3).Good (fun d S' => ∃ b, truth S' d = some b ∧ ∀ ρ' H', Nx X.K L S H ρ S' H' ρ' → Q b H') (kX X.K L S H ρ (WE W σ))) n1.r (n1.rs rs) (g.imp (fun y S2 gg ρ' H' w n p => ⟨ρ', S2, y, n, p, gg⟩) fun _ _ _ k => k.at n1) pins s1 I1) fun u2 s2 ⟨w, H2, I2, rw', ρ2, S2, y, n2, p2, gg⟩ => ?_
  obtain ⟨kb, e3, gg⟩ := Res.good_of (Res.good_bind gg)
  have n12 := n1.trans n2
  obtain ⟨r2, ho2, hq2⟩ := ho ρ2 S2 H2 x y kb v w n2.r (n2.rp p1) p2 e3
  refine thn (ho2 pins s2 σ H2 v w u u2 (fun z H3 => z = .bl kb ∧ H3 = H2) I2 rv rw' (hq2 _ ⟨rfl, rfl⟩)) fun c3 s3 ⟨z, H3, I3, rz, ez, eh⟩ => ?_
  subst ez
  subst eh
  obtain rfl : c3 = Value.bool kb := rz
  refine wpAny_truthy_bool ?_
  cases kb with
  | false =>
    rw [if_neg Bool.false_ne_true] at gg
    obtain ⟨bb, eb, k⟩ := gg
    cases (show some false = some bb from eb)
    exact ite_ff ⟨H3, I3, k ρ2 H3 n12⟩
  | true =>
    rw [if_pos rfl] at gg
    have gg := Res.good_bind gg
    refine ite_tt (test_last ?_)
    refine thn (hc.run W tk ρ2 σd σ S2 H3 (fun w4 H4 => ∃ ρ4 S4 z2 k2, Nx X.K L S2 H3 ρ2 S4 H4 ρ4 ∧ Rp X.K L H4 ρ4 S4.n z2 w4 ∧ evCm G S4 o' y z2 = some k2 ∧ ∀ ρ' H', Nx X.K L S H ρ S4 H' ρ' → Q k2 H') n2.r (n12.rs rs) (gg.imp (fun z2 S4 g4 ρ' H' w4 n p => ?_) fun _ _ _ k => k.at n12) pins s3 I3) fun u4 s4 ⟨w4, H4, I4, rw4, ρ4, S4, z2, k2, n4, p4, e6, k⟩ => ?_
    · obtain ⟨k2, e6, bb, eb, k⟩ := Res.good_of (Res.good_bind g4)
      cases (show some k2 = some bb from eb)
      exact ⟨ρ', S4, z2, k2, n, p, e6, k⟩
    · obtain ⟨r5, ho5, hq5⟩ := ho' ρ4 S4 H4 y z2 k2 w w4 n4.r (n4.rp p2) p4 e6
      refine thn (ho5 pins s4 σ H4 w w4 u2 u4 (fun z H6 => z = .bl k2 ∧ H6 = H4) I4 rw' rw4 (hq5 _ ⟨rfl, rfl⟩)) fun c6 s6 ⟨z6, H6, I6, rz6, ez6, eh6⟩ => ?_
      subst ez6
      subst eh6
      obtain rfl : c6 = Value.bool k2 := rz6
      exact wpAny_truthy_bool ⟨H6, I6, k ρ4 H6 (n12.trans n4)⟩
end
end QD

/-! QDK: o.m(); further op= of ints. -/
namespace QD
open PySem PySem.Spec PyProof.Rows L2
section
variable {X : Cx} {L : Pl} {G : Gd} {cf : Nat → List D → Store → Res D} {pos : Pos}
theorem au_mul (E : EnvOk X L G cf) : OpG X L (inplaceOp .Mult) fun x y S => evAug G cf .mul x y S := au_op (o := .mul) E (oi_int iop_mul fun S i j d S' h => by
  have h1 : (if (-(2 ^ 64) < i ∧ i < 2 ^ 64) ∨ (-(2 ^ 64) < j ∧ j < 2 ^ 64) then Res.ok (D.int (i * j)) S else .stuck) = .ok d S' := h
  split at h1
  · rename_i hc; cases h1; exact ⟨hc, rfl, rfl⟩
  · cases h1)
theorem au_shl (E : EnvOk X L G cf) : OpG X L (inplaceOp .LShift) fun x y S => evAug G cf .shl x y S := au_op (o := .shl) E (oi_int iop_shl fun S i j d S' h => by
  have h1 : (if 0 ≤ j ∧ j ≤ 1000000 ∧ i.natAbs < 2 ^ 64 then Res.ok (D.int (i * 2 ^ j.toNat)) S else .stuck) = .ok d S' := h
  split at h1
  · rename_i hc; cases h1; exact ⟨hc, rfl, rfl⟩
  · cases h1)
theorem au_shr (E : EnvOk X L G cf) : OpG X L (inplaceOp .RShift) fun x y S => evAug G cf .shr x y S := au_op (o := .shr) E (oi_int iop_shr fun S i j d S' h => by
  have h1 : (if 0 ≤ j then Res.ok (D.int (i / 2 ^ j.toNat)) S else .stuck) = .ok d S' := h
  split at h1
  · rename_i hc; cases h1; exact ⟨hc, rfl, rfl⟩
  · cases h1)
theorem au_bxor (E : EnvOk X L G cf) : OpG X L (inplaceOp .BitXor) fun x y S => evAug G cf .bxor x y S := au_op (o := .bxor) E (oi_int (OpR.of0 iop_xor) fun S i j d S' h => by cases h; exact ⟨trivial, rfl, rfl⟩)
theorem si_meth0E {o : Expr} {m m' : Str} {c : C} {apos pos : Pos} {pl : Sem Bool} (E : EnvOk X L G cf) (h : m = m') (ho : Sim X L G cf o c)
    (ht : eval (.Call (.Attribute o m apos) [] [] pos) X.env = (do
      let ov ← eval o X.env
      standAt apos.atName
      let (f, first) ← holding [ov] (getMethod ov m pl)
      callWith pos f first (backTo pos (starEach [] X.env)) (backToKw pos (keywordEach [] X.env))) := by rfl) :
    Sim X L G cf (.Call (.Attribute o m apos) [] [] pos) (.meth c m' .nil) := by
  subst h
  refine ⟨fun W tk ρ σd σ S H Q r rs h => fun pins s I => ?_⟩
  have h := Res.good_bind (r := evC cf G c σd S) h
  refine PySem.W.methodCall_KW (pl := pl) (thn (ho.run W tk ρ σd σ S H (fun v H1 => ∃ ρ1 S1 d, Nx X.K L S H ρ S1 H1 ρ1 ∧ Rp X.K L H1 ρ1 S1.n d v ∧ (match d with
      | .ref i => (match S1.get i with
        | some (.ins c fs) => if (fs.lookup m).isNone then (Res.of ((G.meths c).lookup m) S1).bind fun f S2 => (evCs cf G .nil σd S2).bind fun ds S3 => cf f (.ref i :: ds) S3 else .stuck
        | _ => .stuck)
      | _ => .stuck).Good (kV X.K L S H ρ Q) (kX X.K L S H ρ (WE W σ))) r rs (h.imp (fun d S1 g ρ' H' v n p => ⟨ρ', S1, d, n, p, g⟩) fun _ _ _ k => k) pins s I) fun u s1 ⟨v, H1, I1, rv, ρ1, S1, d, n1, p1, g⟩ => ?_) ht
  split at g
  · rename_i i
    split at g
    · rename_i cc fs ei
      split at g
      · rename_i hno
        obtain ⟨g0, eg, g⟩ := Res.good_of (Res.good_bind g)
        have g : (cf g0 [.ref i] S1).Good (kV X.K L S H ρ Q) (kX X.K L S H ρ (WE W σ)) := g
        obtain ⟨hi, rfl⟩ := (show i < S1.n ∧ v = .ref (ρ1 i) from p1)
        obtain rfl : u = Value.ref (ρ1 i) := rv
        obtain ⟨dx, vs, hH, hf⟩ := n1.r.cell i _ ei
        obtain ⟨cl, fa, fd, ps, j, kk, hm, F, hbn, hlen⟩ := (E.cls cc).meth m g0 eg
        refine getmeth_ok I1 hH cl hm (lookup_none_of hf hno) ?_
        have hall := RpL.cons p1 RpL.nil
        have hk : [V.ref (ρ1 i)].length = kk := by
          rw [← hall.length]
          exact F.ar _ _ g.ns
        refine PySem.W.callWith_K0 (first := [.ref (ρ1 i)]) I1.kIn hm.kp (run_fnSD (us := [.ref (ρ1 i)]) (vs := [.ref (ρ1 i)]) F.ok (F.room.mono (by omega)) hbn .nil (pass tk σ) I1 (.cons rfl .nil) ?_)
        rw [List.append_nil]
        exact ⟨ρ1, S1, [.ref i], hk, n1.r, hall, g.at n1⟩
      · exact g.elim
    · exact g.elim
  · exact g.elim
end
end QD

/-! QDL: the evaluator by hand: stores in a normal form. -/
namespace QD
namespace Store
/-- at a frame's start -/
def fr (S : Store) : Store := ⟨S.n, S.l, S.n⟩
/-- at its end -/
def out (S S1 : Store) : Store := ⟨S1.n, S1.l, if S1.w < S.w then S1.w else S.w⟩
theorem fr_n (S : Store) : S.fr.n = S.n := rfl
theorem fr_w (S : Store) : S.fr.w = S.n := rfl
theorem fr_get (S : Store) (i : Nat) : S.fr.get i = S.get i := rfl
theorem push_n (S : Store) (c : Cell) : (S.push c).n = S.n + 1 := rfl
theorem push_w (S : Store) (c : Cell) : (S.push c).w = S.w := rfl
theorem set_n' (S : Store) (i : Nat) (c : Cell) : (S.set i c).n = S.n := set_n
theorem out_n (S S1 : Store) : (S.out S1).n = S1.n := rfl
theorem out_fr {S : Store} (h : S.w ≤ S.n) : S.out S.fr = S := by
  unfold out fr
  have : ¬ S.n < S.w := by omega
  simp [this]
theorem out_push (S X : Store) (c : Cell) : S.out (X.push c) = (S.out X).push c := rfl
theorem set_w' (S : Store) (i : Nat) (c : Cell) (h : i < S.n) : (S.set i c).w = if i < S.w then i else S.w := by
  unfold set
  rw [if_pos h]
theorem out_set {S X : Store} {i : Nat} (c : Cell) (h : i < X.n) : S.out (X.set i c) = (S.out X).set i c := by
  unfold out set
  dsimp only
  rw [if_pos h, if_pos h]
  dsimp only
  congr 1
  by_cases h1 : X.w < S.w <;> by_cases h2 : i < X.w <;> by_cases h3 : i < S.w <;> simp [h1, h2, h3] <;> omega
theorem get_ge {S : Store} {i : Nat} (h : S.n ≤ i) : S.get i = none := by
  unfold get
  rw [if_neg (by omega)]
theorem get_pushI (S : Store) (c : Cell) (i : Nat) : (S.push c).get i = if i = S.n then some c else S.get i := by
  by_cases h : i = S.n
  · rw [if_pos h, h, get_push]
  · rw [if_neg h]
    by_cases h2 : i < S.n
    · exact get_old h2
    · rw [get_ge (by rw [push_n]; omega), get_ge (by omega)]
theorem get_setI {S : Store} {i j : Nat} {c : Cell} (h : j < S.n) : (S.set j c).get i = if i = j then (if S.n - 1 - j < S.l.length then some c else none) else S.get i := by
  by_cases e : i = j
  · subst e
    rw [if_pos rfl]
    unfold get set
    rw [if_pos h]
    dsimp only
    rw [if_pos h]
    by_cases h2 : S.n - 1 - i < S.l.length
    · rw [if_pos h2, List.getElem?_set_self h2]
    · rw [if_neg h2]
      simp
      omega
  · rw [if_neg e, get_set_ne (Ne.symm e)]
theorem set_set {S : Store} {i : Nat} {c d : Cell} : (S.set i c).set i d = S.set i d := by
  unfold set
  by_cases h : i < S.n
  · rw [if_pos h, if_pos h]
    dsimp only
    rw [if_pos h]
    simp only [List.set_set]
    congr 1
    by_cases h3 : i < S.w <;> simp [h3]
  · rw [if_neg h, if_neg h]
theorem push_set {S : Store} {c d : Cell} {i : Nat} (h : i = S.n) (hw : S.w ≤ S.n) : (S.push c).set i d = S.push d := by
  subst h
  unfold push set
  have : ¬ S.n < S.w := by omega
  simp [this]
theorem push_setF {S : Store} {c d : Cell} {i : Nat} (h : i = S.n) (hw : S.w = S.n + 1) : (S.push c).set i d = ⟨S.n + 1, d :: S.l, S.n⟩ := by
  subst h
  unfold push set
  simp [hw]
/-- the start of a frame behind a push -/
theorem fr_push_set {S : Store} {c d : Cell} {i : Nat} (h : i = S.n) : ((S.push c).fr).set i d = (S.fr).push d := by
  subst h
  unfold fr push set
  simp
theorem fr_push (S : Store) (c : Cell) : (S.push c).fr = ⟨S.n + 1, c :: S.l, S.n + 1⟩ := rfl
theorem lt_of {S : Store} {i : Nat} {c : Cell} (h : S.get i = some c) : i < S.n := lt h
end Store
theorem leaveI (S : Store) (d : D) (S1 : Store) : leave S d S1 = if (Nat.ble S.n S1.w && refless d) = true then .ok d S else .ok d (S.out S1) := rfl
theorem leave0 {S S1 : Store} {d : D} (hw : S1.w = S.n) (h : refless d = true) : leave S d S1 = .ok d S := by
  rw [leaveI, hw, h]
  simp
theorem leave1 {S S1 : Store} {d : D} (h : refless d = false) : leave S d S1 = .ok d (S.out S1) := by
  rw [leaveI, h]
  simp
theorem leave2 {S S1 : Store} {d : D} (h : ¬ S.n ≤ S1.w) : leave S d S1 = .ok d (S.out S1) := by
  rw [leaveI]
  have : Nat.ble S.n S1.w = false := by
    cases e : Nat.ble S.n S1.w with
    | false => rfl
    | true => exact absurd (Nat.le_of_ble_eq_true e) h
  rw [this]
  simp
theorem leave_int (S : Store) (i : Int) : leave S (.int i) S.fr = .ok (.int i) S := leave0 rfl rfl
theorem leave_bl (S : Store) (i : Bool) : leave S (.bl i) S.fr = .ok (.bl i) S := leave0 rfl rfl
theorem leave_str (S : Store) (i : PySem.Str) : leave S (.str i) S.fr = .ok (.str i) S := leave0 rfl rfl
theorem leave_non (S : Store) : leave S .non S.fr = .ok .non S := leave0 rfl rfl
end QD

/-! QDM: sum of a list; a display of a dict with text keys; a static method called with keywords. -/
namespace QD
open PySem PySem.Spec PyProof.Rows L2
section
variable {X : Cx} {L : Pl} {G : Gd} {cf : Nat → List D → Store → Res D}
theorem intsD_v {K : PySem.W.Frag} {H : Hp} {ρ : Nat → Addr} {n : Nat} : ∀ {l : List D} {bs : List Int} {vs : List V}, intsD l = some bs → RpL K L H ρ n l vs → vs = bs.map V.int
  | [], bs, vs, h, r => by cases h; exact r
  | x :: t, bs, vs, h, r => by
    obtain ⟨v, u, rfl, h1, h2⟩ := r
    cases x with
    | int b =>
      obtain ⟨cs, h3, rfl⟩ := Option.map_eq_some_iff.mp (show (intsD t).map (b :: ·) = some bs from h)
      cases (show v = .int b from h1)
      rw [intsD_v h3 h2]
      rfl
    | _ => cases h
theorem bl_sum : ∀ (ρ : Nat → Addr) (S : Store) (H : Hp) (ds : List D) (vs : List V) (d : D) (S' : Store) (Q : VK), Rel X.K L H ρ S → RpL X.K L H ρ S.n ds vs → evBl G S .sum1 ds = .ok d S' → (∀ ρ' H' v, Nx X.K L S H ρ S' H' ρ' → Rp X.K L H' ρ' S'.n d v → Q v H') →
    rSum X.K vs H Q := by
  intro ρ S H ds vs d S' Q r p h k
  cases ds with
  | nil => cases h
  | cons x t =>
    cases t with
    | cons _ _ => cases x <;> cases h
    | nil =>
      obtain ⟨v, rfl, px⟩ := rp1 p
      cases x with
      | ref i =>
        obtain ⟨_, rfl⟩ := (show i < S.n ∧ v = .ref (ρ i) from px)
        have h1 : (match S.get i with | some (.lst _ l) => Res.of ((intsD l).map fun bs => .int bs.sum) S | _ => .stuck) = Res.ok d S' := h
        split at h1
        · rename_i w l e
          obtain ⟨h2, rfl⟩ := Res.of_ok h1
          obtain ⟨bs, h3, rfl⟩ := Option.map_eq_some_iff.mp h2
          obtain ⟨us, s, q⟩ := cell_lst r e
          cases intsD_v h3 q
          exact ⟨_, bs, rfl, s, k ρ H _ (Nx.refl r) rfl⟩
        · cases h1
      | _ => cases h
theorem si_sum1 {e : Expr} {p pos : Pos} {cs : Cs} (hc : X.calm = true) (hg : Gl X "sum") (hm : X.mg "sum" = none) (ha : SimA X L G cf [e] cs) (he : starEach [e] X.env = (false, eval e X.env) :: starEach [] X.env := by rfl) (hpl : (backTo pos (starEach [] X.env)).any (·.1) = false := by rfl) : Sim X L G cf (.Call (.Name "sum" p) [e] [] pos) (.blt .sum1 cs) :=
  si_blt (.inl ⟨_, rfl, by rfl⟩) (bl_of (cr_sum hc) bl_sum (no_b rfl)) hg hm ha (by decide) (by decide) he hpl

/-! ### a display -/
inductive SimD (X : Cx) (L : Pl) (G : Gd) (cf : Nat → List D → Store → Res D) : List (Option Expr) → List Expr → List Str → Cs → List (TE × TE) → Prop
  | nil : SimD X L G cf [] [] [] .nil []
  | cons {k k' : Str} {j : Nat} {p : Pos} {e : Expr} {c : C} {ks : List (Option Expr)} {es : List Expr} {kk : List Str} {cs : Cs} {trs : List (TE × TE)} (hk : k = k') (h : Sim X L G cf e c) (r : SimD X L G cf ks es kk cs trs) :
      SimD X L G cf (some (.Constant (.str k) j p) :: ks) (e :: es) (k' :: kk) (.cons c cs) ((tC (.str k), wE X e) :: trs)
theorem SimD.pps {pos : Pos} {ks : List (Option Expr)} {es : List Expr} {kk : List Str} {cs : Cs} {trs : List (TE × TE)} (h : SimD X L G cf ks es kk cs trs) : PPs X pos ks es trs := by
  induction h with
  | nil => exact pps_nil
  | cons hk h r ih => exact pps_cons pe_str (pE _) ih
theorem SimD.len {ks : List (Option Expr)} {es : List Expr} {kk : List Str} {cs : Cs} {trs : List (TE × TE)} (h : SimD X L G cf ks es kk cs trs) : ks.all (·.isSome) = true ∧ ks.length = es.length ∧ ks.length = kk.length := by
  induction h with
  | nil => exact ⟨rfl, rfl, rfl⟩
  | cons hk h r ih => exact ⟨by simp [ih.1], by simp [ih.2.1], by simp [ih.2.2]⟩
/-- the values, with their keys -/
def RpK2 (K : PySem.W.Frag) (L : Pl) (H : Hp) (ρ : Nat → Addr) (n : Nat) (kk : List Str) (ds : List D) (ps : List (V × V)) : Prop := ∃ vs : List V, RpL K L H ρ n ds vs ∧ kk.length = vs.length ∧ ps = (kk.zip vs).map fun q => (V.str q.1, q.2)
theorem SimD.run {ks : List (Option Expr)} {es : List Expr} {kk : List Str} {cs : Cs} {trs : List (TE × TE)} (h : SimD X L G cf ks es kk cs trs) : ∀ (W : WX) (_ : Takes X W) (ρ : Nat → Addr) (σd : Sl) (σ : L2.St) (S : Store) (H : Hp) (Q : List (V × V) → Hp → Prop), Rel X.K L H ρ S → RX X L G H ρ S.n σd σ →
    (evCs cf G cs σd S).Good (fun ds S' => ∀ ρ' H' ps, Nx X.K L S H ρ S' H' ρ' → RpK2 X.K L H' ρ' S'.n kk ds ps → Q ps H') (kX X.K L S H ρ (WE W σ)) → tPairs trs σ H Q := by
  induction h with
  | nil =>
    intro W tk ρ σd σ S H Q r rs h
    exact h ρ H [] (Nx.refl r) ⟨[], RpL.nil, rfl, rfl⟩
  | @cons k k' j p e c ks es kk cs trs hk h0 r0 ih =>
    subst hk
    intro W tk ρ σd σ S H Q r rs h
    have h := Res.good_bind (r := evC cf G c σd S) h
    refine h0.run W tk ρ σd σ S H _ r rs (h.imp (fun d S1 g ρ1 H1 v n p => ?_) fun _ _ _ k => k)
    have g := Res.good_bind (r := evCs cf G cs σd S1) g
    refine ih W tk ρ1 σd σ S1 H1 _ n.r (n.rs rs) (g.imp (fun ds S2 gg ρ2 H2 ps n2 q => ?_) fun _ _ _ k => k.at n)
    obtain ⟨vs, q1, q2, rfl⟩ := q
    exact gg ρ2 H2 _ (n.trans n2) ⟨v :: vs, RpL.cons (n2.rp p) q1, by simp [q2], rfl⟩
theorem pairsD_some : ∀ {kk : List Str} {ds : List D} {ps : List (Key × D)}, pairsD kk ds = some ps → kk.Nodup ∧ kk.length = ds.length ∧ ps = (kk.zip ds).map fun q => (Sum.inr q.1, q.2)
  | [], [], ps, h => by cases h; exact ⟨List.nodup_nil, rfl, rfl⟩
  | [], _ :: _, _, h => by cases h
  | _ :: _, [], _, h => by cases h
  | k :: kk, d :: ds, ps, h => by
    have h1 : (if kk.contains k then none else (pairsD kk ds).map ((Sum.inr k, d) :: ·)) = some ps := h
    split at h1
    · cases h1
    · rename_i hn
      obtain ⟨qs, e, rfl⟩ := Option.map_eq_some_iff.mp h1
      obtain ⟨a, b, rfl⟩ := pairsD_some e
      exact ⟨List.nodup_cons.mpr ⟨fun m => hn (List.contains_iff_mem.mpr m), a⟩, by simp [b], rfl⟩
theorem merge_new : ∀ (kk : List Str) (vs : List V) (acc : List (Key × V)), kk.Nodup → (∀ k ∈ kk, ∀ p ∈ acc, p.1 ≠ Sum.inr k) → mergeK acc ((kk.zip vs).map fun q => (Sum.inr q.1, q.2)) = acc ++ (kk.zip vs).map fun q => (Sum.inr q.1, q.2)
  | [], vs, acc, _, _ => by simp [mergeK]
  | _ :: _, [], acc, _, _ => by simp [mergeK]
  | k :: kk, v :: vs, acc, hn, ha => by
    have e : putK acc (Sum.inr k) v = acc ++ [(Sum.inr k, v)] := by
      unfold putK
      rw [if_neg]
      intro h
      obtain ⟨p, hp, hd⟩ := List.any_eq_true.mp h
      exact ha k (List.mem_cons_self ..) p hp (of_decide_eq_true hd)
    show mergeK (putK acc (Sum.inr k) v) ((kk.zip vs).map fun q => (Sum.inr q.1, q.2)) = _
    rw [e, merge_new kk vs _ (List.nodup_cons.mp hn).2 fun k' hk' p hp => ?_]
    · simp
    · rcases List.mem_append.mp hp with hp | hp
      · exact ha k' (List.mem_cons_of_mem _ hk') p hp
      · rw [List.mem_singleton] at hp
        subst hp
        intro q
        cases q
        exact (List.nodup_cons.mp hn).1 hk'
theorem rpk_zip {K : PySem.W.Frag} {H : Hp} {ρ : Nat → Addr} {n : Nat} : ∀ (kk : List Str) (ds : List D) (vs : List V), RpL K L H ρ n ds vs → RpK K L H ρ n ((kk.zip ds).map fun q => (Sum.inr q.1, q.2)) ((kk.zip vs).map fun q => (Sum.inr q.1, q.2))
  | [], _, _, _ => rfl
  | _ :: _, [], vs, h => by cases (show vs = [] from h); rfl
  | k :: kk, d :: ds, vs, h => by
    obtain ⟨v, r, rfl, h1, h2⟩ := (show ∃ v r, vs = v :: r ∧ Rp K L H ρ n d v ∧ RpL K L H ρ n ds r from h)
    exact ⟨v, _, rfl, h1, rpk_zip kk ds r h2⟩
/-- a new dict stands as it is -/
theorem pe_fre {e : Expr} {t : TE} (h : PE X e t) : PE X e (fun σ H Q => t σ H fun v H1 => ∃ a u, v = .ref a ∧ H1 a = some u ∧ Mut (some u) ∧ ∀ od, Q v (upd H1 a (.frz od u))) := by
  refine ⟨fun pins s σ H Q I hw => thn (h.run pins s σ H _ I hw) fun v s1 ⟨x, H1, I1, r, a, u, ex, hu, mu, q⟩ => ?_⟩
  obtain ⟨od, I2⟩ := I1.lock hu mu
  exact ⟨x, _, I2, r, q od⟩
theorem upd_upd {H : Hp} {p : Addr} {a b : HO} : upd (upd H p a) p b = upd H p b := by
  funext q
  by_cases e : q = p
  · subst e; rw [upd_same, upd_same]
  · rw [upd_ne e, upd_ne e, upd_ne e]
theorem isE0_ok {o : Option Cell} (h : isE0 o = true) : o = some (.dbl []) := by
  unfold isE0 at h
  split at h
  · rfl
  · cases h
theorem si_dsp {ks : List (Option Expr)} {es : List Expr} {kk : List Str} {cs : Cs} {trs : List (TE × TE)} {pos : Pos} (h : SimD X L G cf ks es kk cs trs) (h0 : ks ≠ []) (h15 : ks.length ≤ 15) : Sim X L G cf (.Dict ks es pos) (.dsp kk cs) := by
  obtain ⟨l1, l2, l3⟩ := h.len
  refine ⟨fun W tk ρ σd σ S H Q r rs g => ?_⟩
  have g := Res.good_bind (r := evCs cf G cs σd (S.push (.dbl []))) g
  refine ofE (pe_fre (pe_disp h.pps l1 l2 h0 h15)) fun p hp => ?_
  have n1 := r.push (o := .dK []) (c := .dbl []) hp ⟨[], upd_same, rfl⟩
  refine h.run W tk _ σd σ _ _ _ n1.r (n1.rs rs) (g.imp (fun ds S1 gg ρ2 H2 ps n2 q => ?_) fun _ _ _ k => k.at n1)
  split at gg
  · rename_i he
    have hg := isE0_ok he
    obtain ⟨qs, e3, g4⟩ := Res.good_of (Res.good_bind gg)
    split at g4
    · rename_i hl
      obtain ⟨vs, q1, q2, rfl⟩ := q
      obtain ⟨nd, len, rfl⟩ := pairsD_some e3
      have hlt : S.n < S1.n := Store.lt hg
      have e5 : ρ2 S.n = p := by
        rw [n2.a S.n (Nat.lt_succ_self _), more_new]
      obtain ⟨us, h2, h3⟩ := n2.r.cell S.n _ hg
      cases (show us = [] from h3)
      rw [e5] at h2
      have e6 : ((kk.zip vs).map fun q => (V.str q.1, q.2)) = (((kk.zip vs).map fun q => ((Sum.inr q.1 : Key), q.2)).map fun kv => (L2.kV kv.1, kv.2)) := by
        rw [List.map_map]
        rfl
      refine ⟨h2, (kk.zip vs).map fun q => (Sum.inr q.1, q.2), e6, ?_, ?_⟩
      · rw [List.length_map, List.length_zip, ← q2, Nat.min_self]
        omega
      · rw [merge_new kk vs [] nd (fun _ _ p hp => nomatch hp), List.nil_append]
        refine ⟨p, _, rfl, upd_same, True.intro, fun od => ?_⟩
        have md : (Cell.dbl []).mut := True.intro
        have n3 := n2.r.wr (i := S.n) (o := .frz od (.dK ((kk.zip vs).map fun q => (Sum.inr q.1, q.2)))) (c := .dct ((kk.zip ds).map fun q => (Sum.inr q.1, q.2))) hg md (by
          rw [e5]
          have m : TM H2 (upd H2 p (.frz od (.dK ((kk.zip vs).map fun q => (Sum.inr q.1, q.2))))) := TM.wr h2 fun z => z
          exact ⟨_, _, upd_same, rpk_zip kk ds vs (q1.mono m (Agree.refl _ _) (Nat.le_refl _))⟩)
        rw [e5] at n3
        rw [upd_upd]
        refine g4 ρ2 _ (.ref p) ((n1.trans n2).trans n3) ⟨by rw [Store.set_n]; exact hlt, by rw [e5]⟩
    · exact g4.elim
  · exact gg.elim

/-! ### a static method with keywords -/
structure StcK (X : Cx) (L : Pl) (cf : Nat → List D → Store → Res D) (x m : Str) (f n : Nat) (ks : List Str) (sh : List Src) : Prop where
  ex : ∃ (c k : Nat) (fa p : Addr) (fd : FuncData) (ps : List Str) (j : Nat) (g : List Value → List Value → List Value) (gV : List V → List V → List V) (mc : Value) (rest : List Value), FnAt X L cf f k fa fd ps j ∧ X.mg x = some (.ref (L.cla c)) ∧
    PySem.W.specialIn X.K (.ref (L.cla c)) "__getattribute__" = some (some (.builtin "type.__getattribute__")) ∧ PySem.W.typeIn X.K (.ref (L.cla c)) = some mc ∧ PySem.W.readsIn X.K (L.cla c) mc = true ∧
    PySem.W.findCls X.K (.ref (L.cla c)) mc m = some (.get (.builtin "staticmethod.__get__") (.ref p) .none (.ref (L.cla c))) ∧ PySem.W.recIn X.K p "staticmethod" = some (.ref fa :: rest) ∧ PySem.W.handedIn (.ref fa) = true ∧
    PySem.W.keepIn X.K (.ref fa) = true ∧ KBn X.K fd ps n ks g gV ∧
    ∀ as es vs zs H ρ m, RpL X.K L H ρ m as vs → RpL X.K L H ρ m es zs → as.length = n → es.length = ks.length → (gV vs zs).length = k ∧ ∃ bs, srcs (as ++ es) sh = some bs ∧ RpL X.K L H ρ m bs (gV vs zs)
theorem StcK.blk {s : Shared} {H : Hp} {sc : Scope} {e : Env} {fp : List Addr} {x m : Str} {f n : Nat} {ks : List Str} {sh : List Src} (h : StcK X L cf x m f n ks sh) : StcK (X.blk s H sc e fp) L cf x m f n ks sh := by
  obtain ⟨c, k, fa, p, fd, ps, j, g, gV, mc, rest, F, h⟩ := h.ex
  exact ⟨⟨c, k, fa, p, fd, ps, j, g, gV, mc, rest, F.blk, h⟩⟩
theorem si_stcK {x m : Str} {f : Nat} {sh : List Src} {ks : List Str} {e : Expr} {es : List Expr} {kws : List Keyword} {p apos pos : Pos} {cs ck : Cs} {pl : Sem Bool} (hc : StcK X L cf x m f cs.len ks sh) (hg : Gl X x) (ha : SimA X L G cf (e :: es) cs) (hk : SimK X L G cf kws ck) (hck : ck.len = ks.length)
    (hall : (backToKw pos (keywordEach kws X.env)).all (·.1.isSome) = true := by rfl) (hks : (backToKw pos (keywordEach kws X.env)).filterMap (·.1) = ks := by rfl)
    (hdb : (x == ("__debug__" : Str)) = false := by decide) (he : starEach (e :: es) X.env = (false, eval e X.env) :: starEach es X.env := by rfl)
    (hpl : ((backTo pos (starEach (e :: es) X.env)).any (·.1) || (backToKw pos (keywordEach kws X.env)).any (·.1.isNone)) = false := by rfl)
    (ht : eval (.Call (.Attribute (.Name x p) m apos) (e :: es) kws pos) X.env = (do
      let ov ← eval (.Name x p) X.env
      standAt apos.atName
      let (f, first) ← holding [ov] (getMethod ov m pl)
      callWith pos f first (backTo pos (starEach (e :: es) X.env)) (backToKw pos (keywordEach kws X.env))) := by rfl) :
    Sim X L G cf (.Call (.Attribute (.Name x p) m apos) (e :: es) kws pos) (.stc f sh (cs.app ck)) := by
  refine ⟨fun W tk ρ σd σ S H Q r rs h => fun pins s I => ?_⟩
  have h := Res.good_bind (r := evCs cf G (cs.app ck) σd S) h
  rw [evCs_app] at h
  have h := good_len (Res.good_bind h)
  obtain ⟨c, kk, fa, pa, fd, ps, j, g, gV, mc, rest, F, hm, g1, g2, g3, g4, g5, g6, hkp, hb, hs⟩ := hc.ex
  obtain ⟨t2, pk, run⟩ := hk.run
  obtain ⟨mm, hF⟩ := I.fr
  refine PySem.W.methodCall_KW (pl := pl) (ld_glob I hg hm ?_ hdb) ht
  refine PySem.W.method_of_cls hF I.ok.mod.kin g1 (PySem.W.cls_sm hF I.ok.mod.kin g2 g3 g4 g5 g6 ?_)
  have J := I.tok (s.toks + 1)
  refine PySem.W.callWith_KW (h₀ := X.base) J.ok.mod.kin hkp hall (thn (ha.run W tk ρ σd σ S H (fun vs H1 => ∃ ρ1 S1 ds, Nx X.K L S H ρ S1 H1 ρ1 ∧ RpL X.K L H1 ρ1 S1.n ds vs ∧ ds.length = cs.len ∧ ((evCs cf G ck σd S1).bind fun ys S2 => .ok (ds ++ ys) S2).Good (fun ds S2 => ((Res.of (srcs ds sh) S2).bind fun as S3 => cf f as S3).Good (kV X.K L S H ρ Q) (kX X.K L S H ρ (WE W σ))) (kX X.K L S H ρ (WE W σ)))
    r rs (h.imp (fun ds S1 ⟨hlen, gg⟩ ρ' H' vs n q => ⟨ρ', S1, ds, n, q, hlen, gg⟩) fun _ _ _ k => k) pos pins _ J) fun us s1 ⟨vs, H1, I1, rv, ρ1, S1, ds, n, q, l1, gg⟩ => ?_) hpl he
  have gg := good_len (Res.good_bind gg)
  refine thn (pk.run pos pins s1 σ H1 (fun zs H2 => ∃ ρ2 S2 es, Nx X.K L S1 H1 ρ1 S2 H2 ρ2 ∧ RpL X.K L H2 ρ2 S2.n es zs ∧ es.length = ck.len ∧ ((Res.of (srcs (ds ++ es) sh) S2).bind fun as S3 => cf f as S3).Good (kV X.K L S H ρ Q) (kX X.K L S H ρ (WE W σ))) I1
    (run W tk ρ1 σd σ S1 H1 _ n.r (n.rs rs) (gg.imp (fun es S2 ⟨hlen, g3⟩ ρ' H' zs n2 q2 => ⟨ρ', S2, es, n2, q2, hlen, g3⟩) fun _ _ _ k => k.at n))) fun ws s2 ⟨zs, H2, I2, rz, ρ2, S2, es, n2, q2, l2, g3⟩ => ⟨I2.kIn, ?_⟩
  obtain ⟨as, e3, g4⟩ := Res.good_of (Res.good_bind g3)
  obtain ⟨hl, bs, e6, q3⟩ := hs ds es vs zs H2 ρ2 S2.n (n2.rpl q) q2 l1 (l2.trans hck)
  rw [e3] at e6
  cases e6
  rw [hks]
  have m1 : us.length = cs.len := by rw [← rv.length, ← q.length, l1]
  have m2 : ws.length = ks.length := by rw [← rz.length, ← q2.length, l2]; exact hck
  exact run_kw tk F.ok (F.room.mono (by omega)) I2 (hb.to s2 us ws I2.kIn m1 m2) (hb.rel rv rz) ⟨ρ2, S2, as, hl, n2.r, q3, g4.at (n.trans n2)⟩
end
section
variable {P : Program} {w : World} {K : PySem.W.Frag} {mg : Str → Option Value} {base : Heap} {l : Nat} {X : Cx} {L : Pl} {G : Gd} {T : List FJ}
theorem At.stcK (a : At P w K mg base l X) (AJ : AllJ P w K mg base L G T l) {g n c : Nat} {j : FJ} {fd : FuncData} {x m : Str} {ks : List Str} {sh : List Src} (hj : T[g]? = some j) (hF : IsAt K j.f fd) (hs0 : smB K (L.cla c) m = true) (hA : j.f.ad K = smAd K (L.cla c) m) (hm : mg x = some (.ref (L.cla c)))
    (hb : KBn K fd j.ps n ks (fun us ws => us ++ ws) (fun vs zs => vs ++ zs)) (hn : n + ks.length = j.ps.length) (hs : ∀ as es : List D, as.length = n → es.length = ks.length → srcs (as ++ es) sh = some (as ++ es)) (hl : j.lam = false := by rfl) : StcK X L (callN G (tabJ T) l) x m g n ks sh := by
  have F := a.fn AJ hj hl hF
  obtain ⟨mc, p, rest, s1, s2, s3, s4, s5, s6⟩ := sm_ok hs0
  obtain ⟨h1, h2, h3, h4, h5, h6, h7, h8⟩ := a
  subst h3 h4
  rw [← hA] at s5 s6
  exact ⟨⟨c, _, _, p, fd, _, _, _, _, mc, rest, F, hm, s1, s2, s3, s4, s5, s6, hF.kp, hb, fun as es vs zs H ρ m p q l1 l2 => ⟨by rw [List.length_append, ← p.length, ← q.length, l1, l2]; exact hn, _, hs as es l1 l2, p.append q⟩⟩⟩
end
end QD

/-! QDN: try and raise: what the head tells of own errors, the same surroundings within a try, suites. -/
namespace PySem.W
open PySem PySem.Spec PySem.Calls PyProof.Rows
section
variable {prog : Program} {w : World} {A : Around} {E : Value → Shared → Prop} {s : Shared} {K : Frag} {x D : Addr} {ox : Obj} {od : Option Obj}
theorem qd_dataN {C : Addr} {name : Str} {a g : Value} (hk : (clsIn K C).isSome = true) (wf : findIn K (.ref C) name = some (some a)) (hg : specialIn K a "__get__" = some (some g)) (ht : takesIn K a = some true) : findObj K C od name = some (.bind g a) := by
  obtain ⟨ce, hk⟩ := Option.isSome_iff_exists.mp hk
  unfold findObj
  rw [hk, Option.bind_some, wf, Option.bind_some]
  simp [hg, ht]
theorem qd_classE {Q : Option Value → Shared → Prop} (wa : findIn K (.ref D) "__getattribute__" = some (some (.builtin "BaseException.__getattribute__"))) (wb : findIn K (.ref D) "__getattr__" = some none) (wc : subIn K (.ref D) (.type "BaseException") = some true)
    (we : hasDictIn K D = true) (wf : findIn K (.ref D) "__class__" = some (some (.builtin "object.__class__")))
    (wg : specialIn K (.builtin "object.__class__") "__get__" = some (some (.builtin "getset_descriptor.__get__"))) (wh : takesIn K (.builtin "object.__class__") = some true) (wi : mroIn K D (.type "object") = some true)
    (X : K.In s.heap) (I : InstAt s.heap x ox D od) (h : Q (some (.ref D)) { s with toks := s.toks + 1 }) : wpAny (model prog w) A (getAttr? (.ref x) "__class__") Q E s := by
  have fo : findObj K D od "__class__" = some (.bind (.builtin "getset_descriptor.__get__") (.builtin "object.__class__")) := qd_dataN (by obtain ⟨ce, hk, _⟩ := any_some we; rw [hk]; rfl) wf wg wh
  obtain ⟨hq, g, d, t, os⟩ := s
  have K0 := I.type (M := model prog w)
  have K1 := looks_findIn (M := model prog w) X wa
  have K2 := looks_findIn (M := model prog w) X wb
  have K3 := looks_find (M := model prog w) X I fo
  have sb : Looks (model prog w) hq (isInstance (.ref x) (.type "BaseException")) true := K0.andThen (looks_subIn X wc)
  have y0 : (false && onTheHeap (Value.builtin "BaseException.__getattribute__")) = false := rfl
  have y2 : (Value.builtin "BaseException.__getattribute__" == Value.builtin "object.__getattribute__") = false := by decide +kernel
  have y1 : (onTheHeap (Value.ref D) && Value.builtin "BaseException.__getattribute__" == Value.builtin "object.__getattribute__") = false := by rw [y2]; rfl
  unfold getAttr? getAttrBy? getAttrBy
  refine wpAny_bind (wpAny_mkText (wpAny_bind (wpAny_attempt (wpAny_holding (wpAny_bind (K0.at (wpAny_bind (K1.at ?_))))))))
  show wpAny _ _ (if (onTheHeap (Value.ref D) && Value.builtin "BaseException.__getattribute__" == Value.builtin "object.__getattribute__") = true then _ else _) _ _ _
  rw [y1, if_neg Bool.false_ne_true]
  unfold getAttrByItsOwn hookBefore
  refine wpAny_bind ?_
  rw [if_pos (show onTheHeap (Value.ref D) = true from rfl)]
  refine K2.at ?_
  refine wpAny_bind (wpAny_attempt (wpAny_holding ?_))
  unfold callGetattribute
  rw [y0, if_neg Bool.false_ne_true]
  unfold boundAndCalled
  rw [PySem.F.excAttr_ValueError.ga.bind (.ref x)]
  refine wpAny_bind (wpAny_pure ?_)
  show wpAny _ _ (call (.builtin "BaseException.__getattribute__") [.ref x, .str "__class__" t]) _ _ _
  refine wpAny_call (codeAny_call_builtin PySem.F.excAttr_ValueError.ga.plain PySem.F.entry_bexc_ga ?_)
  refine @check_slot (model prog w) _ _ ⟨hq, g, d, t + 1, os⟩ "BaseException.__getattribute__" "BaseException" "__getattribute__" (.ref x) [.str "__class__" t] [] _ (by decide +kernel) (by decide +kernel) sb (PySem.F.args_bexc_ga (.ref x) (.str "__class__" t)) ?_
  unfold Builtin.«object.__getattribute__»
  refine wpAny_bind (wpAny_of_eq (a := ((Value.ref x : Value), [Value.str "__class__" t])) (by first | rfl | (simp only [slotArgs]; rfl)) ?_)
  refine wpAny_bind (wpAny_pure (wpAny_bind (K0.at (wpAny_bind (K3.at ?_)))))
  show wpAny _ _ (holding [Value.builtin "object.__class__"] (call (.builtin "getset_descriptor.__get__") [.builtin "object.__class__", .ref x, .ref D]) >>= ret) _ _ _
  refine wpAny_bind (wpAny_holding (wpAny_call (class_get (s := ⟨hq, g, d, t + 1, os⟩) (ox := ox) (od := od) X I wi ?_)))
  refine wpAny_pure ?_
  show wpAny _ _ (handedOut (.ref D)) _ _ _
  rw [handedOut_of (v := .ref D) rfl]
  first
    | exact wpAny_pure (wpAny_pure h)
    | exact wpAny_pure h
    | exact wpAny_pure (wpAny_bind (wpAny_pure (wpAny_pure h)))
theorem qd_kitx (wa : findIn K (.ref D) "__getattribute__" = some (some (.builtin "BaseException.__getattribute__"))) (wb : findIn K (.ref D) "__getattr__" = some none) (wc : subIn K (.ref D) (.type "BaseException") = some true) (we : hasDictIn K D = true) (wf : findIn K (.ref D) "__class__" = some (some (.builtin "object.__class__")))
    (wg : specialIn K (.builtin "object.__class__") "__get__" = some (some (.builtin "getset_descriptor.__get__"))) (wh : takesIn K (.builtin "object.__class__") = some true) (wi : mroIn K D (.type "object") = some true) :
    KitX K (.ref x) (.ref D) (fun h => InstAt h x ox D od) where
  ty := fun _ _ _ I => I.type
  it := fun _ _ X _ => by
    obtain ⟨cE, eE, _⟩ := any_some we
    unfold clsIn at eE
    split at eE
    · rename_i c1 d1 e1 sl1 ho
      intro A1 Q1 E1 s1 k q
      unfold isType loadHead
      exact wpAny_bind (wpAny_loadPart (k _ _ (X _ _ ho)) (wpAny_pure q))
    · cases eE
  ne := fun h tq dd its n sl X hq2 => by
    obtain ⟨cE, eE, _⟩ := any_some we
    refine Bool.eq_false_iff.mpr fun q => ?_
    have e : D = tq := Value.ref.inj (beq_iff_eq.mp q)
    subst e
    unfold clsIn at eE
    split at eE
    · rename_i c1 d1 e1 sl1 ho
      have z := (X _ _ ho).symm.trans hq2
      cases z
    · cases eE
  ca := fun X I k => qd_classE wa wb wc we wf wg wh wi X I k
end
end PySem.W
namespace L2
open PySem PySem.Spec PyProof.Rows
/-- isinstance(e, c), e the exception that the suite holds, with a dict of its own -/
theorem call_isEd {X : Cx} {a D dd : Addr} {oe : Obj} {pn : List (Addr × Obj)} {fs : List (Str × V)} (C : ExcC X.K D) (hz : Zc (.ref D) (some dd) oe) (hf : ∃ vs, oe.data = .fields vs) :
    CallR (X.suite a ((a, oe) :: pn)) (.builtin "isinstance") fun xs H Q => H dd = some (.xd fs) ∧ rIsE X.K D a xs H Q := by
  intro pins s σ H xs us Q I r h
  obtain ⟨hd, c, cv, b, rfl, hcv, e, q⟩ := h
  cases r with
  | cons rx rr =>
    cases rr with
    | cons rt rr =>
      cases rr
      cases rx
      have ec := hcv _ rt
      subst ec
      obtain ⟨hget, _⟩ := I.pin (a, oe) (List.mem_append.mpr (.inl List.mem_cons_self))
      obtain ⟨vs, hv⟩ := hf
      have hx : ObjOk X.prog X.w H s.heap dd (.xd fs) := I.hok dd _ hd
      obtain ⟨mA, hns, _⟩ := hx
      obtain ⟨od, ho, _⟩ := lookIn_ns hns
      have J : PySem.W.InstAt s.heap a oe D (some od) := ⟨hget, hz.1, by unfold PySem.W.notCls; rw [hv] <;> rfl, by rw [hz.2]; exact ho⟩
      exact PySem.W.kia_one (PySem.W.qd_kitx C.hg C.hk C.hs C.hd C.ha C.hn C.ht C.hm) I.kIn J e (fun z => nomatch z) fun tk => ⟨.bl b, H, I.kept (t' := tk) fun _ _ z => z, rfl, q⟩
end L2
namespace QD
open PySem PySem.Spec PyProof.Rows L2
/-! ### what the head tells of own errors -/
def excB (K : PySem.W.Frag) (C fI : Addr) : Bool := (match K.lookup C with
    | some ⟨.type "type", _, .cls cd, sl⟩ => (match cd.mro, sl.toList with
      | .ref C1 :: bm, [_, _, _, _, some (.builtin nw), _] => decide (C1 = C) && (!cd.hasDel && (cd.hasDict && PySem.ExcX.famB nw bm))
      | _, _ => false)
    | _ => false) &&
  ((decide (PySem.W.findIn K (.ref C) "__setattr__" = some (some (.builtin "object.__setattr__"))) && (decide (PySem.W.findIn K (.ref C) "__getattribute__" = some (some (.builtin "BaseException.__getattribute__"))) &&
    (decide (PySem.W.findIn K (.ref C) "__getattr__" = some none) && (decide (PySem.W.findIn K (.ref C) "value" = some none) && (decide (PySem.W.findIn K (.ref C) "__init__" = some (some (.ref fI))) && decide (PySem.W.typeIn K (.ref fI) = some (.type "function"))))))) &&
  ((PySem.W.keepIn K (.ref C) && (decide (PySem.W.subIn K (.ref C) (.type "BaseException") = some true) && (decide (PySem.W.typeIn K (.ref C) = some (.type "type")) && PySem.W.hasDictIn K C))) &&
    (decide (PySem.W.findIn K (.ref C) "__class__" = some (some (.builtin "object.__class__"))) && (decide (PySem.W.specialIn K (.builtin "object.__class__") "__get__" = some (some (.builtin "getset_descriptor.__get__"))) &&
      (decide (PySem.W.takesIn K (.builtin "object.__class__") = some true) && decide (PySem.W.mroIn K C (.type "object") = some true))))))
/-- what is asked of an own error's class where it is handled -/
structure ExOk (K : PySem.W.Frag) (C : Addr) : Prop where
  xf : XfC K C
  no : PySem.W.findIn K (.ref C) "value" = some none
  is : ExcC K C
theorem exc_ok {K : PySem.W.Frag} {C fI : Addr} (h : excB K C fI = true) : ExOk K C := by
  unfold excB at h
  simp only [Bool.and_eq_true, decide_eq_true_eq] at h
  obtain ⟨_, ⟨_, h2, h3, h4, _, _⟩, ⟨_, h6, _, h7⟩, h8, h9, h10, h11⟩ := h
  exact ⟨⟨h2, h3, h6, h7⟩, h4, ⟨h2, h3, h6, h7, h8, h9, h10, h11⟩⟩
theorem et_ok {K : PySem.W.Frag} {mg : Str → Option Value} {x : Str} {C fI : Addr} {qu : String} {fd : FuncData} {p1 p2 q1 q2 q3 q4 : Pos} (gC : mg x = some (.ref C)) (h : excB K C fI = true)
    (F : FunD K ("__init__" : Str) qu (PySem.ExcX.iA p1 p2) (PySem.ExcX.iB q1 q2 q3 q4) PySem.ExcX.iS [] [] fI fd) : PySem.ExcX.ETxt x qu K mg C fI := by
  unfold excB at h
  simp only [Bool.and_eq_true, decide_eq_true_eq] at h
  obtain ⟨h0, ⟨h1, h2, h3, h4, h5, h5'⟩, ⟨h6, h6a, h6b, h7⟩, h8, h9, h10, h11⟩ := h
  obtain ⟨oc, od, dV, kV, doc, pm, an, cdv, ct, osl, rfl, lk, hcd, hd, _⟩ := F.ex
  have hd' : dV = .none := by
    rcases hd with ⟨_, e⟩ | ⟨e, _⟩
    · exact e
    · exact absurd rfl e
  subst hd'
  refine ⟨gC, ?_, h1, h2, h3, h4, h5, h5', h6, h6a, h6b, h7, ⟨oc, od, kV, doc, pm, an, cdv, ct, osl, p1, p2, q1, q2, q3, q4, lk, hcd⟩⟩
  split at h0
  · rename_i dd cd sl ho
    split at h0
    · rename_i C1 bm k0 k1 k2 k3 nw k5 hm hs
      simp only [Bool.and_eq_true, decide_eq_true_eq, Bool.not_eq_true'] at h0
      obtain ⟨e1, e3, e4, e5⟩ := h0
      subst e1
      obtain ⟨nm, bs, mro, ns, qn, hdc, sn, sub, ab, col, del⟩ := cd
      dsimp only at hm e3 e4
      subst hm e3 e4
      obtain ⟨l⟩ := sl
      dsimp only at hs
      subst hs
      exact ⟨nm, qn, ns, bs, bm, sn, sub, ab, col, dd, k0, k1, k2, k3, k5, nw, ho, e5⟩
    · cases h0
  · cases h0
/-- exceptions' kinds, as a table: numbers from 900 on are built-in ones -/
def bxn : Nat → String
  | 900 => "ValueError" | 901 => "KeyError" | 902 => "OverflowError" | 903 => "RuntimeError" | 904 => "Exception" | _ => "TypeError"
def tvE (L : Pl) (e : Nat) : Value := if e < 900 then .ref (L.cla e) else .type (bxn e)
def xsOf (xt : List (Nat × Nat × Bool)) (c e : Nat) : Option Bool := (xt.find? fun t => t.1 == c && t.2.1 == e).map (·.2.2)
def xtB (K : PySem.W.Frag) (L : Pl) (t : Nat × Nat × Bool) : Bool := decide (PySem.W.kitOne K (.ref (L.cla t.1)) (tvE L t.2.1) = some t.2.2) && (if t.2.1 < 900 then decide (PySem.W.exmOne K (.ref (L.cla t.1)) (.ref (L.cla t.2.1)) = some t.2.2) else true)
theorem xs_mem {xt : List (Nat × Nat × Bool)} {c e : Nat} {k : Bool} (h : xsOf xt c e = some k) : (c, e, k) ∈ xt := by
  unfold xsOf at h
  obtain ⟨⟨a, b, d⟩, h1, h2⟩ := Option.map_eq_some_iff.mp h
  have m := List.mem_of_find?_eq_some h1
  have p := List.find?_some h1
  simp only [Bool.and_eq_true, beq_iff_eq] at p
  obtain ⟨p1, p2⟩ := p
  dsimp only at h2
  subst p1 p2 h2
  exact m
/-- the table is right -/
structure XtOk (X : Cx) (L : Pl) (xs : Nat → Nat → Option Bool) : Prop where
  kit : ∀ c e k, xs c e = some k → PySem.W.kitOne X.K (.ref (L.cla c)) (tvE L e) = some k
  exm : ∀ c e k, e < 900 → xs c e = some k → PySem.W.exmOne X.K (.ref (L.cla c)) (.ref (L.cla e)) = some k
  ok : ∀ c e k, xs c e = some k → ExOk X.K (L.cla c)
theorem xt_ok {X : Cx} {L : Pl} {xt : List (Nat × Nat × Bool)} (h : xt.all (xtB X.K L) = true) (o : ∀ t ∈ xt, ExOk X.K (L.cla t.1)) : XtOk X L (xsOf xt) := by
  have z : ∀ c e k, xsOf xt c e = some k → xtB X.K L (c, e, k) = true := fun c e k q => List.all_eq_true.mp h _ (xs_mem q)
  refine ⟨fun c e k q => ?_, fun c e k he q => ?_, fun c e k q => o _ (xs_mem q)⟩
  · exact of_decide_eq_true (Bool.and_eq_true_iff.mp (z c e k q)).1
  · have y := (Bool.and_eq_true_iff.mp (z c e k q)).2
    rw [if_pos he] at y
    exact of_decide_eq_true y
/-! ### the same surroundings within a try -/
section
variable {X : Cx} {L : Pl} {G : Gd} {cf : Nat → List D → Store → Res D} {pn : List (Addr × Obj)} {xe : Value → Shared → Prop}
theorem FnAt.tr {f k : Nat} {fa : Addr} {fd : FuncData} {ps : List Str} {j : Nat} (F : FnAt X L cf f k fa fd ps j) : FnAt (X.tr pn xe) L cf f k fa fd ps j := ⟨F.ok, F.room, F.ar⟩
theorem CallOk.tr {x : Str} {f n : Nat} {sh : List Src} (h : CallOk X L cf x f n sh) : CallOk (X.tr pn xe) L cf x f n sh := by
  obtain ⟨k, fa, fd, ps, j, ds, dvs, dl, F, h⟩ := h.ex
  exact ⟨⟨k, fa, fd, ps, j, ds, dvs, dl, F.tr, h⟩⟩
theorem CallK.tr {x : Str} {f n : Nat} {ks : List Str} {sh : List Src} (h : CallK X L cf x f n ks sh) : CallK (X.tr pn xe) L cf x f n ks sh := by
  obtain ⟨k, fa, fd, ps, j, g, gV, F, h⟩ := h.ex
  exact ⟨⟨k, fa, fd, ps, j, g, gV, F.tr, h⟩⟩
theorem MkOk.tr {x : Str} {c f n : Nat} {sh : List Src} (h : MkOk X L cf x c f n sh) : MkOk (X.tr pn xe) L cf x c f n sh := by
  obtain ⟨k, fa, fd, ps, j, ds, dvs, dl, F, h⟩ := h.ex
  exact ⟨⟨k, fa, fd, ps, j, ds, dvs, dl, F.tr, h⟩⟩
theorem MkK.tr {x : Str} {c f n : Nat} {ks : List Str} {sh : List Src} (h : MkK X L cf x c f n ks sh) : MkK (X.tr pn xe) L cf x c f n ks sh := by
  obtain ⟨k, fa, fd, ps, j, g, gV, F, h⟩ := h.ex
  exact ⟨⟨k, fa, fd, ps, j, g, gV, F.tr, h⟩⟩
theorem StcOk.tr {x m : Str} {f n : Nat} {sh : List Src} (h : StcOk X L cf x m f n sh) : StcOk (X.tr pn xe) L cf x m f n sh := by
  obtain ⟨c, k, fa, p, fd, ps, j, ds, dvs, dl, mc, rest, F, h⟩ := h.ex
  exact ⟨⟨c, k, fa, p, fd, ps, j, ds, dvs, dl, mc, rest, F.tr, h⟩⟩
theorem RaisOk.tr {x : Str} {c : Nat} (h : RaisOk X L x c) : RaisOk (X.tr pn xe) L x c := by
  obtain ⟨qu, fI, k, T, r⟩ := h.ex
  exact ⟨⟨qu, fI, k, T, r⟩⟩
theorem RaisOk.blk {s : Shared} {H : Hp} {sc : Scope} {e : Env} {fp : List Addr} {x : Str} {c : Nat} (h : RaisOk X L x c) : RaisOk (X.blk s H sc e fp) L x c := by
  obtain ⟨qu, fI, k, T, r⟩ := h.ex
  exact ⟨⟨qu, fI, k, T, r⟩⟩
theorem EnvOk.tr (E : EnvOk X L G cf) : EnvOk (X.tr pn xe) L G cf := by
  refine ⟨E.nd, E.hu, E.exn, fun c => ⟨fun f g h => ?_, fun m g hm => ?_, (E.cls c).fld, fun m g h => ?_⟩, fun i t h => ⟨(E.kd i t h).d, (E.kd i t h).at_⟩, fun c h => ?_, E.kbo, E.kob, E.koo⟩
  · obtain ⟨cl, p, fa, fd, ps, j, h1, F, h2⟩ := (E.cls c).prop f g h
    exact ⟨cl, p, fa, fd, ps, j, h1, F.tr, h2⟩
  · obtain ⟨cl, fa, fd, ps, j, k, h1, F, h2⟩ := (E.cls c).meth m g hm
    exact ⟨cl, fa, fd, ps, j, k, h1, F.tr, h2⟩
  · obtain ⟨O, cl, fa, fd, ps, j, k, h1, h3, F, h2⟩ := (E.cls c).op m g h
    exact ⟨⟨O.mro, O.sub, O.subR, O.obj, O.ne, O.bool, O.refl, O.inpl⟩, cl, fa, fd, ps, j, k, h1, h3, F.tr, h2⟩
  · have q := E.isi c h
    exact ⟨q.cls, q.ha, q.hn, q.htk, q.hm⟩
end
/-! ### suites of one statement -/
section
variable {X : Cx} {L : Pl} {G : Gd} {cf : Nat → List D → Store → Res D} {i : Nat} {a : Addr}
/-- an expression of a suite -/
structure SimX (X : Cx) (L : Pl) (G : Gd) (cf : Nat → List D → Store → Res D) (i : Nat) (a : Addr) (e : Expr) (c : C) : Prop where
  run : ∀ (W : WX) (_ : Takes X W) (ρ : Nat → Addr) (σd : Sl) (σ : L2.St) (S : Store) (H : Hp) (Q : VK), Rel X.K L H ρ S → RX X L G H ρ S.n σd σ → σ[i]? = some (some (.ref a)) → (evC cf G c σd S).Good (kV X.K L S H ρ Q) (kX X.K L S H ρ (WE W σ)) → wE X e σ H Q
structure SimXA (X : Cx) (L : Pl) (G : Gd) (cf : Nat → List D → Store → Res D) (i : Nat) (a : Addr) (es : List Expr) (cs : Cs) : Prop where
  run : ∀ (W : WX) (_ : Takes X W) (ρ : Nat → Addr) (σd : Sl) (σ : L2.St) (S : Store) (H : Hp) (Q : List V → Hp → Prop), Rel X.K L H ρ S → RX X L G H ρ S.n σd σ → σ[i]? = some (some (.ref a)) → (evCs cf G cs σd S).Good (kL X.K L S H ρ Q) (kX X.K L S H ρ (WE W σ)) → wA X es σ H Q
theorem sx_sim {e : Expr} {c : C} (h : Sim X L G cf e c) : SimX X L G cf i a e c := ⟨fun W tk ρ σd σ S H Q r rs _ g => h.run W tk ρ σd σ S H Q r rs g⟩
theorem sxa_nil : SimXA X L G cf i a [] .nil := ⟨fun W tk ρ σd σ S H Q r rs _ h => ofA pa_nil (h ρ H _ (Nx.refl r) RpL.nil)⟩
theorem sxa_cons {e : Expr} {es : List Expr} {c : C} {cs : Cs} (ha : SimX X L G cf i a e c) (hr : SimXA X L G cf i a es cs) (hs : starEach (e :: es) X.env = (false, eval e X.env) :: starEach es X.env := by rfl) : SimXA X L G cf i a (e :: es) (.cons c cs) := by
  refine ⟨fun W tk ρ σd σ S H Q r rs ri h => ?_⟩
  have h := Res.good_bind (r := evC cf G c σd S) h
  refine ofA (pa_cons (pE e) (pA es) hs) (ha.run W tk ρ σd σ S H _ r rs ri (h.imp (fun x S1 g ρ' H' v n p => ?_) fun _ _ _ k => k))
  refine hr.run W tk ρ' σd σ S1 H' _ n.r (n.rs rs) ri ((Res.good_bind g).imp (fun xs S2 k ρ2 H2 vs n2 p2 => ?_) fun _ _ _ k => k.at n)
  exact k ρ2 H2 _ (n.trans n2) (RpL.cons (n2.rp p) p2)
theorem sx_lst {es : List Expr} {cs : Cs} {pos : Pos} (ha : SimXA X L G cf i a es cs) : SimX X L G cf i a (.List es pos) (.lst cs) := by
  refine ⟨fun W tk ρ σd σ S H Q r rs ri h => ?_⟩
  have h := Res.good_bind (r := evCs cf G cs σd S) h
  refine ofE (pe_lst (pA es)) (ha.run W tk ρ σd σ S H _ r rs ri (h.imp (fun ds S1 g ρ' H' vs n p => ?_) fun _ _ _ k => k))
  split at g
  · rename_i hl
    refine ⟨by rw [← p.length]; exact hl, fun q hq => ?_⟩
    have n2 := n.r.push (o := .lst vs) (c := .lst true ds) hq ⟨vs, upd_same, p.mono (TM.new hq) more_agree (Nat.le_succ _)⟩
    exact g _ _ _ (n.trans n2) ⟨Nat.lt_succ_self _, by rw [more_new]⟩
  · exact g.elim
/-- held = [..] -/
theorem sst_set {j : Nat} {x : Str} {e : Expr} {c : C} {pos' pos : Pos} (hNd : X.N.Nodup) (hi : X.N[j]? = some x) (hx : Loc X.env.scope x) (hf : X.fn x = true ∨ X.env.scope.names.lookup x = some .local) (ha : SimX X L G cf i a e c) (hs : swapsWith e (some (.Name x pos')) pos.line X.env = pure false := by rfl) :
    SuiteAt X L G cf i a [.Assign [.Name x pos'] e pos] (.cons (.asg j c) .nil) := by
  refine ⟨fun W tk ρ σd σ S H f S' D r rs ri h k => ?_⟩
  obtain ⟨f1, S1, e1, h2⟩ := Res.bind_ok (show (exS cf G (.asg j c) σd S).bind (fun f S1 => match f with
    | .nx σ1 => exSs cf G .nil σ1 S1
    | f => .ok f S1) = .ok f S' from h)
  replace e1 := bx_good (r := evC cf G c σd S) e1
  have z : ∀ {D' : Ends}, FlK X.K L S H ρ W f1 S1 D' → wS X (.Assign [.Name x pos'] e pos) D' σ H := fun {D'} k' => ofS (ps_set hNd hi hx (pE e) hs hf) (ha.run W tk ρ σd σ S H _ r rs ri (e1.imp (fun d S2 g ρ' H' v n p => by
    cases g
    exact k' ρ' H' _ n ((n.rs rs).s.set j p)) (xc_k k' rs)))
  refine ofSs (pss_cons (pS _) (pSs [])) ?_
  cases f1 with
  | nx σ1 => cases h2; exact z fun ρ' H' σ' n rs' => ofSs pss_nil (k ρ' H' σ' n rs')
  | rt d => cases h2; exact z k
  | bk σ1 => cases h2; exact z k
  | ct σ1 => cases h2; exact z k
  | xc c d σ1 => cases h2; exact z k
end
section
variable {X : Cx} {L : Pl} {G : Gd} {cf : Nat → List D → Store → Res D} {i : Nat} {a : Addr} {oe : Obj} {pn : List (Addr × Obj)} {c d : Nat}
theorem sx_cell {σd : Sl} {σ : L2.St} {S : Store} {H : Hp} {ρ : Nat → Addr} (hG : G.exi = some (d, c)) (r : Rel X.K L H ρ S) (rs : RX (X.suite a ((a, oe) :: pn)) L G H ρ S.n σd σ) : oe.dict = some (ρ d) := (rs.e d c hG).2
/-- e.value -/
theorem sx_val {n : Str} {p pos : Pos} (T : ExOk X.K (L.cla c)) (hN : X.N[i]? = some n) (hv : Vis X.env.scope n) (hf : ∃ vs, oe.data = .fields vs) (hc : oe.cls = .ref (L.cla c)) (hG : G.exi = some (d, c)) (hd : (n == ("__debug__" : Str)) = false := by decide) (hcd : (n == ("__classdict__" : Str)) = false := by decide)
    (hb : attributeBase (.Name n p) "value" X.env (eval (.Name n p) X.env) = eval (.Name n p) X.env := by rfl) : SimX (X.suite a ((a, oe) :: pn)) L G cf i a (.Attribute (.Name n p) "value" pos) .xval := by
  refine ⟨fun W tk ρ σd σ S H Q r rs ri h => ?_⟩
  have hdd := sx_cell hG r rs
  have h1 : (match G.exi with
    | some (d, _) => (match S.get d with
      | some (.xd _ fs) => Res.of (fs.lookup ("value" : Str)) S
      | _ => .stuck)
    | none => .stuck).Good (kV X.K L S H ρ Q) (kX X.K L S H ρ (WE W σ)) := h
  rw [hG] at h1
  dsimp only at h1
  split at h1
  · rename_i c' fs eg
    obtain ⟨vs, e1, e2⟩ := r.cell d _ eg
    obtain ⟨x, e3, k⟩ := Res.good_of h1
    rcases RpF.look "value" e2 with ⟨z, _⟩ | ⟨x', v, z1, z2, p1⟩
    · rw [z] at e3
      cases e3
    · rw [z1] at e3
      cases e3
      exact ofE (pe_xf (X := X) (a := a) (oe := oe) (pn := pn) (d := oe.dict) (cls := oe.cls) T.xf T.no ⟨rfl, rfl⟩ hf (pe_var (X := X.suite a ((a, oe) :: pn)) hN hv hd hcd) hb) ⟨.ref a, ri, rfl, hc, ρ d, vs, v, hdd, e1, z2, k ρ H v (Nx.refl r) p1⟩
  · exact h1.elim
/-- isinstance(e, K) -/
theorem sx_isi {n : Str} {k : Expr} {p p1 pos : Pos} {t : Nat} {cv : V} (T : ExOk X.K (L.cla c)) (hN : X.N[i]? = some n) (hv : Vis X.env.scope n) (hf : ∃ vs, oe.data = .fields vs) (hc : oe.cls = .ref (L.cla c)) (hG : G.exi = some (d, c)) (hg : Gl X "isinstance") (hm : X.mg "isinstance" = none)
    (hk : PE (X.suite a ((a, oe) :: pn)) k (tC cv)) (hcv : ∀ w, RelV cv w → w = tvE L t) (hx : ∀ b, G.exs c t = some b → PySem.W.kitOne X.K (.ref (L.cla c)) (tvE L t) = some b) (hd : (n == ("__debug__" : Str)) = false := by decide) (hcd : (n == ("__classdict__" : Str)) = false := by decide)
    (he : starEach [.Name n p1, k] X.env = (false, eval (.Name n p1) X.env) :: starEach [k] X.env := by rfl) (he2 : starEach [k] X.env = (false, eval k X.env) :: starEach [] X.env := by rfl) (hpl : (backTo pos (starEach [k] X.env)).any (·.1) = false := by rfl) :
    SimX (X.suite a ((a, oe) :: pn)) L G cf i a (.Call (.Name "isinstance" p) [.Name n p1, k] [] pos) (.xisi [t]) := by
  refine ⟨fun W tk ρ σd σ S H Q r rs ri h => ?_⟩
  have hdd := sx_cell hG r rs
  have h1 : (match G.exi with
    | some (d, c) => (match S.get d with
      | some (.xd _ _) => Res.of ((exAny G c [t]).map D.bl) S
      | _ => .stuck)
    | none => .stuck).Good (kV X.K L S H ρ Q) (kX X.K L S H ρ (WE W σ)) := h
  rw [hG] at h1
  dsimp only at h1
  split at h1
  · rename_i c' fs eg
    obtain ⟨vs, e1, _⟩ := r.cell d _ eg
    obtain ⟨x, e3, kk⟩ := Res.good_of h1
    obtain ⟨b, e4, rfl⟩ := Option.map_eq_some_iff.mp e3
    have e5 : G.exs c t = some b := by
      have e6 : (match G.exs c t with
        | some true => some true
        | some false => some false
        | none => none) = some b := e4
      cases q : G.exs c t with
      | none => rw [q] at e6; cases e6
      | some b' => rw [q] at e6; cases b' <;> cases e6 <;> rfl
    exact ofE (pe_callB (call_isEd (X := X) (a := a) (pn := pn) T.is ⟨hc, hdd⟩ hf) hg hm (by rfl) (pa_cons (pe_var (X := X.suite a ((a, oe) :: pn)) hN hv hd hcd) (pa_cons hk pa_nil he2) he) (by decide) (by decide) he hpl) ⟨.ref a, ri, e1, cv, tvE L t, b, rfl, hcv, hx b e5, kk ρ H _ (Nx.refl r) rfl⟩
  · exact h1.elim
theorem sx_isiO {n kn : Str} {p p1 p2 pos : Pos} {t : Nat} (T : ExOk X.K (L.cla c)) (hN : X.N[i]? = some n) (hv : Vis X.env.scope n) (hf : ∃ vs, oe.data = .fields vs) (hc : oe.cls = .ref (L.cla c)) (hG : G.exi = some (d, c)) (hg : Gl X "isinstance") (hm : X.mg "isinstance" = none)
    (hg2 : Gl X kn) (hm2 : X.mg kn = some (.ref (L.cla t))) (ht : t < 900) (hx : ∀ b, G.exs c t = some b → PySem.W.kitOne X.K (.ref (L.cla c)) (tvE L t) = some b) (hd2 : (kn == ("__debug__" : Str)) = false := by decide) (hd : (n == ("__debug__" : Str)) = false := by decide) (hcd : (n == ("__classdict__" : Str)) = false := by decide)
    (he : starEach [.Name n p1, .Name kn p2] X.env = (false, eval (.Name n p1) X.env) :: starEach [.Name kn p2] X.env := by rfl) (he2 : starEach [.Name kn p2] X.env = (false, eval (.Name kn p2) X.env) :: starEach [] X.env := by rfl) (hpl : (backTo pos (starEach [.Name kn p2] X.env)).any (·.1) = false := by rfl) :
    SimX (X.suite a ((a, oe) :: pn)) L G cf i a (.Call (.Name "isinstance" p) [.Name n p1, .Name kn p2] [] pos) (.xisi [t]) :=
  sx_isi T hN hv hf hc hG hg hm (pe_glob (X := X.suite a ((a, oe) :: pn)) hg2 hm2 (v := .ref (L.cla t)) rfl hd2) (fun w h => by
    unfold tvE
    rw [if_pos ht]
    exact h) hx hd hcd he he2 hpl
theorem sx_isiB {n kn : Str} {p p1 p2 pos : Pos} {t : Nat} (T : ExOk X.K (L.cla c)) (hN : X.N[i]? = some n) (hv : Vis X.env.scope n) (hf : ∃ vs, oe.data = .fields vs) (hc : oe.cls = .ref (L.cla c)) (hG : G.exi = some (d, c)) (hg : Gl X "isinstance") (hm : X.mg "isinstance" = none)
    (hg2 : Gl X kn) (hm2 : X.mg kn = none) (hb2 : bootBuiltins kn = some (.type (bxn t))) (hn2 : kn ≠ "__name__") (ht : ¬ t < 900) (hx : ∀ b, G.exs c t = some b → PySem.W.kitOne X.K (.ref (L.cla c)) (tvE L t) = some b) (hd2 : (kn == ("__debug__" : Str)) = false := by decide) (hd : (n == ("__debug__" : Str)) = false := by decide) (hcd : (n == ("__classdict__" : Str)) = false := by decide)
    (he : starEach [.Name n p1, .Name kn p2] X.env = (false, eval (.Name n p1) X.env) :: starEach [.Name kn p2] X.env := by rfl) (he2 : starEach [.Name kn p2] X.env = (false, eval (.Name kn p2) X.env) :: starEach [] X.env := by rfl) (hpl : (backTo pos (starEach [.Name kn p2] X.env)).any (·.1) = false := by rfl) :
    SimX (X.suite a ((a, oe) :: pn)) L G cf i a (.Call (.Name "isinstance" p) [.Name n p1, .Name kn p2] [] pos) (.xisi [t]) :=
  sx_isi T hN hv hf hc hG hg hm (pe_bltn (X := X.suite a ((a, oe) :: pn)) hg2 hm2 hb2 (v := .ty (bxn t)) rfl hn2 hd2) (fun w h => by
    unfold tvE
    rw [if_neg ht]
    exact h) hx hd hcd he he2 hpl
end
end QD

/-! QDO: the empty dict display. -/
namespace QD
open PySem PySem.Spec PyProof.Rows L2
theorem set_same_get {S : Store} {b c : Cell} (i : Nat) : ((S.push b).set S.n c).get i = (S.push c).get i := by
  by_cases h : i = S.n
  · subst h
    rw [Store.get_set (Store.get_push (S := S) (c := b)), Store.get_push]
  · rw [Store.get_set_ne (Ne.symm h)]
    by_cases hl : i < S.n
    · rw [Store.get_old hl, Store.get_old hl]
    · unfold Store.get
      rw [if_neg (show ¬ i < (S.push b).n from by show ¬ i < S.n + 1; omega), if_neg (show ¬ i < (S.push c).n from by show ¬ i < S.n + 1; omega)]
section
variable {X : Cx} {L : Pl} {G : Gd} {cf : Nat → List D → Store → Res D}
theorem si_d0 {pos : Pos} : Sim X L G cf (.Dict [] [] pos) (.dsp [] .nil) := by
  refine ⟨fun W tk ρ σd σ S H Q r rs g => ofE (pe_fre pe_dnewK) fun p hp => ?_⟩
  refine ⟨p, _, rfl, upd_same, True.intro, fun od => ?_⟩
  rw [upd_upd]
  have n1 := r.push (o := .frz od (.dK [])) (c := .dct []) hp ⟨od, [], upd_same, rfl⟩
  have g2 : (if isE0 ((S.push (.dbl [])).get S.n) then (Res.of (pairsD [] []) (S.push (.dbl []))).bind fun ps S2 => if ps.length ≤ 15 then Res.ok (D.ref S.n) (S2.set S.n (.dct ps)) else .stuck else .stuck).Good (kV X.K L S H ρ Q) (kX X.K L S H ρ (WE W σ)) := g
  rw [Store.get_push] at g2
  have g3 : kV X.K L S H ρ Q (.ref S.n) ((S.push (.dbl [])).set S.n (.dct [])) := g2
  have hr : Rel X.K L (upd H p (.frz od (.dK []))) _ ((S.push (.dbl [])).set S.n (.dct [])) := ⟨fun i c h => by
      rw [Store.set_n]
      exact n1.r.cell i c (by rw [← set_same_get]; exact h), fun i j c d h1 h2 => n1.r.inj i j c d (by rw [← set_same_get]; exact h1) (by rw [← set_same_get]; exact h2), n1.r.tb, fun p hp ps pos c i d h1 h2 h3 => n1.r.tc p hp ps pos c i d h1 h2 (by rw [← set_same_get]; exact h3)⟩
  refine g3 _ _ _ ⟨by rw [Store.set_n]; exact n1.n, n1.a, n1.t, hr, Nat.le_trans Store.set_w n1.w, fun i h hi => by
      rw [set_same_get]
      exact n1.k i (Nat.lt_of_lt_of_le h Store.set_w) hi⟩ ⟨by rw [Store.set_n]; exact Nat.lt_succ_self _, by rw [more_new]⟩
end
end QD
namespace QD
open PySem PySem.Spec PyProof.Rows L2
/-! ### keyword-only defaults of any kind -/
def kwTB (K : PySem.W.Frag) (fa : Addr) (l : List (Str × D)) : Bool := match K.lookup fa with
  | some ⟨_, _, .func fd, _⟩ => (match fd.kwdefaults with
    | .ref a => l.all fun q => (match PySem.W.nsIn K a q.1 with
      | some (some u) => relD K q.2 u
      | _ => false)
    | _ => false)
  | _ => false
theorem kwt_vals {K : PySem.W.Frag} {L : Pl} {a : Addr} : ∀ {l : List (Str × D)}, (l.all fun q => (match PySem.W.nsIn K a q.1 with
      | some (some u) => relD K q.2 u
      | _ => false)) = true → ∃ vs : List V, vs.length = l.length ∧ (∀ q ∈ (l.map (·.1)).zip vs, ∃ u, PySem.W.nsIn K a q.1 = some (some u) ∧ RelV q.2 u) ∧ ∀ H ρ n, RpL K L H ρ n (l.map (·.2)) vs
  | [], _ => ⟨[], rfl, fun q h => absurd (show q ∈ ([] : List (Str × V)) from h) List.not_mem_nil, fun _ _ _ => RpL.nil⟩
  | q :: r, h => by
    obtain ⟨h1, h2⟩ := Bool.and_eq_true_iff.mp (show ((match PySem.W.nsIn K a q.1 with
      | some (some u) => relD K q.2 u
      | _ => false) && r.all _) = true from h)
    obtain ⟨vs, l1, l2, l3⟩ := kwt_vals (L := L) h2
    split at h1
    · rename_i u e
      obtain ⟨v, e1, e2⟩ := relD_ok (L := L) h1
      refine ⟨v :: vs, congrArg (· + 1) l1, fun p hp => ?_, fun H ρ n => RpL.cons (e2 H ρ n) (l3 H ρ n)⟩
      rcases List.mem_cons.mp (show p ∈ (q.1, v) :: (r.map (·.1)).zip vs from hp) with rfl | hp
      · exact ⟨u, e, e1⟩
      · exact l2 p hp
    · cases h1
theorem funD_kw {K : PySem.W.Frag} {L : Pl} {x qual : Str} {params : Arguments} {body : List Stmt} {scope : Scope} {dvs : List V} {f : Addr} {fd : FuncData} {l : List (Str × D)} (F : FunD K x qual params body scope dvs [] f fd) (h : kwTB K f l = true) :
    ∃ vs : List V, vs.length = l.length ∧ FunD K x qual params body scope dvs ((l.map (·.1)).zip vs) f fd ∧ ∀ H ρ n, RpL K L H ρ n (l.map (·.2)) vs := by
  obtain ⟨oc, od, dV, kV, doc, pm, an, cdv, ct, osl, rfl, lk, hcd, hD, _⟩ := F.ex
  unfold kwTB at h
  rw [lk] at h
  dsimp only [PySem.W.fnOf] at h
  split at h
  · rename_i a _
    obtain ⟨vs, l1, l2, l3⟩ := kwt_vals (L := L) h
    exact ⟨vs, l1, ⟨⟨oc, od, dV, _, doc, pm, an, cdv, ct, osl, rfl, lk, hcd, hD, .inr ⟨a, rfl, l2⟩⟩, F.kp⟩, l3⟩
  · cases h
end QD

/-! QDP: a lambda without parameters handed to a def that calls it. -/
namespace QD
open PySem PySem.Spec PyProof.Rows L2
/-! ### other names for the slots -/
abbrev reN (X : Cx) (N : List Str) : Cx := { X with N := N }
theorem Inv.re {X : Cx} {pins : List (Addr × Obj)} {σ σ' : L2.St} {H : Hp} {s : Shared} {N' : List Str} (I : Inv X pins σ H s) (hl : σ'.length = N'.length)
    (h : ∀ (i : Nat) (x : Str) (v : V), N'[i]? = some x → σ'[i]? = some (some v) → Vis X.env.scope x → ∃ j : Nat, X.N[j]? = some x ∧ σ[j]? = some (some v)) : Inv (reN X N') pins σ' H s := by
  have k := I.ok
  refine ⟨⟨k.mod, k.kind, k.glob, k.blt, k.above, k.inj, k.has, k.cab, k.hd, k.frames, k.stk, k.exf, k.bs, k.bsz, k.noex, k.exfs, k.funs, k.frf⟩, I.os, I.bare, I.base, ?_, I.cell, I.free, I.freeC, I.pin, I.hok, hl⟩
  obtain ⟨m, hn, hl2⟩ := I.loc
  refine ⟨m, hn, fun i x v e1 e2 e3 => ?_⟩
  obtain ⟨j, e4, e5⟩ := h i x v e1 e2 e3
  exact hl2 j x v e4 e5 e3
/-- no name of the list is seen -/
def unseenB (sc : Scope) (l : List Str) : Bool := l.all fun x => match sc.names.lookup x with
  | some .local => false
  | some .cell => false
  | some .free => false
  | _ => true
theorem unseen_ok {sc : Scope} {l : List Str} (h : unseenB sc l = true) : ∀ x ∈ l, ¬ Vis sc x := fun x hx v => by
  have z := List.all_eq_true.mp h x hx
  rcases v with v | v | v <;> (rw [v] at z; cases z)
section
variable {X : Cx} {pins : List (Addr × Obj)} {H : Hp} {s : Shared}
open LamX
/-- call(), in the def that got the lambda -/
theorem act_run {CXg : CXT} {Eg : XK} {Ng : List Str} {qg : Str} {sg : Scope} {g f c' : Addr} {cdg pm ctv : Value} {params : Arguments} {body : Expr} {scope : Scope} {k i : Nat} {a : Str} {pn : List (Addr × Obj)} {xe : Value → Shared → Prop} {W : WX} {p1 p2 : Pos} {σZ : L2.St} {HZ : Hp} {Q : VK}
    (I : Inv X pins σZ H s) (LS : LamS X.env.scope scope) (hf : s.heap.get? f = some (PySem.W.kla_obj "<lambda>" (X.env.qual ++ "<lambda>") params body scope (cloFrom X.env.cells scope.names []) pm c' ctv)) (hfn : H f = none) (hfr : f ∉ frs X.stack)
    (hbind : bindArgs (PySem.W.kla_fn "<lambda>" (X.env.qual ++ "<lambda>") params body scope (cloFrom X.env.cells scope.names []) pm (.ref c') ctv) ⟨[], []⟩ = pure [])
    (tk : Takes ((cxOf CXg X.prog X.w X.K X.mg X.base Ng qg sg g cdg X.A X.stack s H Eg).tr pn xe) W) (hr : Room (k + 1) (X.A.deeper (envOfC qg sg s.heap.objs.size g cdg)))
    (hN : Ng[i]? = some a) (hv : Vis sg a) (hs : σZ[i]? = some (some (.ref f))) (hc : HZ c' = some (CodeO c' (X.env.qual ++ "<lambda>")))
    (hbody : ∀ (A : Around) (outer : List Env) (s1 : Shared), Room k (A.deeper (lamEnv X scope s1.heap.objs.size f c')) → wE (lamCx X A outer s1 HZ (WE W σZ) scope f c') body σZ HZ Q)
    (hd : (a == ("__debug__" : Str)) = false := by decide) (hcd : (a == ("__classdict__" : Str)) = false := by decide) :
    wE ((cxOf CXg X.prog X.w X.K X.mg X.base Ng qg sg g cdg X.A X.stack s H Eg).tr pn xe) (.Call (.Name a p1) [] [] p2) σZ HZ Q := by
  intro pinsZ sZ IZ
  refine wpAny_Call_Name_kw (thn ((pe_var (pos := p1) (i := i) hN hv hd hcd).run pinsZ sZ σZ HZ (fun v H1 => v = .ref f ∧ H1 = HZ) IZ ⟨.ref f, hs, rfl, rfl⟩) fun u s1 ⟨v, H1, I1, r1, q1⟩ => ?_)
  obtain ⟨ev, eH⟩ := q1
  subst ev
  rw [eH] at I1
  obtain rfl : u = Value.ref f := r1
  have of1 : s1.heap.get? f = some (PySem.W.kla_obj "<lambda>" (X.env.qual ++ "<lambda>") params body scope (cloFrom X.env.cells scope.names []) pm c' ctv) := I1.base.keep f _ hf hfn hfr (fun z => nomatch (show f ∈ ([] : List Addr) from z))
  refine PySem.W.callWith_F0 ⟨_, _, _, _, of1⟩ ?_
  have un : L2.Un (frs X.stack) [] H HZ s.heap s1.heap := I1.base
  obtain ⟨⟨oc, vs, t, hoc, hdc, hvc⟩, _, _⟩ := I1.hok c' _ hc
  have rc : codeAny (model X.prog X.w) (X.A.deeper (envOfC qg sg s.heap.objs.size g cdg)) (.call (.ref f) ⟨[], []⟩) (CR (L2.CX X.prog X.w) (envOfC qg sg s.heap.objs.size g cdg :: X.stack) X.prog X.w HZ s1 Q (WE W σZ)) s1 := by
    refine PySem.W.kla_callFunE hr.depth of1 rfl LS.co LS.gen rfl ⟨c', oc, vs, t, rfl, hoc, hdc, hvc⟩ ?_
    rw [hbind]
    refine wpAny_pure (wpAny_newFunctionEnv (fun y hy => (LS.own y hy).2) (fun y hy => absurd hy (by simp)) (fun h₁ hns hsb => ⟨I1.nolimit.fresh _ hsb, ?_⟩) LS.kind)
    show codeAny _ _ (.expr body (lamEnv X scope s1.heap.objs.size f c')) _ _
    have kp : ∀ b o, s1.heap.get? b = some o → h₁.get? b = some o := fun b o e => hsb.extBut b o (Nat.ne_of_lt (Heap.lt_size e)) (Heap.get?_push_of_some _ e)
    have J : Inv (lamCx X (X.A.deeper (envOfC qg sg s.heap.objs.size g cdg)) (envOfC qg sg s.heap.objs.size g cdg :: X.stack) s1 HZ (WE W σZ) scope f c') [] σZ HZ { s1 with heap := h₁, toks := s1.toks + ([] : List (Str × Value)).length } :=
      lam_start2 I LS I1.env0 hr.hd un hns kp
    refine PySem.W.kla_codeExpr (wpAny_mono (hbody _ _ s1 (hr.deeper _) [] _ J) (fun v s' hq => ?_) fun e s' hq => hq)
    obtain ⟨w', H', J', rv, q⟩ := hq
    exact ⟨w', H', J'.os, J'.bare, J'.base, J'.hok, rv, q⟩
  refine wpAny_call (codeAny_mono rc fun r s' hq => ?_)
  cases r with
  | error e => exact L2.passAt tk σZ pinsZ HZ s1 e s' I1 hq
  | ok fl =>
    cases fl with
    | ret u => exact I1.after hq
    | next => exact False.elim hq
    | brk => exact False.elim hq
    | cont => exact False.elim hq
end

/-! ### statements under a fact of slots and heap -/
section
variable (X : Cx) (L : Pl) (G : Gd) (cf : Nat → List D → Store → Res D) (Kp : L2.St → Hp → Prop)
structure SimEK (e : Expr) (c : C) : Prop where
  run : ∀ (W : WX) (_ : Takes X W) (ρ : Nat → Addr) (σd : Sl) (σ : L2.St) (S : Store) (H : Hp) (Q : VK), Rel X.K L H ρ S → RX X L G H ρ S.n σd σ → Kp σ H → (evC cf G c σd S).Good (kV X.K L S H ρ Q) (kX X.K L S H ρ (WE W σ)) → wE X e σ H Q
structure SimSK (st : Stmt) (c : Stm) : Prop where
  run : ∀ (W : WX) (_ : Takes X W) (ρ : Nat → Addr) (σd : Sl) (σ : L2.St) (S : Store) (H : Hp) (f : Fl) (S' : Store) (D : Ends), Rel X.K L H ρ S → RX X L G H ρ S.n σd σ → Kp σ H → exS cf G c σd S = .ok f S' → FlK X.K L S H ρ W f S' D → wS X st D σ H
structure SimSsK (st : List Stmt) (c : Ss) : Prop where
  run : ∀ (W : WX) (_ : Takes X W) (ρ : Nat → Addr) (σd : Sl) (σ : L2.St) (S : Store) (H : Hp) (f : Fl) (S' : Store) (D : Ends), Rel X.K L H ρ S → RX X L G H ρ S.n σd σ → Kp σ H → exSs cf G c σd S = .ok f S' → FlK X.K L S H ρ W f S' D → wSs X st D σ H
end
section
variable {X : Cx} {L : Pl} {G : Gd} {cf : Nat → List D → Store → Res D} {Kp : L2.St → Hp → Prop} {pos pos' p2 : Pos}
theorem skk_cons {st : Stmt} {rest : List Stmt} {c : Stm} {cs : Ss} (h1 : SimSK X L G cf Kp st c) (h2 : SimSs X L G cf rest cs) : SimSsK X L G cf Kp (st :: rest) (.cons c cs) := by
  refine ⟨fun W tk ρ σd σ S H f S' D r rs hk h k => ?_⟩
  obtain ⟨f1, S1, e1, h3⟩ := Res.bind_ok (show (exS cf G c σd S).bind (fun f S1 => match f with
    | .nx σ1 => exSs cf G cs σ1 S1
    | f => .ok f S1) = .ok f S' from h)
  refine ofSs (pss_cons (pS st) (pSs rest)) ?_
  cases f1 with
  | nx σ1 => exact h1.run W tk ρ σd σ S H _ S1 _ r rs hk e1 fun ρ' H' σ' n rs' => h2.run W tk ρ' σ1 σ' S1 H' f S' D n.r ((n.rs rs).of rs') h3 (k.at n)
  | rt d => cases h3; exact h1.run W tk ρ σd σ S H _ _ _ r rs hk e1 k
  | bk σ1 => cases h3; exact h1.run W tk ρ σd σ S H _ _ _ r rs hk e1 k
  | ct σ1 => cases h3; exact h1.run W tk ρ σd σ S H _ _ _ r rs hk e1 k
  | xc c d σ1 => cases h3; exact h1.run W tk ρ σd σ S H _ _ _ r rs hk e1 k
/-- x = None ahead: the fact stays -/
theorem sk_setN {i : Nat} {x : Str} {j : Nat} {rest : List Stmt} {cs : Ss} (hK : ∀ σ H, Kp σ H → Kp (σ.set i (some .non)) H) (hNd : X.N.Nodup) (hi : X.N[i]? = some x) (hx : Loc X.env.scope x) (hf : X.fn x = true ∨ X.env.scope.names.lookup x = some .local) (h2 : SimSsK X L G cf Kp rest cs)
    (hs : swapsWith (.Constant .none j p2) (some (.Name x pos')) pos.line X.env = pure false := by rfl) : SimSsK X L G cf Kp (.Assign [.Name x pos'] (.Constant .none j p2) pos :: rest) (.cons (.asg i (.lit .non)) cs) := by
  refine ⟨fun W tk ρ σd σ S H f S' D r rs hk h k => ?_⟩
  have h3 : exSs cf G cs (σd.set i (some .non)) S = .ok f S' := h
  refine ofSs (pss_cons (pS _) (pSs rest)) (ofS (ps_set hNd hi hx pe_non hs hf) ?_)
  exact h2.run W tk ρ _ _ S H f S' D r (rs.of (rs.s.set i (d := .non) (v := .non) rfl)) (hK _ _ hk) h3 k
/-- x = e where e may use the fact -/
theorem sk_set1 {i : Nat} {x : Str} {e : Expr} {c : C} (hNd : X.N.Nodup) (hi : X.N[i]? = some x) (hx : Loc X.env.scope x) (hf : X.fn x = true ∨ X.env.scope.names.lookup x = some .local) (ha : SimEK X L G cf Kp e c) (hs : swapsWith e (some (.Name x pos')) pos.line X.env = pure false := by rfl) :
    SimSsK X L G cf Kp [.Assign [.Name x pos'] e pos] (.cons (.asg i c) .nil) := by
  refine ⟨fun W tk ρ σd σ S H f S' D r rs hk h k => ?_⟩
  obtain ⟨f1, S1, e1, h2⟩ := Res.bind_ok (show (exS cf G (.asg i c) σd S).bind (fun f S1 => match f with
    | .nx σ1 => exSs cf G .nil σ1 S1
    | f => .ok f S1) = .ok f S' from h)
  replace e1 := bx_good (r := evC cf G c σd S) e1
  have z : ∀ {D' : Ends}, FlK X.K L S H ρ W f1 S1 D' → wS X (.Assign [.Name x pos'] e pos) D' σ H := fun {D'} k' => ofS (ps_set hNd hi hx (pE e) hs hf) (ha.run W tk ρ σd σ S H _ r rs hk (e1.imp (fun d S2 g ρ' H' v n p => by
    cases g
    exact k' ρ' H' _ n ((n.rs rs).s.set i p)) (xc_k k' rs)))
  refine ofSs (pss_cons (pS _) (pSs [])) ?_
  cases f1 with
  | nx σ1 => cases h2; exact z fun ρ' H' σ' n rs' => ofSs pss_nil (k ρ' H' σ' n rs')
  | rt d => cases h2; exact z k
  | bk σ1 => cases h2; exact z k
  | ct σ1 => cases h2; exact z k
  | xc c d σ1 => cases h2; exact z k
theorem sk_try {body : List Stmt} {h0 : ExceptHandler} {hds : List ExceptHandler} {b : Ss} {hs : Hs} (hst : X.stack = X.env :: X.outer) (hf : X.env.frame = some X.env.locals) (hN : X.N.Nodup) (hx : G.exi = none)
    (hb : ∀ (pn : List (Addr × Obj)) (xe : Value → Shared → Prop), PassesOwn (model X.prog X.w) X.A X.env xe → SimSsK (X.tr pn xe) L G cf Kp body b) (hh : SimHs X L G cf (h0 :: hds) hs) : SimSK X L G cf Kp (.Try body (h0 :: hds) [] [] pos) (.tryX b hs) := by
  obtain ⟨l, cl, run⟩ := hs_run hh
  refine ⟨fun W tk ρ σd σ S H f S' DD r rs hk h k => ?_⟩
  obtain ⟨f1, S1, e1, h3⟩ := Res.bind_ok (show (exSs cf G b σd S).bind (fun f S1 => match f with
    | .xc c d σ1 => exHs cf c d G hs σ1 S1
    | f => .ok f S1) = .ok f S' from h)
  refine ofS (ps_tryN (tb := fun W' D σ H => ∀ pn xe, Takes (X.tr pn xe) W' → PassesOwn (model X.prog X.w) X.A X.env xe → wSs (X.tr pn xe) body D σ H) hst hf hN tk (fun W' pn xe tk' hp => ⟨fun pins s σ H D I q => q pn xe tk' hp pins s I⟩) cl) fun pn xe tk' hp => ?_
  refine (hb pn xe hp).run _ tk' ρ σd σ S H f1 S1 DD r (RX.blk hx rs.s) hk e1 ?_
  cases f1 with
  | nx σ1 => cases h3; exact k
  | rt d => cases h3; exact k
  | bk σ1 => cases h3; exact k
  | ct σ1 => cases h3; exact k
  | xc c d σ1 => exact run W DD S H ρ c d σ1 S1 f S' h3 k
end
/-! ### the call -/
theorem rs_pad {K : PySem.W.Frag} {L : Pl} {H : Hp} {ρ : Nat → Addr} {n : Nat} : ∀ {as : List D} {vs : List V}, RpL K L H ρ n as vs → ∀ l : List (Option V), RS K L H ρ n (as.map some ++ List.replicate l.length none) (vs.map some ++ l)
  | [], vs, h, l => by
    cases (show vs = [] from h)
    induction l with
    | nil => exact rfl
    | cons u l ih => exact ⟨u, l, rfl, fun d hd => (by cases hd), ih⟩
  | a :: as, vs, h, l => by
    obtain ⟨v, r, rfl, h1, h2⟩ := (show ∃ v r, vs = v :: r ∧ Rp K L H ρ n a v ∧ RpL K L H ρ n as r from h)
    exact ⟨some v, _, rfl, fun d hd => (by cases hd; exact ⟨v, rfl, h1⟩), rs_pad h2 l⟩
/-- what is known in the def that got the lambda: its slots ahead hold what the lambda captured, then the lambda -/
structure LK (f c' : Addr) (q : Str) (vs : List V) (σ : L2.St) (H : Hp) : Prop where
  f : σ[vs.length]? = some (some (.ref f))
  v : ∀ i, i < vs.length → σ[i]? = some vs[i]?
  c : H c' = some (LamX.CodeO c' q)
theorem LK.set {f c' : Addr} {q : Str} {vs : List V} {i : Nat} {u : Option V} (hi : vs.length < i) (σ : L2.St) (H : Hp) (h : LK f c' q vs σ H) : LK f c' q vs (σ.set i u) H :=
  ⟨by rw [List.getElem?_set_ne (by omega)]; exact h.f, fun j hj => by rw [List.getElem?_set_ne (by omega)]; exact h.v j hj, h.c⟩
section
open LamX
variable {X : Cx} {L : Pl} {G : Gd} {cf1 : Nat → List D → Store → Res D}
theorem lam_call {x a : Str} {g c P : Addr} {k : Nat} {pg : Arguments} {bg : List Stmt} {sg : Scope} {dV kVv doc pm cdv ct oc : Value} {an od : Option Addr} {osl : Array (Option Value)} {Ng dum ext ext2 caps : List Str} {params : Arguments} {body : Expr} {scope : Scope} {p lpos pos : Pos} {code : Ss} {ce : C}
    (hg : Gl X x) (hm : X.mg x = some (.ref g)) (hk : PySem.W.keepIn X.K (.ref g) = true)
    (lk : X.K.lookup g = some ⟨oc, od, .func (PySem.W.fnOf x x pg bg sg dV kVv doc pm an cdv ct), osl⟩) (hcg : PySem.W.codeIn X.K cdv x = true) (hb : L2.Binds X.K (PySem.W.fnOf x x pg bg sg dV kVv doc pm an cdv ct) [a] []) (Sg : FnScope Ng [a] sg) (hNg : Ng[0]? = some a) (hva : Vis sg a)
    (TB : TabB X.base X.mg c P) (hcode : X.env.code = .ref c) (hmT : (P, X.env.qual ++ "<lambda>") ∈ L.tbs) (hu : ∀ p ∈ L.tbs, p.1 = P → p.2 = X.env.qual ++ "<lambda>") (hr : Room (k + 2) X.A) (LS : LamS X.env.scope scope) (hdef : defaultsOf params X.env = ([], []))
    (hbind : ∀ (q : Str) (cl : List (Str × Addr)) (pm cv ctv : Value), bindArgs (PySem.W.kla_fn "<lambda>" q params body scope cl pm cv ctv) ⟨[], []⟩ = pure [])
    (hx : G.exi = none) (hdum : unseenB sg (dum ++ ext2) = true) (hext : unseenB X.env.scope ext = true) (hl1 : dum.length = caps.length) (hl2 : ext.length = Ng.length + ext2.length)
    (hbodyK : ∀ (A : Around) (outer : List Env) (s : Shared) (H : Hp) (E : XK) (Kp : L2.St → Hp → Prop), Room (k + 1) (A.deeper (envOfC x sg s.heap.objs.size g cdv)) → (∀ i, caps.length < i → ∀ u σ H, Kp σ H → Kp (σ.set i u) H) →
      (∀ pn xe p1 p2, PassesOwn (model X.prog X.w) (A.deeper (envOfC x sg s.heap.objs.size g cdv)) (envOfC x sg s.heap.objs.size g cdv) xe → SimEK ((cxOf (L2.CX X.prog X.w) X.prog X.w X.K X.mg X.base (dum ++ (Ng ++ ext2)) x sg g cdv A outer s H E).tr pn xe) L G cf1 Kp (.Call (.Name a p1) [] [] p2) ce) →
      SimSsK (cxOf (L2.CX X.prog X.w) X.prog X.w X.K X.mg X.base (dum ++ (Ng ++ ext2)) x sg g cdv A outer s H E) L G cf1 Kp bg code)
    (hlam : ∀ (A : Around) (outer : List Env) (s : Shared) (H : Hp) (E : XK) (f c' : Addr), Room k (A.deeper (lamEnv X scope s.heap.objs.size f c')) → Sim (lamCx (reN X (caps ++ ext)) A outer s H E scope f c') L G cf1 body ce)
    {W : WX} (tk : Takes X W) {ρ : Nat → Addr} {σd : Sl} {σ : L2.St} {S : Store} {H : Hp} {Q : VK} (r : Rel X.K L H ρ S) (rs : RX X L G H ρ S.n σd σ) {vals : List D} {vs : List V} (hvs : RpL X.K L H ρ S.n vals vs) (hlv : vs.length = caps.length)
    (hcap : ∀ (i : Nat) (y : Str), caps[i]? = some y → ∃ j : Nat, X.N[j]? = some y ∧ σ[j]? = some vs[i]?)
    {fl : Fl} {S1 : Store} (he : exSs cf1 G code (QD.start (dum ++ (Ng ++ ext2)).length vals) ⟨S.n, S.l, S.n⟩ = .ok fl S1)
    (hQ : ∀ ρ' H', Nx X.K L ⟨S.n, S.l, S.n⟩ H ρ S1 H' ρ' → (match fl with
      | .rt d => ∀ v, Rp X.K L H' ρ' S1.n d v → Q v H'
      | .nx _ => Q .non H'
      | .xc c d _ => WE W σ (.ref (L.cla c)) (some (ρ' d)) H'
      | _ => False))
    (hdb : (x == ("__debug__" : Str)) = false := by decide) (hd : (a == ("__debug__" : Str)) = false := by decide) (hcd : (a == ("__classdict__" : Str)) = false := by decide) :
    wE X (.Call (.Name x p) [.Lambda params body scope lpos] [] pos) σ H Q := by
  intro pins s I
  refine wpAny_Call_Name_kw (ld_glob I hg hm ?_ hdb)
  refine PySem.W.callWith_K (h₀ := X.base) I.ok.mod.kin hk ?_ (by rfl) (by rfl)
  show wpAny _ _ (spliced ((false, eval (.Lambda params body scope lpos) X.env) :: backTo pos (starEach [] X.env))) _ _ s
  refine Calls.spliced_cons (lam_make2 I TB hcode hmT hu r.tb hdef (LS.has I.ok) fun f c' pm' ctv H1 s' I1 eN T1 hf hfn hfr hco => ?_)
  refine Calls.spliced_nil ⟨I1.kIn, ?_⟩
  have tm : TM H H1 := fun b o e fx => eN b o e fun ps z => by
    rw [z] at fx
    exact fx
  have r1 : Rel X.K L H1 ρ S := by
    refine ⟨fun i c h => (r.cell i c h).mono tm (Agree.refl _ _) (Nat.le_refl _) fun m => ?_, r.inj, T1, fun q hq ps pos c i d h1 h2 h3 m z => ?_⟩
    · obtain ⟨o, e1, _, e2, _⟩ := r.mut_at2 h m
      rw [e1]
      exact eN _ _ e1 e2
    · obtain ⟨o, e1, _, e2, e3⟩ := r.mut_at2 h3 m
      obtain ⟨ps', e4, _, e5⟩ := T1 q hq
      rw [e4] at h1
      cases h1
      obtain ⟨c2, e6, e7⟩ := e5 pos _ h2
      cases e6
      have e8 := eN _ _ e1 e2
      rw [z, e7] at e8
      have e9 := Option.some.inj e8
      obtain ⟨⟨oc, vs', t, hoc, hdc, _⟩, _, _⟩ := I1.hok c _ e7
      obtain ⟨ob, e10, e11⟩ := e3 _ e9.symm s'.heap ⟨oc, vs', t, hoc, hdc, by assumption⟩
      rw [z, hoc] at e10
      cases e10
      exact e11 _ hdc
  have n1 : Nx X.K L S H ρ S H1 ρ := ⟨Nat.le_refl _, Agree.refl _ _, tm, r1, Nat.le_refl _, fun _ _ _ => rfl⟩
  have hl3 : vs.length = dum.length := by rw [hlv, hl1]
  have hlN : (caps ++ ext).length = (dum ++ (Ng ++ ext2)).length := by simp only [List.length_append]; omega
  obtain ⟨Ng2, hNg2⟩ : ∃ r, Ng = a :: r := by
    cases Ng with
    | nil => cases hNg
    | cons b r => cases hNg; exact ⟨r, rfl⟩
  have rc : codeAny (model X.prog X.w) X.A (.call (.ref g) ⟨[.ref f], []⟩) (CR (L2.CX X.prog X.w) X.stack X.prog X.w H1 s' Q (WE W σ)) s' := by
    refine run_ofS (CX := L2.CX X.prog X.w) (N := Ng) (ps := [a]) (us := [.ref f]) (vs := [.ref f]) lk hcg Sg hr I1.env0 (hb s' [.ref f] I1.kIn rfl) (.cons rfl .nil) rfl fun hr' => ?_
    refine ⟨_, pSs bg, ?_⟩
    intro pins2 s2 I2
    have hz : (L2.start Ng [V.ref f]) = some (.ref f) :: List.replicate Ng2.length none := by
      rw [hNg2]
      unfold L2.start
      simp
    have I3 : Inv (cxOf (L2.CX X.prog X.w) X.prog X.w X.K X.mg X.base (dum ++ (Ng ++ ext2)) x sg g cdv X.A X.stack s' H1 (WE W σ)) pins2 (vs.map some ++ (L2.start Ng [.ref f] ++ List.replicate ext2.length none)) H1 s2 := by
      refine Inv.re I2 ?_ fun i y v e1 e2 e3 => ?_
      · have := I2.len
        have e4 : (L2.start Ng [V.ref f]).length = Ng.length := this
        simp only [List.length_append, List.length_map, List.length_replicate, e4, hl3]
      · have ns := unseen_ok hdum
        have hl := I2.len
        have hl : (L2.start Ng [V.ref f]).length = Ng.length := hl
        by_cases hi : i < dum.length
        · rw [List.getElem?_append_left hi] at e1
          exact absurd e3 (ns y (List.mem_append_left _ (List.mem_of_getElem? e1)))
        · rw [List.getElem?_append_right (by omega)] at e1
          rw [List.getElem?_append_right (by rw [List.length_map]; omega), List.length_map, hl3] at e2
          by_cases hi2 : i - dum.length < Ng.length
          · rw [List.getElem?_append_left hi2] at e1
            rw [List.getElem?_append_left (by omega)] at e2
            exact ⟨_, e1, e2⟩
          · rw [List.getElem?_append_right (by omega)] at e1
            exact absurd e3 (ns y (List.mem_append_right _ (List.mem_of_getElem? e1)))
    have r0 : Rel X.K L H1 ρ ⟨S.n, S.l, S.n⟩ := ⟨r1.cell, r1.inj, r1.tb, r1.tc⟩
    have rs0 : RS X.K L H1 ρ S.n (QD.start (dum ++ (Ng ++ ext2)).length vals) (vs.map some ++ (L2.start Ng [.ref f] ++ List.replicate ext2.length none)) := by
      unfold QD.start
      have hv := n1.rpl hvs
      have e5 : (dum ++ (Ng ++ ext2)).length - vals.length = (L2.start Ng [V.ref f] ++ List.replicate ext2.length (none : Option V)).length := by
        have e4 : (L2.start Ng [V.ref f]).length = Ng.length := I2.len
        rw [hvs.length]
        simp only [List.length_append, List.length_replicate, e4]
        omega
      rw [e5]
      exact rs_pad hv _
    have hKp : LK f c' (X.env.qual ++ "<lambda>") vs (vs.map some ++ (L2.start Ng [.ref f] ++ List.replicate ext2.length none)) H1 := by
      refine ⟨?_, fun i hi => ?_, hco⟩
      · rw [List.getElem?_append_right (by simp), List.length_map, Nat.sub_self, hz]
        rfl
      · rw [List.getElem?_append_left (by simpa using hi), List.getElem?_map, List.getElem?_eq_getElem hi]
        rfl
    have run := (hbodyK X.A X.stack s' H1 (WE W σ) (LK f c' (X.env.qual ++ "<lambda>") vs) hr' (fun i hi u σ2 H2 q => LK.set (by omega) σ2 H2 q) fun pn xe p1 p2 hp => ⟨fun W2 tk2 ρ2 σd2 σ2 S2 H2 Q2 r2 rs2 hkp h2 => ?_⟩).run (fun cls d _ H => WE W σ cls d H) (takes_of rfl rfl rfl rfl) ρ _ _ ⟨S.n, S.l, S.n⟩ H1 fl S1 { nx := fun _ H' => Q .non H', rt := Q } r0 (RX.blk hx rs0) hKp he ?_ pins2 s2 I3
    · refine wpAny_mono run (fun fl2 s3 hq => ?_) fun e s3 hq => hq
      have back : ∀ {σ3 : L2.St} {H3 : Hp} {pins3 : List (Addr × Obj)}, Inv (cxOf (L2.CX X.prog X.w) X.prog X.w X.K X.mg X.base (dum ++ (Ng ++ ext2)) x sg g cdv X.A X.stack s' H1 (WE W σ)) pins3 σ3 H3 s3 → Inv (cxOf (L2.CX X.prog X.w) X.prog X.w X.K X.mg X.base Ng x sg g cdv X.A X.stack s' H1 (WE W σ)) pins3 ((σ3.drop dum.length).take Ng.length) H3 s3 := fun {σ3 H3 pins3} J => by
        have hl := J.len
        have hl : σ3.length = (dum ++ (Ng ++ ext2)).length := hl
        refine Inv.re J ?_ fun i y v e1 e2 e3 => ⟨dum.length + i, ?_, ?_⟩
        · simp only [List.length_append] at hl
          rw [List.length_take, List.length_drop]
          omega
        · have hi := (List.getElem?_eq_some_iff.mp e1).1
          show (dum ++ (Ng ++ ext2))[dum.length + i]? = some y
          rw [List.getElem?_append_right (by omega), List.getElem?_append_left (by omega), Nat.add_sub_cancel_left]
          exact e1
        · have hi := (List.getElem?_eq_some_iff.mp e1).1
          rw [List.getElem?_take_of_lt hi, List.getElem?_drop] at e2
          exact e2
      cases fl2 with
      | next =>
        obtain ⟨σ3, H3, J, q⟩ := hq
        exact ⟨_, H3, back J, q⟩
      | ret u =>
        obtain ⟨v, σ3, H3, J, rv, q⟩ := hq
        exact ⟨v, _, H3, back J, rv, q⟩
      | brk =>
        obtain ⟨σ3, H3, J, q⟩ := hq
        exact ⟨_, H3, back J, q⟩
      | cont =>
        obtain ⟨σ3, H3, J, q⟩ := hq
        exact ⟨_, H3, back J, q⟩
    · intro pinsZ sZ IZ
      have I4 : Inv (reN X (caps ++ ext)) pins σ2 H1 s' := by
        refine Inv.re I1 ?_ fun i y v e1 e2 e3 => ?_
        · have := IZ.len
          have e4 : σ2.length = (dum ++ (Ng ++ ext2)).length := this
          rw [e4, hlN]
        · by_cases hi : i < caps.length
          · rw [List.getElem?_append_left hi] at e1
            obtain ⟨j, e4, e5⟩ := hcap i y e1
            refine ⟨j, e4, ?_⟩
            rw [e5, ← hkp.v i (by omega), e2]
          · rw [List.getElem?_append_right (by omega)] at e1
            exact absurd e3 (unseen_ok hext y (List.mem_of_getElem? e1))
      have hNi : (dum ++ (Ng ++ ext2))[vs.length]? = some a := by
        rw [List.getElem?_append_right (by omega), hl3, Nat.sub_self, hNg2]
        rfl
      exact act_run (X := reN X (caps ++ ext)) I4 LS hf hfn hfr (hbind _ _ _ _ _) tk2 hr' hNi hva hkp.f hkp.c (fun A outer s1 hr3 => (hlam A outer s1 H2 (WE W2 σ2) f c' hr3).run (fun cls d _ H => WE W2 σ2 cls d H) (takes_of rfl rfl rfl rfl) ρ2 σd2 σ2 S2 H2 Q2 r2 (RX.blk hx rs2.s) h2) hd hcd pinsZ sZ IZ
    · have n0 : Nx X.K L ⟨S.n, S.l, S.n⟩ H ρ ⟨S.n, S.l, S.n⟩ H1 ρ := ⟨Nat.le_refl _, Agree.refl _ _, tm, r0, Nat.le_refl _, fun _ _ _ => rfl⟩
      cases fl with
      | rt d => exact fun ρ' H' v n q => hQ ρ' H' (n0.trans n) v q
      | nx σ3 => exact fun ρ' H' σ' n _ => hQ ρ' H' (n0.trans n)
      | xc c d σ3 => exact fun ρ' H' σ' n _ => hQ ρ' H' (n0.trans n)
      | bk σ3 => exact fun ρ' H' σ' n _ => (hQ ρ' H' (n0.trans n)).elim
      | ct σ3 => exact fun ρ' H' σ' n _ => (hQ ρ' H' (n0.trans n)).elim
  refine wpAny_call (codeAny_mono rc fun r s2 hq => ?_)
  cases r with
  | error e => exact L2.passAt tk σ pins H1 s' e s2 I1 hq
  | ok fl =>
    cases fl with
    | ret u => exact I1.after hq
    | next => exact False.elim hq
    | brk => exact False.elim hq
    | cont => exact False.elim hq
end
end QD

/-! QDQ: g(lambda: ..) as a call of a def made for this lambda; the head's tables. -/
namespace QD
open PySem PySem.Spec PyProof.Rows L2
/-- a def's run, one level down -/
def spec (cf1 : Nat → List D → Store → Res D) (G : Gd) (fn : Fn) (as : List D) (S : Store) : Res D := if as.length = fn.ar then (exSs cf1 G fn.body (QD.start fn.k as) ⟨S.n, S.l, S.n⟩).nox.bind fun r S1 => match r with
  | .rt d => leave S d S1
  | .nx _ => leave S .non S1
  | .xc c d _ => .ex c d (leaveX S S1)
  | _ => .stuck else .stuck
theorem callN_spec {G : Gd} {T : Nat → Option Fn} {l h : Nat} {fn : Fn} (e : T h = some fn) (as : List D) (S : Store) : callN G T (l + 1) h as S = spec (callN G T l) G fn as S := by
  show (match T h with
    | none => Res.stuck
    | some fn => if as.length = fn.ar then (exSs (callN G T l) G fn.body (start fn.k as) ⟨S.n, S.l, S.n⟩).nox.bind fun r S1 => match r with
      | .rt d => leave S d S1
      | .nx _ => leave S .non S1
      | .xc c d _ => .ex c d (leaveX S S1)
      | _ => .stuck else .stuck) = _
  rw [e]
  rfl
theorem mem_look {α : Type} {h : Nat} {fn : α} : ∀ {l : List (Nat × α)}, l.lookup h = some fn → (h, fn) ∈ l
  | [], e => by cases e
  | (k, x) :: r, e => by
    by_cases q : h = k
    · subst q
      have e2 : ((h, x) :: r).lookup h = some x := by simp [List.lookup]
      rw [e2] at e
      cases e
      exact List.mem_cons_self
    · have e2 : ((k, x) :: r).lookup h = r.lookup h := by
        simp only [List.lookup]
        have : (h == k) = false := by simpa using q
        rw [this]
      rw [e2] at e
      exact List.mem_cons_of_mem _ (mem_look e)
/-- Y is a body one level below X -/
structure LowCx (X Y : Cx) (j : Nat) : Prop where
  p : Y.prog = X.prog
  w : Y.w = X.w
  k : Y.K = X.K
  m : Y.mg = X.mg
  b : Y.base = X.base
  c : Y.calm = true
  n : Y.N.Nodup
  r : Room j Y.A
structure Low (X : Cx) (L : Pl) (G : Gd) (cf : Nat → List D → Store → Res D) (SP : Nat → Option Fn) (OK : Cx → (Nat → List D → Store → Res D) → Prop) : Prop where
  ex : (∀ f as S, cf f as S = .stuck) ∨ ∃ (cf1 : Nat → List D → Store → Res D) (k : Nat), (∀ h fn, SP h = some fn → ∀ as S, cf h as S = spec cf1 G fn as S) ∧ Room (k + 2) X.A ∧ ∀ Y, LowCx X Y k → OK Y cf1
/-- a def that makes lambdas -/
structure MkrOk (X : Cx) (L : Pl) : Prop where
  ex : ∃ c P, LamX.TabB X.base X.mg c P ∧ X.env.code = .ref c ∧ (P, X.env.qual ++ "<lambda>") ∈ L.tbs ∧ ∀ p ∈ L.tbs, p.1 = P → p.2 = X.env.qual ++ "<lambda>"
/-- a def of one parameter -/
structure GFn (X : Cx) (x a : Str) (Ng : List Str) (sg : Scope) (bg : List Stmt) : Prop where
  ex : ∃ (g : Addr) (fd : FuncData) (pg : Arguments) (dvs : List V) (kws : List (Str × V)), FunD X.K x x pg bg sg dvs kws g fd ∧ X.mg x = some (.ref g) ∧ L2.Binds X.K fd [a] [] ∧ FnScope Ng [a] sg
def varCs : List Nat → Cs
  | [] => .nil
  | i :: r => .cons (.var i) (varCs r)
def argS : Nat → Nat → List Src
  | _, 0 => []
  | k, n + 1 => .arg k :: argS (k + 1) n
theorem srcs_arg (vs : List D) : ∀ (n k : Nat), k + n = vs.length → srcs vs (argS k n) = some (vs.drop k)
  | 0, k, h => by
    rw [List.drop_eq_nil_of_le (by omega)]
    rfl
  | n + 1, k, h => by
    show (match vs[k]?, srcs vs (argS (k + 1) n) with | some d, some ds => some (d :: ds) | _, _ => none) = _
    rw [srcs_arg vs n (k + 1) (by omega), List.getElem?_eq_getElem (by omega : k < vs.length)]
    dsimp only
    rw [← List.drop_eq_getElem_cons]
section
variable {X : Cx} {L : Pl} {G : Gd} {cf : Nat → List D → Store → Res D}
theorem varCs_run {K : PySem.W.Frag} {H : Hp} {ρ : Nat → Addr} {n : Nat} {σd : Sl} {σ : L2.St} {S : Store} {x : Nat → Nat → Store → Prop} (rs : RS K L H ρ n σd σ) : ∀ {is : List Nat} {k : List D → Store → Prop}, (evCs cf G (varCs is) σd S).Good k x →
    ∃ (vals : List D) (vs : List V), RpL K L H ρ n vals vs ∧ vals.length = is.length ∧ (∀ i j : Nat, is[i]? = some j → σ[j]? = some vs[i]?) ∧ k vals S
  | [], k, h => ⟨[], [], RpL.nil, rfl, fun i j e => by simp at e, h⟩
  | i :: is, k, h => by
    have h1 := Res.good_bind (r := evC cf G (.var i) σd S) h
    have h2 : (match σd[i]? with | some (some d) => Res.ok d S | _ => .stuck).Good (fun d S1 => ((evCs cf G (varCs is) σd S1).bind fun ds S2 => .ok (d :: ds) S2).Good k x) x := h1
    split at h2
    · rename_i d e
      obtain ⟨v, e1, e2⟩ := rs.get e
      have h3 := Res.good_bind (r := evCs cf G (varCs is) σd S) h2
      obtain ⟨vals, vs, p, hl, hv, hk⟩ := varCs_run rs h3
      refine ⟨d :: vals, v :: vs, RpL.cons e2 p, by simp [hl], fun j t ej => ?_, hk⟩
      cases j with
      | zero =>
        simp at ej
        subst ej
        exact e1
      | succ j => exact hv j t (by simpa using ej)
    · exact h2.elim
open LamX
theorem si_lam {SP : Nat → Option Fn} {OK : Cx → (Nat → List D → Store → Res D) → Prop} {x a : Str} {Ng dum ext ext2 caps : List Str} {sg : Scope} {bg : List Stmt} {params : Arguments} {body : Expr} {scope : Scope} {p lpos pos : Pos} {h : Nat} {is : List Nat} {code : Ss} {ce : C}
    (LO : Low X L G cf SP OK) (MK : MkrOk X L) (GF : GFn X x a Ng sg bg) (hg : Gl X x) (hx : G.exi = none) (hSP : SP h = some ⟨dum.length, (dum ++ (Ng ++ ext2)).length, code⟩) (his : is.map (fun i => X.N[i]?) = caps.map some)
    (hdum : unseenB sg (dum ++ ext2) = true) (hext : unseenB X.env.scope ext = true) (hl1 : dum.length = caps.length) (hl2 : ext.length = Ng.length + ext2.length) (hnd1 : (dum ++ (Ng ++ ext2)).Nodup) (hnd2 : (caps ++ ext).Nodup) (hva : Vis sg a)
    (hbodyK : ∀ (cf1 : Nat → List D → Store → Res D) (g : Addr) (cdv : Value) (A : Around) (outer : List Env) (s : Shared) (H : Hp) (E : XK) (Kp : L2.St → Hp → Prop), OK (cxOf (L2.CX X.prog X.w) X.prog X.w X.K X.mg X.base (dum ++ (Ng ++ ext2)) x sg g cdv A outer s H E) cf1 → (∀ i, caps.length < i → ∀ u σ H, Kp σ H → Kp (σ.set i u) H) →
      (∀ pn xe p1 p2, PassesOwn (model X.prog X.w) (A.deeper (envOfC x sg s.heap.objs.size g cdv)) (envOfC x sg s.heap.objs.size g cdv) xe → SimEK ((cxOf (L2.CX X.prog X.w) X.prog X.w X.K X.mg X.base (dum ++ (Ng ++ ext2)) x sg g cdv A outer s H E).tr pn xe) L G cf1 Kp (.Call (.Name a p1) [] [] p2) ce) →
      SimSsK (cxOf (L2.CX X.prog X.w) X.prog X.w X.K X.mg X.base (dum ++ (Ng ++ ext2)) x sg g cdv A outer s H E) L G cf1 Kp bg code)
    (hlam : ∀ (A : Around) (outer : List Env) (s : Shared) (H : Hp) (E : XK) (f c' : Addr) (cf1 : Nat → List D → Store → Res D), OK (lamCx (reN X (caps ++ ext)) A outer s H E scope f c') cf1 → Sim (lamCx (reN X (caps ++ ext)) A outer s H E scope f c') L G cf1 body ce)
    (LS : LamS X.env.scope scope) (hdef : defaultsOf params X.env = ([], [])) (hbind : ∀ (q : Str) (cl : List (Str × Addr)) (pm cv ctv : Value), bindArgs (PySem.W.kla_fn "<lambda>" q params body scope cl pm cv ctv) ⟨[], []⟩ = pure [])
    (hdb : (x == ("__debug__" : Str)) = false := by decide) (hd : (a == ("__debug__" : Str)) = false := by decide) (hcd : (a == ("__classdict__" : Str)) = false := by decide) :
    Sim X L G cf (.Call (.Name x p) [.Lambda params body scope lpos] [] pos) (.call h (argS 0 is.length) (varCs is)) := by
  refine ⟨fun W tk ρ σd σ S H Q r rs hh => ?_⟩
  have hh := Res.good_bind (r := evCs cf G (varCs is) σd S) hh
  obtain ⟨vals, vs, pv, hlv, hvs, hk⟩ := varCs_run rs.s hh
  obtain ⟨as, e1, e2⟩ := Res.good_of (Res.good_bind hk)
  rw [← hlv, srcs_arg vals _ 0 (by omega)] at e1
  cases e1
  rw [List.drop_zero] at e2
  rcases LO.ex with hst | ⟨cf1, k, hcf, hroom, hok⟩
  · rw [hst] at e2
    exact e2.elim
  · rw [hcf h _ hSP] at e2
    unfold spec at e2
    dsimp only at e2
    split at e2
    · rename_i ha
      obtain ⟨fl, S1, e3, e4⟩ := nox_ok' (Res.good_bind e2)
      obtain ⟨c, P, TB, hcode, hmT, hu⟩ := MK.ex
      obtain ⟨g, fd, pg, dvs, kws, F, hm, hb, Sg⟩ := GF.ex
      obtain ⟨oc, od, dVv, kVv, doc, pm, an, cdv, ct, osl, rfl, lk, hcg, _, _⟩ := F.ex
      have hNg : Ng[0]? = some a := by
        have q := Sg.pre
        cases Ng with
        | nil => cases q
        | cons b l => cases q; rfl
      have hil : is.length = caps.length := by
        have q := congrArg List.length his
        simpa using q
      have lv : ∀ {d : QD.D} {ρ' : Nat → Addr} {H' : Hp} {v : V}, (leave S d S1).Good (QD.kV X.K L S H ρ Q) (kX X.K L S H ρ (WE W σ)) → Nx X.K L ⟨S.n, S.l, S.n⟩ H ρ S1 H' ρ' → Rp X.K L H' ρ' S1.n d v → Q v H' := by
        intro d ρ' H' v g n q
        cases ec : leave S d S1 with
        | ok d' S' =>
          rw [ec] at g
          exact leave_ok r n q ec g
        | ex c2 d2 S' => unfold leave at ec; split at ec <;> cases ec
        | stuck => rw [ec] at g; exact g.elim
      refine lam_call (k := k) (caps := caps) (code := code) (ce := ce) hg hm F.kp lk hcg hb Sg hNg hva TB hcode hmT hu hroom LS hdef hbind hx hdum hext hl1 hl2
        (fun A outer s H E Kp hr hset hact => hbodyK cf1 g cdv A outer s H E Kp (hok _ ⟨rfl, rfl, rfl, rfl, rfl, rfl, hnd1, hr.mono (Nat.le_succ _)⟩) hset hact)
        (fun A outer s H E f c' hr => hlam A outer s H E f c' cf1 (hok _ ⟨rfl, rfl, rfl, rfl, rfl, rfl, hnd2, hr⟩)) tk r rs pv (by rw [← pv.length, hlv, hil]) (fun i y hy => ?_) e3 (fun ρ' H' n => ?_) hdb hd hcd
      · have h1 : (is.map (fun i => X.N[i]?))[i]? = some (some y) := by rw [his, List.getElem?_map, hy]; rfl
        rw [List.getElem?_map] at h1
        cases hi : is[i]? with
        | none => rw [hi] at h1; cases h1
        | some j =>
          rw [hi] at h1
          exact ⟨j, Option.some.inj h1, hvs i j hi⟩
      · cases fl with
        | rt d => exact fun v q => lv e4 n q
        | nx σ2 => exact lv (d := .non) e4 n rfl
        | xc c d σ2 => exact e4 ρ' H' (leaveX_ok n)
        | bk _ => exact e4.elim
        | ct _ => exact e4.elim
    · exact e2.elim
end

/-! ### the head's tables -/
/-- the table of a code object -/
def tabP (K : PySem.W.Frag) (c : Value) : Addr := match c with
  | .ref c => (match K.lookup c with
    | some ⟨_, _, .fields vs, _⟩ => (match (vs[11]? : Option Value) with | some (.ref P) => P | _ => 0)
    | _ => 0)
  | _ => 0
def codA : Value → Addr
  | .ref c => c
  | _ => 0
/-- this function makes lambdas -/
def mkrB (K : PySem.W.Frag) (f : Addr) : Bool := match cdOf K f with
  | .ref c => PySem.W.codeHdIn K c (tabP K (.ref c))
  | _ => false
def csOf (K : PySem.W.Frag) (fs : List Addr) : List (Addr × Addr) := fs.map fun f => (codA (cdOf K f), tabP K (cdOf K f))
def tbU (l : List (Addr × Str)) : Bool := l.all fun p => l.all fun q => p.1 != q.1 || decide (p.2 = q.2)
theorem tbU_ok {l : List (Addr × Str)} (h : tbU l = true) {P : Addr} {q : Str} (m : (P, q) ∈ l) : ∀ p ∈ l, p.1 = P → p.2 = q := fun p hp e => by
  have z := List.all_eq_true.mp (List.all_eq_true.mp h p hp) (P, q) m
  rcases (Bool.or_eq_true _ _).mp z with z | z
  · rw [e] at z
    simp at z
  · exact of_decide_eq_true z
theorem mkrB_ok {K : PySem.W.Frag} {f : Addr} (h : mkrB K f = true) : cdOf K f = .ref (codA (cdOf K f)) ∧ PySem.W.codeHdIn K (codA (cdOf K f)) (tabP K (cdOf K f)) = true := by
  unfold mkrB at h
  split at h
  · rename_i c e
    rw [e]
    exact ⟨rfl, h⟩
  · cases h
theorem mkr_ok {P : Program} {w : World} {K : PySem.W.Frag} {mg : Str → Option Value} {base : Heap} {L : Pl} {N : List Str} {q : Str} {sc : Scope} {f : Addr} {A : Around} {outer : List Env} {s : Shared} {H : Hp} {E : XK} {cdv : Value}
    (hc : cdOf K f = cdv) (hT : LamX.TabB base mg (codA (cdOf K f)) (tabP K (cdOf K f))) (hb : mkrB K f = true) (hq : (tabP K (cdOf K f), (q ++ ".<locals>.") ++ "<lambda>") ∈ L.tbs) (hu : tbU L.tbs = true) : MkrOk (cxOf (L2.CX P w) P w K mg base N q sc f cdv A outer s H E) L := by
  subst hc
  exact ⟨⟨_, _, hT, (mkrB_ok hb).1, hq, tbU_ok hu hq⟩⟩
abbrev AlL : Type := AlP × List (Option Obj × Bool)
def obsL (fa : List He.Fa) (fn : List FD) (ts : List He.Tab) (ex : PySem.W.Frag → Bool) (mk : PySem.W.Frag → List Addr) (g : Addr → Option Obj) (K : PySem.W.Frag) : AlL := (obsP fa fn ts ex K, (csOf K (mk K)).map fun p => (g p.2, (K.lookup p.2).isNone))
def valL (fn : List FD) (ts : List He.Tab) (m : Nat) (w : World) : AlL := (valP fn ts w, List.replicate m (some { cls := .none, data := .fields #[] }, true))
def obsLG (n : Nat) (fa : List He.Fa) (fn : List FD) (ts : List He.Tab) (ex : PySem.W.Frag → Bool) (mk : PySem.W.Frag → List Addr) (g : Addr → Option Obj) : AlL := obsL fa fn ts ex mk g (He.frT g (cStatics :: asP g n [mainGlobals]))
def TabsSay (mk : PySem.W.Frag → List Addr) (h : Heap) (K : PySem.W.Frag) : Prop := ∀ p ∈ csOf K (mk K), h.get? p.2 = some { cls := .none, data := .fields #[] } ∧ K.lookup p.2 = none
def hookL (n : Nat) (fa : List He.Fa) (fn : List FD) (ts : List He.Tab) (ex : PySem.W.Frag → Bool) (mk : PySem.W.Frag → List Addr) (m : Nat) : PySem.W.Hook where
  α := AlL
  obs := fun s => obsLG n fa fn ts ex mk s.heap.get?
  val := fun w => valL fn ts m w
  says := fun w h => ∃ K : PySem.W.Frag, K.In h ∧ SaysP fa fn ts ex w K ∧ TabsSay mk h K
  of := fun w s e => by
    refine ⟨_, He.frT_in, congrArg Prod.fst e, fun p hp => ?_⟩
    have e2 : (csOf (He.frT s.heap.get? (cStatics :: asP s.heap.get? n [mainGlobals])) (mk (He.frT s.heap.get? (cStatics :: asP s.heap.get? n [mainGlobals])))).map (fun p => (s.heap.get? p.2, ((He.frT s.heap.get? (cStatics :: asP s.heap.get? n [mainGlobals])).lookup p.2).isNone)) = List.replicate m (some { cls := .none, data := .fields #[] }, true) := congrArg Prod.snd e
    have e3 := (List.mem_replicate.mp (show (s.heap.get? p.2, ((He.frT s.heap.get? (cStatics :: asP s.heap.get? n [mainGlobals])).lookup p.2).isNone) ∈ _ from by
      rw [← e2]
      exact List.mem_map.mpr ⟨p, hp, rfl⟩)).2
    have e4 := Prod.mk.inj e3
    exact ⟨e4.1, Option.isNone_iff_eq_none.mp e4.2⟩
  keeps := fun _ _ _ ⟨K, hK, c, t⟩ k => ⟨K, PySem.W.Frag.In.keeps hK k, c, fun p hp => ⟨k _ _ (t p hp).1, (t p hp).2⟩⟩
theorem obsLG_eq {n : Nat} {fa : List He.Fa} {fn : List FD} {ts : List He.Tab} {ex : PySem.W.Frag → Bool} {mk : PySem.W.Frag → List Addr} {m : Nat} {g : Addr → Option Obj} {s : Shared} (h : ∀ a, g a = s.heap.get? a) : obsLG n fa fn ts ex mk g = (hookL n fa fn ts ex mk m).obs s := by
  have e : g = s.heap.get? := funext h
  rw [e] <;> rfl
end QD

/-! QDR: turned round; three names at once. -/
namespace QD
open PySem PySem.Spec PyProof.Rows L2
theorem range_all {α : Type} : ∀ (l : List α), (List.range l.length).filterMap (fun i => l[i]?) = l := fun l => by
  have h := PySem.W.krv_all l.toArray
  simpa using h
theorem rev_pick (z : Str) (u : Tok) : Txt.sliceBy z none none (-1, u) = revS z := by
  have e : Builtin.Str.strSliceIndices none none (-1) z.length = (List.range z.length).reverse := by
    have h1 := PySem.W.krv_sliceRange z.length
    have h2 := PySem.W.krv_range z.length
    unfold Builtin.Str.strSliceIndices
    first
      | (rw [← h2, ← h1]; rfl)
      | (simp only [] <;> rw [← h2, ← h1] <;> rfl)
  unfold Txt.sliceBy
  rw [if_neg (by simp)]
  show (⟨((Builtin.Str.strSliceIndices none none (-1) z.length).filterMap (z.cps[·]?)).toArray⟩ : Str) = ⟨z.cps.toList.reverse.toArray⟩
  rw [e, List.filterMap_reverse, show z.length = z.cps.size from rfl, PySem.W.krv_all]
theorem rpl_rev {K : PySem.W.Frag} {L : Pl} {H : Hp} {ρ : Nat → Addr} {n : Nat} : ∀ {ds : List D} {vs : List V}, RpL K L H ρ n ds vs → RpL K L H ρ n ds.reverse vs.reverse
  | [], vs, h => by
    cases (show vs = [] from h)
    exact RpL.nil
  | d :: ds, vs, h => by
    obtain ⟨v, r, rfl, h1, h2⟩ := (show ∃ v r, vs = v :: r ∧ Rp K L H ρ n d v ∧ RpL K L H ρ n ds r from h)
    rw [List.reverse_cons, List.reverse_cons]
    exact (rpl_rev h2).append (RpL.cons h1 RpL.nil)
section
variable {X : Cx} {L : Pl} {G : Gd} {cf : Nat → List D → Store → Res D} {pos : Pos}
def tRevB (K : PySem.W.Frag) (te : TE) : TE := fun σ H Q => te σ H fun x H1 => (∃ a xs, x = .ref a ∧ SqL K H1 a xs ∧ ∀ p, H1 p = none → Q (.ref p) (upd H1 p (.lst xs.reverse))) ∨ ∃ z, x = .str z ∧ z.length ≤ sizeLine ∧ Q (.str (revS z)) H1
theorem pe_rev {e : Expr} {te : TE} {k : Nat} {p1 p2 p3 : Pos} (he : PE X e te) : PE X (.Subscript e (.Slice none none (some (.UnaryOp .USub (.Constant (.int 1) k p1) p2)) p3) pos) (tRevB X.K te) := by
  refine ⟨fun pins s σ H Q I h => ?_⟩
  refine Subscript_ (thn (he.run pins s σ H _ I h) fun v s1 ⟨x, H1, I1, r1, q1⟩ => ?_)
  have hst : PO X (some (.UnaryOp .USub (.Constant (.int 1) k p1) p2)) (tPart (tUn (rU fun i => .int (-i)) (tC (.int 1)))) := po_some (pe_un un_neg pe_int)
  refine wpAny_Slice (thn (po_none.run pins s1 σ H1 (fun o H2 => o = none ∧ H2 = H1) I1 ⟨rfl, rfl⟩) fun vl s2 ⟨l, H2, I2, pl, el, e2⟩ => ?_)
  subst el e2
  refine thn (po_none.run pins s2 σ H2 (fun o H3 => o = none ∧ H3 = H2) I2 ⟨rfl, rfl⟩) fun vu s3 ⟨u, H3, I3, pu, eu, e3⟩ => ?_
  subst eu e3
  refine thn (hst.run pins s3 σ H3 (fun o H4 => o = some (-1) ∧ H4 = H3) I3 ⟨1, rfl, -1, rfl, rfl, rfl⟩) fun vs s4 ⟨o, H4, I4, ps, eo, e4⟩ => ?_
  subst eo e4
  have I5 : Inv X pins σ H4 { s4 with heap := s4.heap.push { cls := .type "slice", data := .fields #[vl, vu, vs] } } := I4.kept (t' := s4.toks) fun b ob q => Heap.get?_push_of_some _ q
  rcases q1 with ⟨a, xs, ex, hx, q⟩ | ⟨z, ez, hz, q⟩
  · subst ex
    cases r1
    obtain ⟨its, r, ht, hz⟩ := I5.list hx
    have hlen := r.length
    refine tail_any (ops := [.ref a, .ref s4.heap.objs.size]) ht.isList.typeIs (PySem.slot_list_getitem.lookup) ?_ (by with_unfolding_all rfl)
    refine wpAny_getItem_list_slice ht.isList (Heap.IsSliceOf.new _ vl vu vs) pl pu ps (by decide) ?_ (by rw [List.size_toArray]; omega)
    rw [PySem.W.krv_pick]
    refine ⟨.ref _, _, I5.laid (t' := s4.toks) (o := .lst xs.reverse) (fun b ob q => Heap.get?_push_of_some _ q) (Nat.le_refl _) ?_, rfl, q _ (I5.hok.fresh (Nat.le_refl _))⟩
    exact ⟨by rw [List.length_reverse]; exact hz, _, 0, r.reverse, Heap.get?_push_size _ rfl⟩
  · subst ez
    obtain ⟨t, rfl⟩ := r1
    obtain ⟨l, rfl, el⟩ := IsPart.raw pl
    obtain ⟨u, rfl, eu⟩ := IsPart.raw pu
    obtain ⟨st, rfl, es⟩ := IsPart.raw ps
    cases l with
    | some l => cases el
    | none =>
      cases u with
      | some u => cases eu
      | none =>
        cases st with
        | none => cases es
        | some st =>
          obtain ⟨k0, uk⟩ := st
          cases es
          refine tail_any (ops := [.str z t, .ref s4.heap.objs.size]) (typeIs_str _ _ _) (F.slot_str_getitem.lookup) ?_ (by with_unfolding_all rfl)
          refine wpAny_getItem_str_slice (l := none) (u := none) (st := some (-1, uk)) ⟨_, Heap.get?_push_size _ rfl, rfl, rfl⟩ rfl ?_
          have e := rev_pick z uk
          unfold Txt.sliceBy at e
          rw [if_neg (by simp)] at e
          show Made.post (if ((-1 : Int) == 1 && (Builtin.Str.strSliceIndices none none (-1) z.length).length == z.length) = true then Made.val (.str z t) else Made.str ⟨((Builtin.Str.strSliceIndices none none (-1) z.length).filterMap (z.cps[·]?)).toArray⟩) (EP X pins σ Q) _
          rw [if_neg (by simp)]
          have hl : (revS z).length ≤ sizeLine := by
            show z.cps.toList.reverse.toArray.size ≤ sizeLine
            rw [List.size_toArray, List.length_reverse, Array.length_toList]
            exact hz
          refine ⟨?_, .str _, H4, I5.tok _, ⟨_, rfl⟩, ?_⟩
          · exact e ▸ hl
          · exact e ▸ q
theorem si_rev {e : Expr} {c : C} {k : Nat} {p1 p2 p3 : Pos} (ha : Sim X L G cf e c) : Sim X L G cf (.Subscript e (.Slice none none (some (.UnaryOp .USub (.Constant (.int 1) k p1) p2)) p3) pos) (.rev c) := by
  refine ⟨fun W tk ρ σd σ S H Q r rs h => ?_⟩
  have h := Res.good_bind (r := evC cf G c σd S) h
  refine ofE (pe_rev (pE e)) (ha.run W tk ρ σd σ S H _ r rs (h.imp (fun d S1 g ρ' H' v n p => ?_) fun _ _ _ k => k))
  unfold evRev at g
  split at g
  · rename_i i
    obtain ⟨hi, rfl⟩ := (show i < S1.n ∧ v = .ref (ρ' i) from p)
    split at g
    · rename_i w l e1
      have x := n.r.cell i _ e1
      obtain ⟨vs, hs, hl⟩ : ∃ vs, SqL X.K H' (ρ' i) vs ∧ RpL X.K L H' ρ' S1.n l vs := by
        cases w with
        | true => obtain ⟨vs, h1, h2⟩ := x; exact ⟨vs, SqL.of h1, h2⟩
        | false => obtain ⟨vs, h1, h2⟩ := x; exact ⟨vs, h1.sq, h2⟩
      refine .inl ⟨_, vs, rfl, hs, fun q hq => ?_⟩
      have n2 := n.r.push (o := .lst vs.reverse) (c := .lst true l.reverse) hq ⟨vs.reverse, upd_same, (rpl_rev hl).mono (TM.new hq) more_agree (Nat.le_succ _)⟩
      exact g _ _ _ (n.trans n2) ⟨Nat.lt_succ_self _, by rw [more_new]⟩
    · exact g.elim
  · rename_i z
    cases (show v = .str z from p)
    split at g
    · rename_i hz
      exact .inr ⟨z, rfl, hz, g ρ' H' _ n rfl⟩
    · exact g.elim
  · exact g.elim
/-- three names at once -/
theorem ss_par3 {i j l : Nat} {x y z : Str} {a b c : Expr} {cs : Cs} {px py pz pt pt2 : Pos} {kt k2 : Nat} (hc : X.calm = true) (hN : X.N.Nodup) (hi : X.N[i]? = some x) (hj : X.N[j]? = some y) (hl : X.N[l]? = some z) (hij : i ≠ j) (hil : i ≠ l) (hjl : j ≠ l)
    (hx : X.env.scope.names.lookup x = some .local) (hy : X.env.scope.names.lookup y = some .local) (hz : X.env.scope.names.lookup z = some .local) (ha : SimA X L G cf [a, b, c] cs)
    (hw : swappedStores [.Tuple [.Name x px, .Name y py, .Name z pz] kt pt] (.Tuple [a, b, c] k2 pt2) X.env = pure (some [x, y, z]))
    (hs : swapsWithSole [.Tuple [.Name x px, .Name y py, .Name z pz] kt pt] (.Tuple [a, b, c] k2 pt2) pos.line X.env = pure false := by rfl) :
    SimS X L G cf (.Assign [.Tuple [.Name x px, .Name y py, .Name z pz] kt pt] (.Tuple [a, b, c] k2 pt2) pos) (.asgT [i, j, l] (.tup cs)) := by
  refine ⟨fun W tk ρ σd σ S H f S' D r rs h k => ?_⟩
  have h := Res.good_bind (r := evCs cf G cs σd S) (bx_good (r := evC cf G (.tup cs) σd S) h)
  refine ofS (ps_par3 hc hN hi hj hl hij hil hjl hx hy hz (pA [a, b, c]) hw hs) (ha.run W tk ρ σd σ S H _ r rs (h.imp (fun ds S1 g ρ' H' vs n p => ?_) (xc_k k rs)))
  split at g
  · obtain ⟨σ1, S2, e2, h4⟩ := Res.bind_ok (show (Res.of (bindT S1 false [i, j, l] σd (.tup ds)) S1).bind (fun σ1 S2 => .ok (.nx σ1) S2) = .ok f S' from g)
    obtain ⟨e3, rfl⟩ := Res.of_ok e2
    cases h4
    match ds, e3, p with
    | [d1, d2, d3], e3, p =>
      cases e3
      obtain ⟨v1, r1, rfl, p1, p2⟩ := p
      obtain ⟨v2, r2, rfl, p2, p3⟩ := p2
      obtain ⟨v3, r3, rfl, p3, p4⟩ := p3
      cases (show r3 = [] from p4)
      exact ⟨v1, v2, v3, rfl, k ρ' H' _ n ((((n.rs rs).s.set i p1).set j p2).set l p3)⟩
    | [], e3, _ => cases e3
    | [_], e3, _ => cases e3
    | [_, _], e3, _ => cases e3
    | _ :: _ :: _ :: _ :: _, e3, _ => cases e3
  · exact g.elim
end
end QD

/-! QDS: split; replace of written texts (where a token is out). -/
namespace QD
open PySem PySem.Spec PyProof.Rows L2
section
variable {X : Cx} {L : Pl} {G : Gd} {cf : Nat → List D → Store → Res D}
theorem rpl_strs {K : PySem.W.Frag} {H : Hp} {ρ : Nat → Addr} {n : Nat} : ∀ ys : List Str, RpL K L H ρ n (ys.map D.str) (ys.map V.str)
  | [] => RpL.nil
  | _ :: r => RpL.cons rfl (rpl_strs r)
theorem si_split {o : Expr} {apos pos p : Pos} {j : Nat} {y y' : Str} {co : C} (hy : y = y') (ho : Sim X L G cf o co) (hs : starEach [.Constant (.str y) j p] X.env = [(false, eval (.Constant (.str y) j p) X.env)] := by rfl) (hbase : attributeBase o "split" X.env (eval o X.env) = eval o X.env := by rfl) (hline : (apos.endLine == pos.line) = true := by rfl) :
    Sim X L G cf (.Call (.Attribute o "split" apos) [.Constant (.str y) j p] [] pos) (.split co y') := by
  subst hy
  refine ⟨fun W tk ρ σd σ S H Q r rs h => ?_⟩
  have h := Res.good_bind (r := evC cf G co σd S) h
  refine ofE (pe_split (pE o) pe_str hs hbase hline) (ho.run W tk ρ σd σ S H _ r rs (h.imp (fun a S1 g ρ' H' v n q => ?_) fun _ _ _ k => k))
  split at g
  · rename_i x
    split at g
    · rename_i hc
      cases (show v = .str x from q)
      refine ⟨⟨x, rfl⟩, x, y, rfl, rfl, hc.1, hc.2, fun a ha => ?_⟩
      have n2 := n.r.push (c := .lst true ((Txt.split x y).map D.str)) ha ⟨_, upd_same, rpl_strs _⟩
      refine g _ _ _ (n.trans n2) ⟨Nat.lt_succ_self _, ?_⟩
      rw [more_new]
    · exact g.elim
  · exact g.elim

/-! ### a token is out -/
theorem tok_bin {M : Model} {A : Around} {env : Env} {Q : Value → Shared → Prop} {E : Value → Shared → Prop} {s : Shared} {x : Str} {j : Nat} {p pos : Pos} {op : Operator} {r : Expr} (h : wpAny M A (eval (.BinOp (.Constant (.str x) j p) op r pos) env) Q E s) :
    wpAny M A (eval (.BinOp (.Constant (.str x) j p) op r pos) env) (fun v s1 => 1 ≤ s1.toks ∧ Q v s1) E s := fun Γ q hΓ => by
  have h := h Γ q hΓ
  simp only [eval_BinOp, Sem.wp_bind', Sem.wp_holding, Sem.wp_cmd_standAt, Sem.wp_operate] at h ⊢
  have h1 : Sem.wp M Γ (eval r env) (fun y pos' sh' => Sem.wp M Γ (binaryOp op (.str x s.toks) y) (fun a _ s' => Q a s') (fun e _ s' => E e s') pos sh') (fun e _ s' => E e s') q { s with toks := s.toks + 1 } := h
  show Sem.wp M Γ (eval r env) (fun y pos' sh' => Sem.wp M Γ (binaryOp op (.str x s.toks) y) (fun a _ s' => 1 ≤ s'.toks ∧ Q a s') (fun e _ s' => E e s') pos sh') (fun e _ s' => E e s') q { s with toks := s.toks + 1 }
  refine Sem.wp_mono M Γ _ (fun y p1 s1 h2 => ?_) (fun _ _ _ h' => h'.2) _ _ (Sem.wp_toks M Γ 1 (eval r env) _ _ q { s with toks := s.toks + 1 } (Nat.succ_le_succ (Nat.zero_le _)) h1)
  exact Sem.wp_mono M Γ _ (fun _ _ _ h' => h') (fun _ _ _ h' => h'.2) _ _ (Sem.wp_toks M Γ 1 (binaryOp op (.str x s.toks) y) _ _ pos s1 h2.1 h2.2)
def wEK (X : Cx) (e : Expr) : TE := fun σ H Q => ∀ (pins : List (Addr × Obj)) (s : Shared), 1 ≤ s.toks → Inv X pins σ H s → wpAny (model X.prog X.w) X.A (eval e X.env) (EP X pins σ Q) X.xe s
def wAK (X : Cx) (es : List Expr) : TA := fun σ H Q => ∀ (pos : Pos) (pins : List (Addr × Obj)) (s : Shared), 1 ≤ s.toks → Inv X pins σ H s → wpAny (model X.prog X.w) X.A (spliced (backTo pos (starEach es X.env))) (AP X pins σ Q) X.xe s
structure SimK1 (X : Cx) (L : Pl) (G : Gd) (cf : Nat → List D → Store → Res D) (e : Expr) (c : C) : Prop where
  run : ∀ (W : WX) (_ : Takes X W) (ρ : Nat → Addr) (σd : Sl) (σ : L2.St) (S : Store) (H : Hp) (Q : VK), Rel X.K L H ρ S → RX X L G H ρ S.n σd σ → (evC cf G c σd S).Good (kV X.K L S H ρ Q) (kX X.K L S H ρ (WE W σ)) → wEK X e σ H Q
structure SimAK (X : Cx) (L : Pl) (G : Gd) (cf : Nat → List D → Store → Res D) (es : List Expr) (cs : Cs) : Prop where
  run : ∀ (W : WX) (_ : Takes X W) (ρ : Nat → Addr) (σd : Sl) (σ : L2.St) (S : Store) (H : Hp) (Q : List V → Hp → Prop), Rel X.K L H ρ S → RX X L G H ρ S.n σd σ → (evCs cf G cs σd S).Good (kL X.K L S H ρ Q) (kX X.K L S H ρ (WE W σ)) → wAK X es σ H Q
/-- its evaluation gives a token out -/
structure SimTk (X : Cx) (L : Pl) (G : Gd) (cf : Nat → List D → Store → Res D) (e : Expr) (c : C) : Prop where
  run : ∀ (W : WX) (_ : Takes X W) (ρ : Nat → Addr) (σd : Sl) (σ : L2.St) (S : Store) (H : Hp) (Q : VK), Rel X.K L H ρ S → RX X L G H ρ S.n σd σ → (evC cf G c σd S).Good (kV X.K L S H ρ Q) (kX X.K L S H ρ (WE W σ)) →
    ∀ (pins : List (Addr × Obj)) (s : Shared), Inv X pins σ H s → wpAny (model X.prog X.w) X.A (eval e X.env) (fun v s1 => 1 ≤ s1.toks ∧ EP X pins σ Q v s1) X.xe s
theorem sk1 {e : Expr} {c : C} (h : Sim X L G cf e c) : SimK1 X L G cf e c := ⟨fun W tk ρ σd σ S H Q r rs g pins s _ I => h.run W tk ρ σd σ S H Q r rs g pins s I⟩
theorem stk_bin {x : Str} {j : Nat} {p pos : Pos} {op : Operator} {e : Expr} {c : C} (h : Sim X L G cf (.BinOp (.Constant (.str x) j p) op e pos) c) : SimTk X L G cf (.BinOp (.Constant (.str x) j p) op e pos) c :=
  ⟨fun W tk ρ σd σ S H Q r rs g pins s I => tok_bin (h.run W tk ρ σd σ S H Q r rs g pins s I)⟩
theorem sak_nil : SimAK X L G cf [] .nil := ⟨fun W tk ρ σd σ S H Q r rs h pos pins s _ I => (sa_nil (X := X) (L := L) (G := G) (cf := cf)).run W tk ρ σd σ S H Q r rs h pos pins s I⟩
theorem sak_cons {e : Expr} {es : List Expr} {c : C} {cs : Cs} (ha : SimK1 X L G cf e c) (hr : SimAK X L G cf es cs) (hs : starEach (e :: es) X.env = (false, eval e X.env) :: starEach es X.env := by rfl) : SimAK X L G cf (e :: es) (.cons c cs) := by
  refine ⟨fun W tk ρ σd σ S H Q r rs h => ?_⟩
  have h := Res.good_bind (r := evC cf G c σd S) h
  have ge : wEK X e σ H fun v H1 => wAK X es σ H1 fun vs H2 => Q (v :: vs) H2 := ha.run W tk ρ σd σ S H _ r rs (h.imp (fun x S1 g ρ' H' v n p => hr.run W tk ρ' σd σ S1 H' _ n.r (n.rs rs) ((Res.good_bind g).imp (fun xs S2 k ρ2 H2 vs n2 p2 => k ρ2 H2 _ (n.trans n2) (RpL.cons (n2.rp p) p2)) fun _ _ _ k => k.at n)) fun _ _ _ k => k)
  intro pos pins s h0 I
  exact pat_cons (te := wEK X e) (ta := wAK X es) (fun pins s σ H Q h0 I h => h pins s h0 I) (fun pos pins s σ H Q h0 I h => h pos pins s h0 I) hs pos pins s σ H Q h0 I ge
theorem sa_consT {e : Expr} {es : List Expr} {c : C} {cs : Cs} (ha : SimTk X L G cf e c) (hr : SimAK X L G cf es cs) (hs : starEach (e :: es) X.env = (false, eval e X.env) :: starEach es X.env := by rfl) : SimA X L G cf (e :: es) (.cons c cs) := by
  refine ⟨fun W tk ρ σd σ S H Q r rs h => ?_⟩
  have h := Res.good_bind (r := evC cf G c σd S) h
  intro pos pins s I
  have ge := ha.run W tk ρ σd σ S H (fun v H1 => wAK X es σ H1 fun vs H2 => Q (v :: vs) H2) r rs (h.imp (fun x S1 g ρ' H' v n p => hr.run W tk ρ' σd σ S1 H' _ n.r (n.rs rs) ((Res.good_bind g).imp (fun xs S2 k ρ2 H2 vs n2 p2 => k ρ2 H2 _ (n.trans n2) (RpL.cons (n2.rp p) p2)) fun _ _ _ k => k.at n)) fun _ _ _ k => k) pins s I
  rw [hs]
  show wpAny _ _ (spliced ((false, eval e X.env) :: backTo pos (starEach es X.env))) _ _ s
  refine Calls.spliced_cons (thn ge fun v s1 q => ?_)
  obtain ⟨hk, x, H1, I1, r1, q1⟩ := q
  exact thn (q1 pos pins s1 hk I1) fun us s2 ⟨xs, H2, I2, r2, q2⟩ => ⟨x :: xs, H2, I2, .cons r1 r2, q2⟩
theorem si_repl {o : Expr} {apos pos c0 c1 : Pos} {j k : Nat} {y z y' z' : Str} {co : C} (hy : y = y') (hz : z = z') (ho : Sim X L G cf o co) (hyz : (y == z) = false := by decide)
    (hst : starEach [.Constant (.str y) j c0, .Constant (.str z) k c1] X.env = [(false, eval (.Constant (.str y) j c0) X.env), (false, eval (.Constant (.str z) k c1) X.env)] := by rfl)
    (hbase : attributeBase o "replace" X.env (eval o X.env) = eval o X.env := by rfl) (hline : (apos.endLine == pos.line) = true := by rfl) :
    SimK1 X L G cf (.Call (.Attribute o "replace" apos) [.Constant (.str y) j c0, .Constant (.str z) k c1] [] pos) (.repl co y' z') := by
  subst hy hz
  refine ⟨fun W tk ρ σd σ S H Q r rs h pins s h0 I => ?_⟩
  have h := Res.good_bind (r := evC cf G co σd S) h
  refine CwR.pet_replC (pE o) hyz hst hbase hline pins s σ H Q h0 I (ho.run W tk ρ σd σ S H _ r rs (h.imp (fun a S1 g ρ' H' v n q => ?_) fun _ _ _ k => k))
  split at g
  · rename_i x
    split at g
    · rename_i hc
      cases (show v = .str x from q)
      exact ⟨x, rfl, hc, g _ _ _ n rfl⟩
    · exact g.elim
  · exact g.elim
end
end QD

/-! QDT: dicts that stand: get, sorted, comprehensions; sets of one text or none. -/
namespace QD
open PySem PySem.Spec PyProof.Rows L2
/-! ### texts in order -/
def leS (a b : Str) : Prop := ¬ b.cps.toList < a.cps.toList
theorem leS_trans {a b c : Str} (h : leS a b) (k : leS b c) : leS a c := List.not_lt.mpr (List.le_trans (List.not_lt.mp h) (List.not_lt.mp k))
theorem leS_anti {a b : Str} (h : leS a b) (k : leS b a) : a = b := by
  have e : a.cps.toList = b.cps.toList := List.le_antisymm (List.not_lt.mp h) (List.not_lt.mp k)
  cases a with
  | mk x => cases b with
    | mk y =>
      have e' : x.toList = y.toList := e
      exact congrArg _ (Array.toList_inj.mp e')
theorem rising_pw : ∀ (p : Str) (l : List Str), risingS p l = true → (p :: l).Pairwise leS
  | p, [], _ => List.pairwise_cons.mpr ⟨fun _ h => absurd h List.not_mem_nil, List.Pairwise.nil⟩
  | p, x :: r, h => by
    obtain ⟨h1, h2⟩ := Bool.and_eq_true_iff.mp (show (!ltCps x.cps.toList p.cps.toList && risingS x r) = true from h)
    have h3 := rising_pw x r h2
    have h4 : leS p x := by
      rw [ltCps_eq] at h1
      simpa [leS] using h1
    refine List.pairwise_cons.mpr ⟨fun y hy => ?_, h3⟩
    rcases List.mem_cons.mp hy with rfl | hy
    · exact h4
    · exact leS_trans h4 ((List.pairwise_cons.mp h3).1 y hy)
theorem sorted_pw (l : List Str) (h : sortedS l = true) : l.Pairwise leS := by
  cases l with
  | nil => exact List.Pairwise.nil
  | cons x r => exact rising_pw x r h
theorem insS_perm (a : Str) : ∀ l : List Str, (insS a l).Perm (a :: l)
  | [] => List.Perm.refl _
  | b :: r => by
    unfold insS
    split
    · exact ((insS_perm a r).cons b).trans (List.Perm.swap a b r)
    · exact List.Perm.refl _
theorem sortS_perm : ∀ l : List Str, (sortS l).Perm l
  | [] => List.Perm.refl _
  | a :: r => (insS_perm a (sortS r)).trans ((sortS_perm r).cons a)
theorem insS_pw (a : Str) : ∀ l : List Str, l.Pairwise leS → (insS a l).Pairwise leS
  | [], _ => List.pairwise_cons.mpr ⟨fun _ h => absurd h List.not_mem_nil, List.Pairwise.nil⟩
  | b :: r, h => by
    obtain ⟨h1, h2⟩ := List.pairwise_cons.mp h
    unfold insS
    by_cases e : ltS b a = true
    · rw [if_pos e]
      refine List.pairwise_cons.mpr ⟨fun y hy => ?_, insS_pw a r h2⟩
      rcases List.mem_cons.mp ((insS_perm a r).mem_iff.mp hy) with rfl | hy
      · have : b.cps.toList < y.cps.toList := of_decide_eq_true e
        exact List.lt_asymm this
      · exact h1 y hy
    · rw [if_neg e]
      have hab : leS a b := fun z => e (decide_eq_true z)
      refine List.pairwise_cons.mpr ⟨fun y hy => ?_, h⟩
      rcases List.mem_cons.mp hy with rfl | hy
      · exact hab
      · exact leS_trans hab (h1 y hy)
theorem sortS_pw : ∀ l : List Str, (sortS l).Pairwise leS
  | [] => List.Pairwise.nil
  | a :: r => insS_pw a _ (sortS_pw r)
theorem sorted_uniq {ys xs : List Str} (p : ys.Perm xs) (h : sortedS ys = true) : ys = sortS xs :=
  List.Perm.eq_of_pairwise (le := leS) (fun _ _ _ _ h k => leS_anti h k) (sorted_pw ys h) (sortS_pw xs) (p.trans (sortS_perm xs).symm)
section
variable {X : Cx} {L : Pl} {G : Gd} {cf : Nat → List D → Store → Res D}
theorem txts'_v {K : PySem.W.Frag} {H : Hp} {ρ : Nat → Addr} {n : Nat} : ∀ {l : List D} {xs : List Str} {vs : List V}, txts' l = some xs → RpL K L H ρ n l vs → vs = xs.map V.str
  | [], xs, vs, e, h => by
    cases e
    exact h
  | d :: l, xs, vs, e, h => by
    obtain ⟨v, r, rfl, h1, h2⟩ := (show ∃ v r, vs = v :: r ∧ Rp K L H ρ n d v ∧ RpL K L H ρ n l r from h)
    cases d with
    | str b =>
      obtain ⟨ys, e1, rfl⟩ := Option.map_eq_some_iff.mp (show (txts' l).map (b :: ·) = some xs from e)
      cases (show v = .str b from h1)
      rw [txts'_v e1 h2]
      rfl
    | _ => cases e
theorem keyTs_v {K : PySem.W.Frag} {H : Hp} {ρ : Nat → Addr} {n : Nat} : ∀ {l : List (Key × D)} {xs : List Str} {vs : List (Key × V)}, keyTs l = some xs → RpK K L H ρ n l vs → vs.map (·.1) = xs.map Sum.inr
  | [], xs, vs, e, h => by
    cases e
    cases (show vs = [] from h)
    rfl
  | (.inr x, d) :: l, xs, vs, e, h => by
    obtain ⟨v, r, rfl, h1, h2⟩ := h
    obtain ⟨ys, e1, rfl⟩ := Option.map_eq_some_iff.mp (show (keyTs l).map (x :: ·) = some xs from e)
    show Sum.inr x :: r.map (·.1) = Sum.inr x :: ys.map Sum.inr
    rw [keyTs_v e1 h2]
  | (.inl i, d) :: l, xs, vs, e, h => by cases e
theorem bl_sorted (hc : X.calm = true) : BlOk X L G cf (.builtin "sorted") .sorted1 := by
  intro ρ S H ds vs d S' Q r0 p h k pins s σ us I rv
  rcases blo_cases h with ⟨x, c, rfl, e⟩ | h1
  · obtain ⟨i, fs, rfl, ei⟩ := ins_of e
    unfold evBlO at h
    dsimp only at h
    rw [e] at h
    exact absurd h (fun z => nomatch z)
  · cases ds with
    | nil => cases h1
    | cons x t =>
      cases t with
      | cons _ _ => cases x <;> cases h1
      | nil =>
        cases x with
        | ref i =>
          obtain ⟨v, rfl, px⟩ := rp1 p
          obtain ⟨_, rfl⟩ := (show i < S.n ∧ v = .ref (ρ i) from px)
          have h2 : (match S.get i with
            | some (.lst _ l) => (match txts' l with | some xs => if xs.length < 64 then Res.ok (.ref S.n) (S.push (.lst true ((sortS xs).map .str))) else .stuck | none => .stuck)
            | some (.dct l) => (match keyTs l with | some xs => if xs.length < 64 then Res.ok (.ref S.n) (S.push (.lst true ((sortS xs).map .str))) else .stuck | none => .stuck)
            | _ => .stuck) = Res.ok d S' := h1
          split at h2
          · rename_i w l e
            split at h2
            · rename_i xs et
              split at h2
              · rename_i hl
                cases h2
                obtain ⟨us2, s2, q2⟩ := cell_lst r0 e
                rw [txts'_v et q2] at s2
                refine cr_sortedS pins s σ H _ us Q I rv ⟨ρ i, xs, rfl, s2, hl, fun ys a hp hs ha => ?_⟩
                rw [sorted_uniq hp hs]
                have n2 := r0.push (o := .lst ((sortS xs).map V.str)) (c := .lst true ((sortS xs).map .str)) ha ⟨_, upd_same, rpl_strs _⟩
                exact k _ _ _ n2 ⟨Nat.lt_succ_self _, by rw [more_new]⟩
              · cases h2
            · cases h2
          · rename_i l e
            split at h2
            · rename_i xs et
              split at h2
              · rename_i hl
                cases h2
                obtain ⟨o, vs2, g1, g2⟩ := r0.cell i _ e
                refine call_sortedD hc pins s σ H _ us Q I rv ⟨ρ i, vs2, xs, rfl, .inr ⟨o, g1⟩, keyTs_v et g2, hl, fun ys a hp hs ha => ?_⟩
                rw [sorted_uniq hp hs]
                have n2 := r0.push (o := .lst ((sortS xs).map V.str)) (c := .lst true ((sortS xs).map .str)) ha ⟨_, upd_same, rpl_strs _⟩
                exact k _ _ _ n2 ⟨Nat.lt_succ_self _, by rw [more_new]⟩
              · cases h2
            · cases h2
          · cases h2
        | _ => cases h1
theorem si_sorted {e : Expr} {p pos : Pos} {cs : Cs} (hc : X.calm = true) (hg : Gl X "sorted") (hm : X.mg "sorted" = none) (ha : SimA X L G cf [e] cs) (he : starEach [e] X.env = (false, eval e X.env) :: starEach [] X.env := by rfl) (hpl : (backTo pos (starEach [] X.env)).any (·.1) = false := by rfl) : Sim X L G cf (.Call (.Name "sorted" p) [e] [] pos) (.blt .sorted1 cs) :=
  si_blt (.inl ⟨_, rfl, by rfl⟩) (bl_sorted hc) hg hm ha (by decide) (by decide) he hpl
/-- what is not said -/
theorem si_stk {e : Expr} : Sim X L G cf e .stk := ⟨fun W tk ρ σd σ S H Q r rs h => h.elim⟩
/-! ### d.get -/
theorem keyOf_v {K : PySem.W.Frag} {H : Hp} {ρ : Nat → Addr} {n : Nat} {d : D} {k : Key} {v : V} (e : keyOf d = some k) (h : Rp K L H ρ n d v) : v = L2.kV k := by
  cases d with
  | int i => cases e; exact h
  | str x => cases e; exact h
  | _ => cases e
theorem rpk_find {K : PySem.W.Frag} {H : Hp} {ρ : Nat → Addr} {n : Nat} (k : Key) : ∀ {ds : List (Key × D)} {vs : List (Key × V)} {d0 : D} {v0 : V}, RpK K L H ρ n ds vs → Rp K L H ρ n d0 v0 → Rp K L H ρ n (((ds.find? fun p => decide (p.1 = k)).map (·.2)).getD d0) ((valV vs k).getD v0)
  | [], vs, d0, v0, h, h0 => by
    cases (show vs = [] from h)
    exact h0
  | p :: ds, vs, d0, v0, h, h0 => by
    obtain ⟨v, r, rfl, h1, h2⟩ := h
    by_cases q : p.1 = k
    · rw [List.find?_cons_of_pos (by simpa using q), valV_pos q]
      exact h1
    · rw [List.find?_cons_of_neg (by simpa using q), valV_neg q]
      exact rpk_find k h2 h0
theorem si_dgetc {o e : Expr} {apos cpos : Pos} {co c : C} (E : EnvOk X L G cf) (ho : Sim X L G cf o co) (ha : Sim X L G cf e c) (m : M1 X o "get" apos e cpos) : Sim X L G cf (.Call (.Attribute o "get" apos) [e] [] cpos) (.dgetc co c) := by
  refine ⟨fun W tk ρ σd σ S H Q r rs h => ?_⟩
  have h := Res.good_bind (r := evC cf G co σd S) h
  have hu := E.hu
  refine ofE (pe_dget1 (by omega) (pE o) (pE e) m) (ho.run W tk ρ σd σ S H _ r rs (h.imp (fun a S1 g ρ1 H1 v n1 q => ?_) fun _ _ _ k => k))
  split at g
  · rename_i i
    split at g
    · rename_i l e1
      have g := Res.good_bind g
      obtain ⟨hi, rfl⟩ := (show i < S1.n ∧ v = .ref (ρ1 i) from q)
      obtain ⟨ob, vs, g1, g2⟩ := n1.r.cell i _ e1
      refine ⟨_, rfl, .inl ⟨vs, .inr ⟨ob, g1⟩⟩, ha.run W tk ρ1 σd σ S1 H1 _ n1.r (n1.rs rs) (g.imp (fun d S2 gg ρ2 H2 v2 n2 p2 => ?_) fun _ _ _ k => k.at n1)⟩
      split at gg
      · rename_i kk ek
        cases keyOf_v ek p2
        refine ⟨_, .inl ⟨vs, kk, .inr ⟨ob, n2.t _ _ g1 True.intro⟩, rfl, rfl⟩, gg ρ2 H2 _ (n1.trans n2) ?_⟩
        exact rpk_find kk (g2.mono n2.t n2.a n2.n) rfl
      · exact gg.elim
    · exact g.elim
  · exact g.elim
theorem si_dget2 {o e f : Expr} {apos cpos : Pos} {co c c2 : C} (E : EnvOk X L G cf) (ho : Sim X L G cf o co) (ha : Sim X L G cf e c) (hb : Sim X L G cf f c2) (m : M2 X o "get" apos e f cpos) : Sim X L G cf (.Call (.Attribute o "get" apos) [e, f] [] cpos) (.dget2 co c c2) := by
  refine ⟨fun W tk ρ σd σ S H Q r rs h => ?_⟩
  have h := Res.good_bind (r := evC cf G co σd S) h
  have hu := E.hu
  refine ofE (pe_dget2 (by omega) (pE o) (pE e) (pE f) m) (ho.run W tk ρ σd σ S H _ r rs (h.imp (fun a S1 g ρ1 H1 v n1 q => ?_) fun _ _ _ k => k))
  split at g
  · rename_i i
    split at g
    · rename_i l e1
      have g := Res.good_bind g
      obtain ⟨hi, rfl⟩ := (show i < S1.n ∧ v = .ref (ρ1 i) from q)
      obtain ⟨ob, vs, g1, g2⟩ := n1.r.cell i _ e1
      refine ⟨_, rfl, .inl ⟨vs, .inr ⟨ob, g1⟩⟩, ha.run W tk ρ1 σd σ S1 H1 _ n1.r (n1.rs rs) (g.imp (fun d S2 gg ρ2 H2 v2 n2 p2 => ?_) fun _ _ _ k => k.at n1)⟩
      have gg := Res.good_bind gg
      refine hb.run W tk ρ2 σd σ S2 H2 _ n2.r ((n1.trans n2).rs rs) (gg.imp (fun d3 S3 g3 ρ3 H3 v3 n3 p3 => ?_) fun _ _ _ k => k.at (n1.trans n2))
      split at g3
      · rename_i kk ek
        cases keyOf_v ek p2
        refine ⟨_, .inl ⟨vs, kk, .inr ⟨ob, n3.t _ _ (n2.t _ _ g1 True.intro) True.intro⟩, rfl, rfl⟩, g3 ρ3 H3 _ ((n1.trans n2).trans n3) ?_⟩
        exact rpk_find kk ((g2.mono n2.t n2.a n2.n).mono n3.t n3.a n3.n) p3
      · exact g3.elim
    · exact g.elim
  · exact g.elim
/-! ### len(set(x)) of one text or none -/
theorem si_lens {a : Expr} {p p2 q pos : Pos} {c : C} (hc : X.calm = true) (hg : Gl X "len") (hm : X.mg "len" = none) (hg2 : Gl X "set") (hm2 : X.mg "set" = none) (ha : Sim X L G cf a c)
    (na : starEach [a] X.env = (false, eval a X.env) :: starEach [] X.env := by rfl) : Sim X L G cf (.Call (.Name "len" p) [.Call (.Name "set" p2) [a] [] q] [] pos) (.lens c) := by
  refine ⟨fun W tk ρ σd σ S H Q r rs h => ?_⟩
  have h := Res.good_bind (r := evC cf G c σd S) h
  refine ofE (pe_lenSet hc hg hm hg2 hm2 (pE a) na) (ha.run W tk ρ σd σ S H _ r rs (h.imp (fun d S1 g ρ1 H1 v n1 p1 => ?_) fun _ _ _ k => k))
  split at g
  · rename_i l el
    split at g
    · rename_i xs et
      split at g
      · rename_i hl
        have out := g ρ1 H1 (.int xs.length) n1 rfl
        split at el
        · rename_i l'
          cases el
          obtain ⟨b, us, rfl, s, q1⟩ := (show ∃ a vs, v = .ref a ∧ SqT X.K H1 a vs ∧ RpL X.K L H1 ρ1 S1.n l vs from p1)
          rw [txts'_v et q1] at s
          exact ⟨b, xs, rfl, .inr s, hl, out⟩
        · rename_i i
          split at el
          · rename_i w l' e1
            cases el
            obtain ⟨_, rfl⟩ := (show i < S1.n ∧ v = .ref (ρ1 i) from p1)
            obtain ⟨us, s, q1⟩ := cell_lst n1.r e1
            rw [txts'_v et q1] at s
            exact ⟨_, xs, rfl, .inl s, hl, out⟩
          · cases el
        · cases el
      · exact g.elim
    · exact g.elim
  · exact g.elim
/-! ### sorted(set(x)) of nothing -/
theorem si_ssort {a : Expr} {p p2 q pos : Pos} {c : C} (E : EnvOk X L G cf) (hc : X.calm = true) (hg : Gl X "sorted") (hm : X.mg "sorted" = none) (hg2 : Gl X "set") (hm2 : X.mg "set" = none) (ha : Sim X L G cf a c)
    (na : starEach [a] X.env = (false, eval a X.env) :: starEach [] X.env := by rfl) : Sim X L G cf (.Call (.Name "sorted" p) [.Call (.Name "set" p2) [a] [] q] [] pos) (.ssort c) := by
  refine ⟨fun W tk ρ σd σ S H Q r rs h => ?_⟩
  have h := Res.good_bind (r := evC cf G c σd S) h
  have hu := E.hu
  refine ofE (pe_callB (cr_sortedT hc) hg hm (by rfl) (pa_cons (pe_callTy (cr_setOfT hc (by omega)) hg2 hm2 (by rfl) (pa_cons (pE a) pa_nil na) (by decide) (by decide) na (by rfl)) pa_nil (by rfl)) (by decide) (by decide) (by rfl) (by rfl)) ?_
  refine ha.run W tk ρ σd σ S H _ r rs (h.imp (fun d S1 g ρ1 H1 v n1 p1 => ?_) fun _ _ _ k => k)
  split at g
  · rename_i i
    split at g
    · rename_i w e1
      obtain ⟨_, rfl⟩ := (show i < S1.n ∧ v = .ref (ρ1 i) from p1)
      obtain ⟨us, s, q1⟩ := cell_lst n1.r e1
      cases (show us = [] from q1)
      refine ⟨ρ1 i, [], rfl, s, (fun _ hp => absurd hp List.not_mem_nil), by decide, fun b Ls hb hs _ => ?_⟩
      have hL : Ls = [] := List.eq_nil_iff_forall_not_mem.mpr fun x hx => absurd (hs x hx) List.not_mem_nil
      subst hL
      have n2 := n1.r.new (o := SetTO X.prog X.w b []) hb
      refine ⟨b, [], 1, 0, rfl, upd_same, (fun _ hp => absurd hp List.not_mem_nil), Nat.le_refl _, (fun _ hp => absurd hp List.not_mem_nil), fun L' a' hp _ _ _ ha' => ?_⟩
      cases hp.eq_nil
      have n3 := n2.r.push (o := .lst []) (c := .lst true []) ha' ⟨[], upd_same, RpL.nil⟩
      exact g _ _ _ ((n1.trans n2).trans n3) ⟨Nat.lt_succ_self _, by rw [more_new]⟩
    · exact g.elim
  · exact g.elim
/-! ### dict comprehensions -/
theorem dput_run {K : PySem.W.Frag} {D0 : Nat} {y z : D} {S S' : Store} {H : Hp} {ρ : Nat → Addr} {v w : V} {N : Hp → Prop} (r : Rel K L H ρ S) (py : Rp K L H ρ S.n y v) (pz : Rp K L H ρ S.n z w) (h : dctPut D0 y z S = .ok () S') (k : ∀ H', Nx K L S H ρ S' H' ρ → N H') :
    ∃ (kvs : List (Key × V)) (kk : Key), v = L2.kV kk ∧ H (ρ D0) = some (.dK kvs) ∧ kvs.length < sizeLine ∧ N (upd H (ρ D0) (.dK (putK kvs kk w))) := by
  have h1 : (match S.get D0, keyOf y with
    | some (.dbl l), some k => if l.length < sizeLine then Res.ok () (S.set D0 (.dbl (putKD l k z))) else .stuck
    | _, _ => .stuck) = .ok () S' := h
  split at h1
  · rename_i l kk e ek
    split at h1
    · rename_i hl
      cases h1
      obtain ⟨vs, s, q⟩ := r.cell D0 _ e
      refine ⟨vs, kk, keyOf_v ek py, s, by rw [q.length]; exact hl, k _ ?_⟩
      refine r.write (o := .dK (putK vs kk w)) (c := .dbl (putKD l kk z)) e True.intro True.intro ⟨_, upd_same, ?_⟩
      have t : TM H (upd H (ρ D0) (.dK (putK vs kk w))) := TM.wr s fun z => z
      exact (q.put pz).mono t (Agree.refl _ _) (Nat.le_refl _)
    · cases h1
  · cases h1
section
variable {kx vx tg iter : Expr} {ifs : List Expr} {sc : Scope} {own : List (Str × Nat)} {pos : Pos} {it : Iter} {ti : List Nat} {one : Bool} {ci : Cs} {ck cv : C}
theorem si_dcomp (hc : X.calm = true) (hx : G.exi = none) (hN : X.N.Nodup) (hi : SimI X L G cf tg iter it) (hg : ∀ s H C cl fp, SimG (Bk X sc s H C cl fp) L tg one ti) (ht : ∀ s H C cl fp, SimTs (Bk X sc s H C cl fp) L G cf ifs ci) (hk : ∀ s H C cl fp, Sim (Bk X sc s H C cl fp) L G cf kx ck) (he : ∀ s H C cl fp, Sim (Bk X sc s H C cl fp) L G cf vx cv)
    (ok : BlkOk X.N X.env.scope sc own) (hw : ∀ i ∈ ti, i ∈ own.map (·.2)) (hs : ∀ x, foldedSetIterable iter X.env x = pure x := by intro _; rfl) : Sim X L G cf (.DictComp kx vx [⟨tg, iter, ifs, 0⟩] sc pos) (.dcomp it ti one (own.map (·.2)) ci ck cv) := by
  have base : PE X (.DictComp kx vx [⟨tg, iter, ifs, 0⟩] sc pos) (tDc (wI X tg iter) (bG X sc tg) (bTs X sc ifs) (bE X sc kx) (bE X sc vx) (own.map (·.2))) :=
    pe_dc hc hN (pI tg iter) ok (fun s H C cl fp => ⟨fun pins s' σ H' v u Q I rv hh => hh s H C cl fp pins s' u I rv⟩) (fun s H C cl fp => ⟨fun pins s' σ H' Q I hh => hh s H C cl fp pins s' I⟩) (fun s H C cl fp => ⟨fun pins s' σ H' Q I hh => hh s H C cl fp pins s' I⟩) (fun s H C cl fp => ⟨fun pins s' σ H' Q I hh => hh s H C cl fp pins s' I⟩) hs
  refine ⟨fun W tk ρ σd σ S H Q r rs h => ofE (pe_fre base) ?_⟩
  have h := Res.good_bind (r := evIt cf G it σd S) h
  refine hi.run W tk ρ σd σ S H _ r rs (h.imp (fun q S1 g ρ1 H1 J n1 F => fun DD hD => ?_) fun _ _ _ k => k)
  obtain ⟨u, Sz, e2, gz⟩ := nox_ok' (Res.good_bind g)
  cases u
  have n2 := n1.r.push (o := .dK []) (c := .dbl []) hD ⟨[], upd_same, rfl⟩
  have hD0 : more ρ1 S1.n DD S1.n = DD := more_new
  have n02 := n1.trans n2
  refine walk_loop (F.at n2) n2.r e2 (fun ρ' H' n => ?_) fun ρ' S2 H' x v S3 N n p ht' kN => ?_
  · split at gz
    · rename_i l el
      obtain ⟨vs, s, q⟩ := n.r.cell S1.n _ el
      have hDD : ρ' S1.n = DD := by rw [n.a S1.n (Nat.lt_succ_self _), hD0]
      rw [hDD] at s
      refine ⟨DD, _, rfl, s, True.intro, fun od => ?_⟩
      have n3 := n.r.wr (i := S1.n) (o := .frz od (.dK vs)) (c := .dct l) el True.intro (by
        rw [hDD]
        exact ⟨od, vs, upd_same, q.mono (TM.wr s fun z => z) (Agree.refl _ _) (Nat.le_refl _)⟩)
      rw [hDD] at n3
      refine gz ρ' _ _ ((n02.trans n).trans n3) ⟨by rw [Store.set_n]; exact Store.lt el, by rw [hDD]⟩
    · exact gz.elim
  · have hDD : ρ' S1.n = DD := by rw [n.a S1.n (Nat.lt_succ_self _), hD0]
    obtain ⟨σ2, S4, e3, h4⟩ := Res.bind_ok ht'
    obtain ⟨e4, rfl⟩ := Res.of_ok e3
    have rx := (n02.trans n).rs rs
    have rs2 : RS X.K L H' ρ' S4.n (wipeD σd (own.map (·.2))) (L2.wipe σ (own.map (·.2))) := rx.s.wipe _
    intro s H0 C cl fp
    refine (hg s H0 C cl fp).run ρ' _ _ S4 H' x v σ2 _ n.r rs2 p e4 fun σ' rs3 hwp => ⟨?_, ?_⟩
    · rw [hwp _ hw, wipe_wipe]
    · obtain ⟨kb, S5, e5, h5⟩ := Res.bind_ok h4
      intro s1 H01 C1 cl1 fp1
      refine (ht s1 H01 C1 cl1 fp1).run ρ' σ2 σ' S4 H' kb S5 _ n.r (RX.blk hx rs3) e5 fun ρ3 H3 n3 => ?_
      cases kb with
      | false =>
        rw [if_neg Bool.false_ne_true] at h5 ⊢
        cases h5
        exact kN ρ3 H3 n3
      | true =>
        rw [if_pos rfl] at h5 ⊢
        obtain ⟨y, S6, e6, h6⟩ := Res.bind_ok h5
        obtain ⟨z, S7, e7, h7⟩ := Res.bind_ok h6
        intro s2 H02 C2 cl2 fp2
        refine (hk s2 H02 C2 cl2 fp2).run noW takes_no ρ3 σ2 σ' S5 H3 _ n3.r (RX.blk hx (n3.rs0 rs3)) (Res.Good.ok e6 fun ρ4 H4 v4 n4 p4 => ?_)
        intro s5 H05 C5 cl5 fp5
        refine (he s5 H05 C5 cl5 fp5).run noW takes_no ρ4 σ2 σ' S6 H4 _ n4.r (RX.blk hx ((n3.trans n4).rs0 rs3)) (Res.Good.ok e7 fun ρ5 H5 v5 n5 p5 => ?_)
        have nn := (n3.trans n4).trans n5
        have hD5 : ρ5 S1.n = DD := by rw [nn.a S1.n (Nat.lt_of_lt_of_le (Nat.lt_succ_self _) n.n), hDD]
        have q5 := dput_run n5.r (n5.rp p4) p5 h7 fun H6 n6 => kN ρ5 H6 (nn.trans n6)
        rw [hD5] at q5
        exact q5
end
end
end QD
namespace QD
open PySem PySem.Spec PyProof.Rows L2
/-! ### a call with some of the keyword-only parameters -/
section
variable {P : Program} {w : World} {K : PySem.W.Frag} {mg : Str → Option Value} {base : Heap} {L : Pl} {G : Gd} {T : List FJ} {l : Nat} {X : Cx}
theorem At.mkKg (a : At P w K mg base l X) (AJ : AllJ P w K mg base L G T l) {g n c : Nat} {j : FJ} {fd : FuncData} {x : Str} {ks : List Str} {sh : List Src} {gg : List Value → List Value → List Value} {gV : List V → List V → List V} (hj : T[g]? = some j) (hF : IsAt K j.f fd) (M : Mk K (L.cla c) (j.f.ad K)) (hm : mg x = some (.ref (L.cla c))) (hb : KBn K fd j.ps (n + 1) ks gg gV)
    (hs : ∀ as es vs zs H ρ m, RpL K L H ρ m as vs → RpL K L H ρ m es zs → as.length = n + 1 → es.length = ks.length → (gV vs zs).length = j.ps.length ∧ ∃ bs, srcs (as ++ es) sh = some bs ∧ RpL K L H ρ m bs (gV vs zs)) (hl : j.lam = false := by rfl) : MkK X L (callN G (tabJ T) l) x c g n ks sh := by
  have F := a.fn AJ hj hl hF
  obtain ⟨h1, h2, h3, h4, h5, h6, h7, h8⟩ := a
  subst h3 h4
  exact ⟨⟨_, _, fd, _, _, _, _, F, M, hm, hb, hs⟩⟩
end
end QD

/-! QDU: own exceptions that are values: made, their value, isinstance. -/
namespace L2
open PySem PySem.Spec PyProof.Rows
section
variable {X : Cx} {C : Addr}
/-- e.f, e an exception that is a value -/
def tXv (K : PySem.W.Frag) (f : Str) (te : TE) : TE := fun σ H Q => te σ H fun x H1 => ∃ (a C : Addr) (oe : Obj) (u : HO) (dd : Addr) (fs : List (Str × V)) (v : V), x = .ref a ∧ H1 a = some (.frz oe u) ∧ oe.cls = .ref C ∧ (∃ vs, oe.data = .fields vs) ∧
  XfC K C ∧ PySem.W.findIn K (.ref C) f = some none ∧ oe.dict = some dd ∧ H1 dd = some (.xd fs) ∧ fs.lookup f = some v ∧ Q v H1
theorem pe_xv {e : Expr} {te : TE} {pos : Pos} {n : Str} (he : PE X e te) (hb : attributeBase e n X.env (eval e X.env) = eval e X.env := by rfl) : PE X (.Attribute e n pos) (tXv X.K n te) := by
  refine ⟨fun pins s σ H Q I h => ?_⟩
  refine attr_of hb (thn (he.run pins s σ H _ I h) fun u s1 hh => ?_)
  obtain ⟨x, H1, I1, rx, a, C, oe, uo, dd, fs, v, ex, eh, ec, hf, T, hno, ed, ea, l, q⟩ := hh
  subst ex
  obtain rfl : u = Value.ref a := rx
  have hz : ObjOk X.prog X.w H1 s1.heap a (.frz oe uo) := I1.hok a _ eh
  have ha : s1.heap.get? a = some oe := hz.1
  obtain ⟨vs, hd⟩ := hf
  have hx : ObjOk X.prog X.w H1 s1.heap dd (.xd fs) := I1.hok dd _ ea
  obtain ⟨mA, hns, hr⟩ := hx
  obtain ⟨od, ho, hl⟩ := lookIn_ns hns
  obtain ⟨u, hu, ru⟩ := RelO.some_of (v := v) (o := mA n) (by rw [← l]; exact hr n)
  have J : PySem.W.InstAt s1.heap a oe C (some od) := ⟨ha, ec, by unfold PySem.W.notCls; rw [hd] <;> rfl, by rw [ed]; exact ho⟩
  exact HandSPX.exc_get I1.kIn J T.ga T.gg T.exC (PySem.W.findObj_own T.hdC hno rfl (by rw [hl, hu])) (handed_of ru) ⟨v, H1, I1.tok _, ru, q⟩
/-- isinstance(e, c), e an exception that is a value -/
def rIsV (K : PySem.W.Frag) : List V → Hp → VK → Prop := fun xs H Q => ∃ (a C : Addr) (oe : Obj) (u : HO) (c : V) (cv : Value) (b : Bool), xs = [.ref a, c] ∧ H a = some (.frz oe u) ∧ oe.cls = .ref C ∧ (∃ vs, oe.data = .fields vs) ∧ ExcC K C ∧
  (oe.dict = none ∨ ∃ dd fs, oe.dict = some dd ∧ H dd = some (.xd fs)) ∧ (∀ u, RelV c u → u = cv) ∧ PySem.W.kitOne K (.ref C) cv = some b ∧ Q (.bl b) H
theorem call_isV : CallR X (.builtin "isinstance") (rIsV X.K) := by
  intro pins s σ H xs us Q I r h
  obtain ⟨a, D, oe, uo, c, cv, b, rfl, eh, ec, ⟨vs, hv⟩, C, hd, hcv, e, q⟩ := h
  cases r with
  | cons rx rr =>
    cases rr with
    | cons rt rr =>
      cases rr
      cases rx
      have ec2 := hcv _ rt
      subst ec2
      have hz : ObjOk X.prog X.w H s.heap a (.frz oe uo) := I.hok a _ eh
      have hget : s.heap.get? a = some oe := hz.1
      rcases hd with hd | ⟨dd, fs, hd, hh⟩
      · have J : PySem.W.InstAt s.heap a oe D none := by
          obtain ⟨oc, od, oda, osl⟩ := oe
          dsimp only at ec hd hv
          subst ec hd hv
          exact ⟨hget, rfl, rfl, trivial⟩
        exact PySem.W.kia_one (PySem.W.qd_kitx C.hg C.hk C.hs C.hd C.ha C.hn C.ht C.hm) I.kIn J e (fun z => nomatch z) fun tk => ⟨.bl b, H, I.kept (t' := tk) fun _ _ z => z, rfl, q⟩
      · have hx : ObjOk X.prog X.w H s.heap dd (.xd fs) := I.hok dd _ hh
        obtain ⟨mA, hns, _⟩ := hx
        obtain ⟨od, ho, _⟩ := lookIn_ns hns
        have J : PySem.W.InstAt s.heap a oe D (some od) := ⟨hget, ec, by unfold PySem.W.notCls; rw [hv] <;> rfl, by rw [hd]; exact ho⟩
        exact PySem.W.kia_one (PySem.W.qd_kitx C.hg C.hk C.hs C.hd C.ha C.hn C.ht C.hm) I.kIn J e (fun z => nomatch z) fun tk => ⟨.bl b, H, I.kept (t' := tk) fun _ _ z => z, rfl, q⟩
/-- C(e), by C's own __init__, as a value -/
def tMkV (C : Addr) (ta : TA) : TE := fun σ H Q => ta σ H fun vs H1 => ∃ v, vs = [v] ∧ ∀ (d e : Addr) (oe : Obj), H1 d = none → H1 e = none → e ≠ d → oe.cls = .ref C → oe.dict = some d → (∃ fv, oe.data = .fields fv) → Q (.ref e) (upd (upd H1 d (.xd [(("value" : Str), v)])) e (.frz oe (.own e)))
theorem pe_mkv {fI : Addr} {cn : Str} {qu : String} {a : Expr} {ta : TA} {p pos : Pos} {k : Nat} (T : PySem.ExcX.ETxt cn qu X.K X.mg C fI) (hr : Room k X.A) (ha : PA X [a] ta) (hg : Gl X cn) (hdb : (cn == ("__debug__" : Str)) = false)
    (he : starEach (a :: []) X.env = (false, eval a X.env) :: starEach [] X.env := by rfl) (hpl : (backTo pos (starEach [] X.env)).any (·.1) = false := by rfl) :
    PE X (.Call (.Name cn p) [a] [] pos) (tMkV C ta) := by
  refine ⟨fun pins s σ H Q I h => ?_⟩
  refine wpAny_Call_Name_kw (ld_glob I hg T.gC ?_ hdb)
  refine PySem.W.callWith_K (h₀ := X.base) I.ok.mod.kin T.kC (thn (ha.run pos pins s σ H _ I h) fun us s1 hh => ?_) he hpl
  obtain ⟨vs, H1, I1, r1, v, ev, q1⟩ := hh
  subst ev
  refine ⟨I1.kIn, ?_⟩
  cases r1 with
  | cons rv rn =>
    rename_i v' us'
    cases rn
    show wpAny _ _ (call (.ref C) [v']) _ _ _
    have hlim := I1.nolimit
    obtain ⟨hp, g, dr, tk, os⟩ := s1
    refine wpAny_call (PySem.ExcX.ex_made T I1.kIn hlim (by have := hr.dp; omega) fun h' tk' e d M => ?_)
    obtain ⟨oe, fv, hoe, hc, hd, hdat, h1⟩ := M.obj
    have hns := M.ns
    obtain ⟨G', g1, g2⟩ := restrict h' fun b => decide (b ≠ e)
    have gk : ∀ b, b ≠ e → G'.get? b = h'.get? b := fun b hb => g1 b (decide_eq_true hb)
    have ge : G'.get? e = none := g2 e (by simp)
    have old : ∀ b o, hp.get? b = some o → G'.get? b = some o := fun b o q => (gk b (Nat.ne_of_lt (Nat.lt_of_lt_of_le (Heap.lt_size q) M.new))).trans (M.keep b o q)
    have up : ∀ b o, G'.get? b = some o → h'.get? b = some o := fun b o q => by
      by_cases hb : b = e
      · rw [hb, ge] at q
        cases q
      · exact (gk b hb).symm.trans q
    have ob : ObjOk X.prog X.w (upd H1 d (.xd [(("value" : Str), v)])) G' d (.xd [(("value" : Str), v)]) :=
      ⟨_, hns.at (fun o q => (gk d M.dne).trans q), fun f => relO_val rv f⟩
    have J : Inv X pins σ (upd H1 d (.xd [(("value" : Str), v)])) ⟨G', g, dr, tk', os⟩ := I1.laid (t' := tk') old M.dbig ob
    have fe : H1 e = none := I1.hok.fresh M.new
    have hne : upd H1 d (.xd [(("value" : Str), v)]) e = none := by
      rw [upd_ne (Ne.symm M.dne)]
      exact fe
    have J2 : Inv X pins σ (upd (upd H1 d (.xd [(("value" : Str), v)])) e (.frz oe (.own e))) ⟨h', g, dr, tk', os⟩ :=
      Inv.laidN (t' := tk') J up ge hne ⟨hoe, ⟨oe, hoe⟩⟩
    exact ⟨.ref e, _, J2, rfl, q1 d e oe (I1.hok.fresh M.dbig) fe (Ne.symm M.dne) hc hd ⟨_, hdat⟩⟩
/-- C(), no __init__ of one's own -/
def tMkV0 (C : Addr) : TE := fun _ H Q => ∀ (e : Addr) (oe : Obj), H e = none → oe.cls = .ref C → oe.dict = none → (∃ fv, oe.data = .fields fv) → Q (.ref e) (upd H e (.frz oe (.own e)))
theorem pe_mkv0 {bmB : List Value} {B newId initId : String} {x : Str} {p pos : Pos} (F : ExcBaseFacts B newId initId bmB) (q : PySem.W.excIn X.K C bmB newId = true) (gC : X.mg x = some (.ref C)) (kC : PySem.W.keepIn X.K (.ref C) = true) (hg : Gl X x) (hdb : (x == ("__debug__" : Str)) = false := by decide) :
    PE X (.Call (.Name x p) [] [] pos) (tMkV0 C) := by
  refine ⟨fun pins s σ H Q I h => ?_⟩
  refine wpAny_Call_Name_kw (ld_glob I hg gC ?_ hdb)
  refine PySem.W.callWith_K0 I.kIn kC ?_
  obtain ⟨bm, N, nm, qn, bs, hdct, sn, sub, ab, col, dd, k0, k1, k2, k3, k5, mN, hC, hN, hni, T⟩ := exc_obj I.kIn q
  refine wpAny_call_exc_subT F T hC hN hni (fun h' a hm => ?_) (by show 0 ≤ sizeLine; omega)
  have hn : H a = none := I.hok.gone hm.new
  obtain ⟨t, ht, _, _⟩ := hm.there
  have J := I.laidN (t' := s.toks) (o := .frz _ (.own a)) hm.keeps hm.new hn (⟨ht, ⟨_, ht⟩⟩ : _ ∧ _)
  exact ⟨.ref a, upd H a _, J, rfl, h a _ hn rfl rfl ⟨_, rfl⟩⟩
end
end L2
namespace QD
open PySem PySem.Spec PyProof.Rows L2
theorem exCls_ok {S : Store} {x : D} {c : Nat} (h : exCls S x = some c) : ∃ i od, x = .ref i ∧ S.get i = some (.exo c od) ∧ ∀ d, od = some d → ∃ cc fs, S.get d = some (.xd cc fs) := by
  unfold exCls at h
  split at h
  · rename_i i
    split at h
    · rename_i c' e
      cases h
      exact ⟨i, none, rfl, e, fun _ z => by cases z⟩
    · rename_i c' d e
      split at h
      · rename_i cc fs e2
        cases h
        exact ⟨i, some d, rfl, e, fun _ z => by cases z; exact ⟨cc, fs, e2⟩⟩
      · cases h
    · cases h
  · cases h
theorem exVal_ok {G : Gd} {S : Store} {x y : D} (h : exVal G S x = some y) : ∃ i c d cc fs, x = .ref i ∧ S.get i = some (.exo c (some d)) ∧ (G.exs c c).isSome = true ∧ S.get d = some (.xd cc fs) ∧ fs.lookup ("value" : Str) = some y := by
  unfold exVal at h
  split at h
  · rename_i i
    split at h
    · rename_i c d e
      split at h
      · rename_i q
        split at h
        · rename_i cc fs e2
          exact ⟨i, c, d, cc, fs, rfl, e, q, e2, h⟩
        · cases h
      · cases h
    · cases h
  · cases h
/-- C() of an own error without __init__ -/
structure RaisOk0 (X : Cx) (L : Pl) (x : Str) (c : Nat) : Prop where
  ex : ∃ (B newId initId : String) (bmB : List Value), ExcBaseFacts B newId initId bmB ∧ PySem.W.excIn X.K (L.cla c) bmB newId = true ∧ X.mg x = some (.ref (L.cla c)) ∧ PySem.W.keepIn X.K (.ref (L.cla c)) = true
section
variable {X : Cx} {L : Pl} {G : Gd} {cf : Nat → List D → Store → Res D} {pn : List (Addr × Obj)} {xe : Value → Shared → Prop}
theorem RaisOk0.tr {x : Str} {c : Nat} (h : RaisOk0 X L x c) : RaisOk0 (X.tr pn xe) L x c := by
  obtain ⟨B, n, i, b, h⟩ := h.ex
  exact ⟨⟨B, n, i, b, h⟩⟩
theorem RaisOk0.blk {s : Shared} {H : Hp} {sc : Scope} {e : Env} {fp : List Addr} {x : Str} {c : Nat} (h : RaisOk0 X L x c) : RaisOk0 (X.blk s H sc e fp) L x c := by
  obtain ⟨B, n, i, b, h⟩ := h.ex
  exact ⟨⟨B, n, i, b, h⟩⟩
theorem si_mkx {x : Str} {c : Nat} {a : Expr} {ca : C} {p pos : Pos} (T : RaisOk X L x c) (hg : Gl X x) (ha : Sim X L G cf a ca) (hdb : (x == ("__debug__" : Str)) = false := by decide)
    (he : starEach (a :: []) X.env = (false, eval a X.env) :: starEach [] X.env := by rfl) (hpl : (backTo pos (starEach [] X.env)).any (·.1) = false := by rfl) : Sim X L G cf (.Call (.Name x p) [a] [] pos) (.mkx c ca) := by
  obtain ⟨qu, fI, k, T, hr⟩ := T.ex
  refine ⟨fun W tk ρ σd σ S H Q r rs h => ?_⟩
  have h := Res.good_bind (r := evC cf G ca σd S) h
  refine ofE (pe_mkv T hr (pa_cons (pE a) pa_nil he) hg hdb he hpl) (ha.run W tk ρ σd σ S H _ r rs (h.imp (fun d S1 g ρ' H' v n q => ?_) fun _ _ _ k => k))
  refine ⟨v, rfl, fun dd e oe hdd hee hne hc hd hf => ?_⟩
  have n2 := n.r.push (o := .xd [(("value" : Str), v)]) (c := .xd c [(("value" : Str), d)]) hdd ⟨_, upd_same, v, [], rfl, q.mono (TM.new hdd) more_agree (Nat.le_succ _), rfl⟩
  have he2 : upd H' dd (.xd [(("value" : Str), v)]) e = none := by
    rw [upd_ne hne]
    exact hee
  have n3 := n2.r.push (o := .frz oe (.own e)) (c := .exo c (some S1.n)) he2 ⟨oe, .own e, upd_same, hc, hf, by
    rw [hd]
    show some dd = some (more (more ρ' S1.n dd) (S1.n + 1) e S1.n)
    rw [more_old (Nat.lt_succ_self _), more_new], fun z hz => by
      cases hz
      show S1.n < S1.n + 1 + 1
      omega⟩
  exact g _ _ _ ((n.trans n2).trans n3) ⟨Nat.lt_succ_self _, by
    show V.ref e = V.ref (more (more ρ' S1.n dd) (S1.n + 1) e (S1.n + 1))
    rw [more_new]⟩
theorem si_mkx0 {x : Str} {c : Nat} {p pos : Pos} (T : RaisOk0 X L x c) (hg : Gl X x) (hdb : (x == ("__debug__" : Str)) = false := by decide) : Sim X L G cf (.Call (.Name x p) [] [] pos) (.mkx0 c) := by
  obtain ⟨B, ni, ii, bm, F, q, gC, kC⟩ := T.ex
  refine ⟨fun W tk ρ σd σ S H Q r rs h => ?_⟩
  refine ofE (pe_mkv0 F q gC kC hg hdb) fun e oe hee hc hd hf => ?_
  have n2 := r.push (o := .frz oe (.own e)) (c := .exo c none) hee ⟨oe, .own e, upd_same, hc, hf, hd, fun z hz => by cases hz⟩
  exact h _ _ _ n2 ⟨Nat.lt_succ_self _, by
    show V.ref e = V.ref (more ρ S.n e S.n)
    rw [more_new]⟩
/-- o.value -/
theorem si_xv {o : Expr} {c : C} {pos : Pos} (T : XtOk X L G.exs) (ha : Sim X L G cf o c) (hb : attributeBase o "value" X.env (eval o X.env) = eval o X.env := by rfl) : Sim X L G cf (.Attribute o "value" pos) (.xv c) := by
  refine ⟨fun W tk ρ σd σ S H Q r rs h => ?_⟩
  have h := Res.good_bind (r := evC cf G c σd S) h
  refine ofE (pe_xv (pE o) hb) (ha.run W tk ρ σd σ S H _ r rs (h.imp (fun d S1 g ρ' H' v n q => ?_) fun _ _ _ k => k))
  obtain ⟨y, e1, k⟩ := Res.good_of g
  obtain ⟨i, cc, d', c', fs, rfl, e2, e3, e4, e5⟩ := exVal_ok e1
  obtain ⟨hi, rfl⟩ := (show i < S1.n ∧ v = .ref (ρ' i) from q)
  obtain ⟨oe, u, h1, h2, h3, h4, h5⟩ := n.r.cell i _ e2
  obtain ⟨vs, h6, h7⟩ := n.r.cell d' _ e4
  obtain ⟨kk, e6⟩ := Option.isSome_iff_exists.mp e3
  have O := T.ok cc cc kk e6
  rcases RpF.look "value" h7 with ⟨z, _⟩ | ⟨x', w, z1, z2, p1⟩
  · rw [z] at e5
    cases e5
  · rw [z1] at e5
    cases e5
    exact ⟨ρ' i, L.cla cc, oe, u, ρ' d', vs, w, rfl, h1, h2, h3, O.xf, O.no, h4, h6, z2, k _ _ _ n p1⟩
/-- isinstance(o, K) -/
theorem si_xis {o k : Expr} {p pos : Pos} {c : C} {t : Nat} {cv : V} (T : XtOk X L G.exs) (hg : Gl X "isinstance") (hm : X.mg "isinstance" = none) (ha : Sim X L G cf o c) (hk : PE X k (tC cv)) (hcv : ∀ w, RelV cv w → w = tvE L t)
    (he : starEach [o, k] X.env = (false, eval o X.env) :: starEach [k] X.env := by rfl) (he2 : starEach [k] X.env = (false, eval k X.env) :: starEach [] X.env := by rfl) (hpl : (backTo pos (starEach [k] X.env)).any (·.1) = false := by rfl) :
    Sim X L G cf (.Call (.Name "isinstance" p) [o, k] [] pos) (.xis c t) := by
  refine ⟨fun W tk ρ σd σ S H Q r rs h => ?_⟩
  have h := Res.good_bind (r := evC cf G c σd S) h
  refine ofE (pe_callB call_isV hg hm (by rfl) (pa_cons (pE o) (pa_cons hk pa_nil he2) he) (by decide) (by decide) he hpl) (ha.run W tk ρ σd σ S H _ r rs (h.imp (fun d S1 g ρ' H' v n q => ?_) fun _ _ _ k => k))
  obtain ⟨y, e1, kk⟩ := Res.good_of g
  obtain ⟨cc, e2, e3⟩ := Option.bind_eq_some_iff.mp e1
  obtain ⟨b, e4, rfl⟩ := Option.map_eq_some_iff.mp e3
  obtain ⟨i, od, rfl, e5, e6⟩ := exCls_ok e2
  obtain ⟨hi, rfl⟩ := (show i < S1.n ∧ v = .ref (ρ' i) from q)
  obtain ⟨oe, u, h1, h2, h3, h4, h5⟩ := n.r.cell i _ e5
  have O := T.ok cc t b e4
  refine ⟨ρ' i, L.cla cc, oe, u, cv, tvE L t, b, rfl, h1, h2, h3, O.is, ?_, hcv, T.kit cc t b e4, kk _ _ _ n rfl⟩
  cases od with
  | none => exact .inl h4
  | some d =>
    obtain ⟨c', fs, e7⟩ := e6 d rfl
    obtain ⟨vs, h6, _⟩ := n.r.cell d _ e7
    exact .inr ⟨ρ' d, vs, h4, h6⟩
theorem si_xisO {o : Expr} {kn : Str} {p p2 pos : Pos} {c : C} {t : Nat} (T : XtOk X L G.exs) (hg : Gl X "isinstance") (hm : X.mg "isinstance" = none) (ha : Sim X L G cf o c) (hg2 : Gl X kn) (hm2 : X.mg kn = some (.ref (L.cla t))) (ht : t < 900) (hd2 : (kn == ("__debug__" : Str)) = false := by decide)
    (he : starEach [o, .Name kn p2] X.env = (false, eval o X.env) :: starEach [.Name kn p2] X.env := by rfl) (he2 : starEach [.Name kn p2] X.env = (false, eval (.Name kn p2) X.env) :: starEach [] X.env := by rfl) (hpl : (backTo pos (starEach [.Name kn p2] X.env)).any (·.1) = false := by rfl) :
    Sim X L G cf (.Call (.Name "isinstance" p) [o, .Name kn p2] [] pos) (.xis c t) :=
  si_xis T hg hm ha (pe_glob hg2 hm2 (v := .ref (L.cla t)) rfl hd2) (fun w h => by
    unfold tvE
    rw [if_pos ht]
    exact h) he he2 hpl
theorem si_xisB {o : Expr} {kn : Str} {p p2 pos : Pos} {c : C} {t : Nat} (T : XtOk X L G.exs) (hg : Gl X "isinstance") (hm : X.mg "isinstance" = none) (ha : Sim X L G cf o c) (hg2 : Gl X kn) (hm2 : X.mg kn = none) (hb2 : bootBuiltins kn = some (.type (bxn t))) (hn2 : kn ≠ "__name__") (ht : ¬ t < 900) (hd2 : (kn == ("__debug__" : Str)) = false := by decide)
    (he : starEach [o, .Name kn p2] X.env = (false, eval o X.env) :: starEach [.Name kn p2] X.env := by rfl) (he2 : starEach [.Name kn p2] X.env = (false, eval (.Name kn p2) X.env) :: starEach [] X.env := by rfl) (hpl : (backTo pos (starEach [.Name kn p2] X.env)).any (·.1) = false := by rfl) :
    Sim X L G cf (.Call (.Name "isinstance" p) [o, .Name kn p2] [] pos) (.xis c t) :=
  si_xis T hg hm ha (pe_bltn hg2 hm2 hb2 (v := .ty (bxn t)) rfl hn2 hd2) (fun w h => by
    unfold tvE
    rw [if_neg ht]
    exact h) he he2 hpl
end
/-! ### the table by rows -/
def xsR (asked : List Nat) (rows : List (List Nat)) (c e : Nat) : Option Bool := match rows[c]? with
  | some r => if asked.contains e then some (r.contains e) else none
  | none => none
def kitR (K : PySem.W.Frag) (L : Pl) (asked : List Nat) (rows : List (List Nat)) (c : Nat) : Bool := match rows[c]? with
  | some r => asked.all fun e => xtB K L (c, e, r.contains e)
  | none => true
theorem xt_okR {X : Cx} {L : Pl} {asked : List Nat} {rows : List (List Nat)} (h : ((List.range rows.length).all fun c => kitR X.K L asked rows c) = true) (o : ∀ c, c < rows.length → ExOk X.K (L.cla c)) : XtOk X L (xsR asked rows) := by
  have z : ∀ c e k, xsR asked rows c e = some k → c < rows.length ∧ xtB X.K L (c, e, k) = true := fun c e k q => by
    unfold xsR at q
    split at q
    · rename_i r hr
      split at q
      · rename_i hc
        cases q
        have hl := (List.getElem?_eq_some_iff.mp hr).1
        have y := List.all_eq_true.mp h c (List.mem_range.mpr hl)
        unfold kitR at y
        rw [hr] at y
        exact ⟨hl, List.all_eq_true.mp y e (by simpa using hc)⟩
      · cases q
    · cases q
  refine ⟨fun c e k q => ?_, fun c e k he q => ?_, fun c e k q => o c (z c e k q).1⟩
  · exact of_decide_eq_true (Bool.and_eq_true_iff.mp (z c e k q).2).1
  · have y := (Bool.and_eq_true_iff.mp (z c e k q).2).2
    rw [if_pos he] at y
    exact of_decide_eq_true y
/-- an own error without __init__: what its class must say -/
def excB0 (K : PySem.W.Frag) (C : Addr) (bmB : List Value) (nw : String) : Bool := PySem.W.excIn K C bmB nw && (PySem.W.keepIn K (.ref C) &&
  ((decide (PySem.W.findIn K (.ref C) "__getattribute__" = some (some (.builtin "BaseException.__getattribute__"))) &&
    (decide (PySem.W.findIn K (.ref C) "__getattr__" = some none) && (decide (PySem.W.findIn K (.ref C) "value" = some none)))) &&
  ((decide (PySem.W.subIn K (.ref C) (.type "BaseException") = some true) && PySem.W.hasDictIn K C) &&
    (decide (PySem.W.findIn K (.ref C) "__class__" = some (some (.builtin "object.__class__"))) && (decide (PySem.W.specialIn K (.builtin "object.__class__") "__get__" = some (some (.builtin "getset_descriptor.__get__"))) &&
      (decide (PySem.W.takesIn K (.builtin "object.__class__") = some true) && decide (PySem.W.mroIn K C (.type "object") = some true)))))))
def rtT : List Value := ["RuntimeError", "Exception", "BaseException", "object"].map Value.type
theorem exc_ok0 {K : PySem.W.Frag} {C : Addr} {bmB : List Value} {nw : String} (h : excB0 K C bmB nw = true) : ExOk K C := by
  unfold excB0 at h
  simp only [Bool.and_eq_true, decide_eq_true_eq] at h
  obtain ⟨_, _, ⟨h2, h3, h4⟩, ⟨h6, h7⟩, h8, h9, h10, h11⟩ := h
  exact ⟨⟨h2, h3, h6, h7⟩, h4, ⟨h2, h3, h6, h7, h8, h9, h10, h11⟩⟩
theorem rais0_ok {X : Cx} {L : Pl} {x : Str} {c : Nat} (gC : X.mg x = some (.ref (L.cla c))) (h : excB0 X.K (L.cla c) rtT "RuntimeError.__new__" = true) : RaisOk0 X L x c := by
  unfold excB0 at h
  simp only [Bool.and_eq_true] at h
  exact ⟨⟨_, _, _, _, PySem.F.excBase_RuntimeError, h.1, gC, h.2.1⟩⟩
end QD

/-! GX: the top's run by a step of small pieces. -/
namespace GoX
open PySem PySem.W HandSHeadRun
noncomputable def getX : BT → Nat → Option Obj := @BT.rec (fun _ => Nat → Option Obj) (fun _ => none) (fun v _ _ gl gr i => @Bool.rec (fun _ => Option Obj) (@Bool.rec (fun _ => Option Obj) (gr (Nat.sub (Nat.div i 2) 1)) (gl (Nat.div i 2)) (Nat.beq (Nat.mod i 2) 1)) (some v) (Nat.beq i 0))
theorem getX_eq : ∀ (t : BT) (i : Nat), getX t i = t.get i
  | .nil, _ => rfl
  | .node v l r, i => by
    show @Bool.rec (fun _ => Option Obj) (@Bool.rec (fun _ => Option Obj) (getX r (i / 2 - 1)) (getX l (i / 2)) (Nat.beq (i % 2) 1)) (some v) (Nat.beq i 0) = match Nat.beq i 0 with
      | true => some v
      | false => match Nat.beq (i % 2) 1 with
        | true => l.get (i / 2)
        | false => r.get (i / 2 - 1)
    rw [getX_eq l, getX_eq r]
    cases Nat.beq i 0 <;> cases Nat.beq (i % 2) 1 <;> rfl
noncomputable def setX (f : Obj → Obj) : BT → Nat → BT := @BT.rec (fun _ => Nat → BT) (fun _ => .nil) (fun v l r gl gr i => @Bool.rec (fun _ => BT) (@Bool.rec (fun _ => BT) (.node v l (gr (Nat.sub (Nat.div i 2) 1))) (.node v (gl (Nat.div i 2)) r) (Nat.beq (Nat.mod i 2) 1)) (.node (f v) l r) (Nat.beq i 0))
theorem setX_eq (f : Obj → Obj) : ∀ (t : BT) (i : Nat), setX f t i = t.set i f
  | .nil, _ => rfl
  | .node v l r, i => by
    show @Bool.rec (fun _ => BT) (@Bool.rec (fun _ => BT) (.node v l (setX f r (i / 2 - 1))) (.node v (setX f l (i / 2)) r) (Nat.beq (i % 2) 1)) (.node (f v) l r) (Nat.beq i 0) = match Nat.beq i 0 with
      | true => .node (f v) l r
      | false => match Nat.beq (i % 2) 1 with
        | true => .node v (l.set (i / 2) f) r
        | false => .node v l (r.set (i / 2 - 1) f)
    rw [setX_eq f l, setX_eq f r]
    cases Nat.beq i 0 <;> cases Nat.beq (i % 2) 1 <;> rfl
noncomputable def insX (o : Obj) : BT → Nat → BT := @BT.rec (fun _ => Nat → BT) (fun _ => .node o .nil .nil) (fun v l r gl gr i => @Bool.rec (fun _ => BT) (@Bool.rec (fun _ => BT) (.node v l (gr (Nat.sub (Nat.div i 2) 1))) (.node v (gl (Nat.div i 2)) r) (Nat.beq (Nat.mod i 2) 1)) (.node o l r) (Nat.beq i 0))
theorem insX_eq (o : Obj) : ∀ (t : BT) (i : Nat), insX o t i = t.ins i o
  | .nil, _ => rfl
  | .node v l r, i => by
    show @Bool.rec (fun _ => BT) (@Bool.rec (fun _ => BT) (.node v l (insX o r (i / 2 - 1))) (.node v (insX o l (i / 2)) r) (Nat.beq (i % 2) 1)) (.node o l r) (Nat.beq i 0) = match Nat.beq i 0 with
      | true => .node o l r
      | false => match Nat.beq (i % 2) 1 with
        | true => .node v (l.ins (i / 2) o) r
        | false => .node v l (r.ins (i / 2 - 1) o)
    rw [insX_eq o l, insX_eq o r]
    cases Nat.beq i 0 <;> cases Nat.beq (i % 2) 1 <;> rfl
abbrev KX := SharedT → Sem Fin → Code → Pos → List Frame → Option SharedT
abbrev ST := SharedT → Thread → Option (SharedT × Thread)
abbrev Mo := KX → (Code → Sem Fin) → Setting → ST → Nat → Option Value → SharedT → Code → Pos → List Frame → Option SharedT
noncomputable def fbB (K : KX) (r : Option (SharedT × Thread)) : Option SharedT := @Option.rec (SharedT × Thread) (fun _ => Option SharedT) none (fun q => frS q.1 fun s' => K s' q.2.cur q.2.code q.2.pos q.2.stack) r
/-- any other step -/
noncomputable def fb (K : KX) (st : ST) (n0 : Nat) (ann : Option Value) (s : SharedT) (t : Thread) : Option SharedT :=
  @Bool.rec (fun _ => Option SharedT) (@Bool.rec (fun _ => Option SharedT) none (fbB K (st s t)) (stepOk n0 ann t)) (some s) (through t)
noncomputable def wTree (s : SharedT) (T : BT) : SharedT := ⟨T, s.n, s.life, s.gens, s.drawn, s.toks, s.os⟩
noncomputable def wIns (s : SharedT) (T : BT) (n : Nat) : SharedT := ⟨T, n, s.life, s.gens, s.drawn, s.toks, s.os⟩
noncomputable def wTok (s : SharedT) (k : Nat) : SharedT := ⟨s.tree, s.n, s.life, s.gens, s.drawn, k, s.os⟩
def keptX (c code : Code) (l : List Value) : List Value := match c, code with
  | .builtin _ a, _ => unmarked a.refs
  | .call f a, .builtin .. | .call f a, .call .. => unmarked (if l.contains borrowed then a.refs else f :: a.refs)
  | _, _ => []
def agStack (code c : Code) (stack : List Frame) : List Frame := match code, c, stack with
  | .builtin .., .call f a, .ret k h g l cd p kept :: rest => .ret k h g l cd p (kept ++ unmarked (f :: a.refs)) :: rest
  | .call f _, .call .., .ret k h g l cd p kept :: rest => .ret k h g l cd p (kept ++ .ellipsis :: unmarked [f]) :: rest
  | .call f a, .builtin .., .ret k h g l cd p kept :: rest => .ret k h g l cd p (if l.contains borrowed then kept.takeWhile (· != .ellipsis) ++ unmarked a.refs else unmarked (kept ++ f :: a.refs)) :: rest
  | .call .., _, .ret k h g l cd p kept :: rest => .ret k h g l cd p (kept.takeWhile (· != .ellipsis)) :: rest
  | _, _, _ => stack
def hdX (own : Bool) (stack : List Frame) : Option Value := topHandled (if own then (match splitAtGen stack with | some (fs, _, _) => fs | none => stack) else stack)
def okUp (n0 : Nat) (ann : Option Value) (a : Addr) : Bool := Nat.ble n0 a || a == mainNs || a == cStatics || ann == some (.ref a)
noncomputable def frameDone (f : Flow) (K : KX) (st : ST) (n0 : Nat) (ann : Option Value) (s : SharedT) (code : Code) (pos : Pos) (rest : List Frame) (fr : Frame) : Option SharedT :=
  @Frame.rec (fun _ => Option SharedT) (fun k _ _ _ c p _ => K s (k (.ok f)) c p rest) (fun g k l c p => fb K st n0 ann s ⟨.pure (.done f), code, pos, .gen g k l c p :: rest⟩) fr
noncomputable def frameRaise (e : Value) (K : KX) (st : ST) (n0 : Nat) (ann : Option Value) (s : SharedT) (code : Code) (pos : Pos) (rest : List Frame) (fr : Frame) : Option SharedT :=
  @Frame.rec (fun _ => Option SharedT) (fun k _ _ _ c p _ => K s (k (.error e)) c p rest) (fun g k l c p => fb K st n0 ann s ⟨.raise e, code, pos, .gen g k l c p :: rest⟩) fr
noncomputable def mPure (f : PySem.Fin) : Mo := fun K den set st n0 ann s code pos stack => @PySem.Fin.rec (fun _ => Option SharedT)
  (fun f => @List.rec Frame (fun _ => Option SharedT) (some s) (fun fr rest _ => frameDone f K st n0 ann s code pos rest fr) stack)
  (fun c => @Bool.rec (fun _ => Option SharedT) none (K s (den c) c pos (agStack code c stack)) (stepOk n0 ann ⟨.pure (.again c), code, pos, stack⟩)) f
noncomputable def mRaise (e : Value) : Mo := fun K den set st n0 ann s code pos stack => @List.rec Frame (fun _ => Option SharedT) none (fun fr rest _ => frameRaise e K st n0 ann s code pos rest fr) stack
noncomputable def mRule (_ : String) (k : Unit → Sem Fin) (_ : Unit → Mo) : Mo := fun K den set st n0 ann s code pos stack => K s (k ()) code pos stack
noncomputable def mAt (p : Pos) (k : Unit → Sem Fin) (_ : Unit → Mo) : Mo := fun K den set st n0 ann s code pos stack => K s (k ()) code p stack
noncomputable def mPoint (_ : List Value) (k : Unit → Sem Fin) (_ : Unit → Mo) : Mo := fun K den set st n0 ann s code pos stack => K s (k ()) code pos stack
noncomputable def ld (kk : Obj → Option SharedT) (o : Option Obj) : Option SharedT := @Option.rec Obj (fun _ => Option SharedT) none (fun o => @Option.rec Obj (fun _ => Option SharedT) none kk (alive o)) o
noncomputable def mLoad (a : Addr) (_ : Option Value) (k : Obj → Sem Fin) (_ : Obj → Mo) : Mo := fun K den set st n0 ann s code pos stack =>
  @Bool.rec (fun _ => Option SharedT) none (ld (fun o => K s (k o) code pos stack) (getX s.tree a)) (Nat.blt a s.n)
noncomputable def mUpdate (a : Addr) (_ : Option Value) (f : Obj → Obj) (k : Unit → Sem Fin) (_ : Unit → Mo) : Mo := fun K den set st n0 ann s code pos stack =>
  @Bool.rec (fun _ => Option SharedT) none (@Bool.rec (fun _ => Option SharedT) none (ld (fun _ => K (wTree s (setX f s.tree a)) (k ()) code pos stack) (getX s.tree a)) (Nat.blt a s.n)) (okUp n0 ann a)
noncomputable def mAlloc2 (K : KX) (s : SharedT) (k : Addr → Sem Fin) (code : Code) (pos : Pos) (stack : List Frame) (T : BT) : Option SharedT :=
  @Bool.rec (fun _ => Option SharedT) none (frNat (Nat.succ s.n) fun n => K (wIns s T n) (k s.n) code pos stack) (getX T s.n).isSome
noncomputable def mAlloc (o : Obj) (k : Addr → Sem Fin) (_ : Addr → Mo) : Mo := fun K den set st n0 ann s code pos stack => mAlloc2 K s k code pos stack (insX o s.tree s.n)
noncomputable def mLia (a : Addr) (k : Option Obj → Sem Fin) (_ : Option Obj → Mo) : Mo := fun K den set st n0 ann s code pos stack =>
  @Bool.rec (fun _ => Option SharedT) (K s (k none) code pos stack) (@Option.rec Obj (fun _ => Option SharedT) none (fun o => K s (k (alive o)) code pos stack) (getX s.tree a)) (Nat.blt a s.n)
noncomputable def mFresh (k : Tok → Sem Fin) (_ : Tok → Mo) : Mo := fun K den set st n0 ann s code pos stack => frNat (Nat.succ s.toks) fun n => K (wTok s n) (k s.toks) code pos stack
noncomputable def mAsk (k : Setting → Sem Fin) (_ : Setting → Mo) : Mo := fun K den set st n0 ann s code pos stack => K s (k set) code pos stack
noncomputable def mCall (c : Code) (h : Option Value) (g : Bool) (l : List Value) (k : Result → Sem Fin) (_ : Result → Mo) : Mo := fun K den set st n0 ann s code pos stack =>
  K s (den c) c pos (.ret k h g l code pos (keptX c code l) :: stack)
noncomputable def mHandled (own : Bool) (k : Option Value → Sem Fin) (_ : Option Value → Mo) : Mo := fun K den set st n0 ann s code pos stack => K s (k (hdX own stack)) code pos stack
noncomputable def mStack (k : List (Code × Pos) → Sem Fin) (_ : List (Code × Pos) → Mo) : Mo := fun K den set st n0 ann s code pos stack => K s (k ((code, pos) :: stack.map Frame.where_)) code pos stack
noncomputable def oth (c : Sem Fin) : Mo := fun K den set st n0 ann s code pos stack => fb K st n0 ann s ⟨c, code, pos, stack⟩
noncomputable def disp : Sem Fin → Mo := @Sem.rec PySem.Fin (fun _ => Mo) mPure mRaise (fun w => oth (.unsupported w)) (fun e => oth (.finish e)) mRule mAt mLoad mUpdate mAlloc mLia mPoint
  (fun a k _ => oth (.register a k)) mFresh mAsk (fun r n k _ => oth (.choose r n k)) (fun q l k _ => oth (.os q l k)) mCall mHandled (fun c k _ => oth (.newGen c k)) (fun g k _ => oth (.genState g k))
  (fun g r l k _ => oth (.resume g r l k)) (fun v g l k _ => oth (.yield v g l k)) mStack (fun c k _ => oth (.fork c k)) (fun k _ => oth (.thread k)) (fun a t d l k _ => oth (.await a t d l k))
noncomputable def goX (den : Code → Sem Fin) (set : Setting) (st : ST) (n0 : Nat) (ann : Option Value) (m : Nat) : KX :=
  @Nat.rec (fun _ => KX) (fun _ _ _ _ _ => none) (fun _ ih s cur code pos stack => disp cur ih den set st n0 ann s code pos stack) m
noncomputable def endX (den : Code → Sem Fin) (st : ST) (M : Nat) (p : Program) (w : World) (os : OsState) : Option SharedT := match putAll (boot_heap w.params).objs.toList .nil 0 with
  | some (t, n) => frNat n fun n0 => goX den ⟨p, w.params⟩ st n0 (bootAnn w) M (bootT w os (t, n0)) (topStub p).cur (topStub p).code (topStub p).pos (topStub p).stack
  | none => none
section
variable {den : Code → Sem PySem.Fin} {p : Program} {w : World} {n0 : Nat} {ann : Option Value} {K : KX}
theorem fb_some {st : ST} {s s' : SharedT} {t t' : Thread} (h1 : through t = false) (h2 : stepOk n0 ann t = true) (h3 : st s t = some (s', t')) : fb K st n0 ann s t = K s' t'.cur t'.code t'.pos t'.stack := by
  unfold fb
  rw [h1, h2, h3]
  show (frS s' fun s' => K s' t'.cur t'.code t'.pos t'.stack) = _
  rw [frS_eq]
theorem fb_none {st : ST} {s : SharedT} {t : Thread} (h1 : through t = false) (h2 : stepOk n0 ann t = true) (h3 : st s t = none) : fb K st n0 ann s t = none := by
  unfold fb
  rw [h1, h2, h3]
  rfl
theorem fb_no {st : ST} {s : SharedT} {t : Thread} (h1 : through t = false) (h2 : stepOk n0 ann t = false) : fb K st n0 ann s t = none := by
  unfold fb
  rw [h1, h2]
theorem thr {c : Sem PySem.Fin} {code : Code} {pos : Pos} {stack : List Frame} (h : through ⟨c, code, pos, []⟩ = false) : through ⟨c, code, pos, stack⟩ = false := by
  cases stack with
  | nil => exact h
  | cons a r => rfl
theorem disp_eq (cur : Sem PySem.Fin) (s : SharedT) (code : Code) (pos : Pos) (stack : List Frame) :
    disp cur K den ⟨p, w.params⟩ (stepT den p w) n0 ann s code pos stack = fb K (stepT den p w) n0 ann s ⟨cur, code, pos, stack⟩ := by
  obtain ⟨T, n, life, gens, drawn, toks, os⟩ := s
  cases cur with
  | pure f =>
    cases f with
    | done f =>
      cases stack with
      | nil => rfl
      | cons fr rest =>
        cases fr with
        | ret k h g l c p' kept => exact (fb_some (s' := ⟨T, n, life, gens, drawn, toks, os⟩) (t' := ⟨k (.ok f), c, p', rest⟩) rfl rfl rfl).symm
        | gen g k l c p' => rfl
    | again c =>
      show @Bool.rec (fun _ => Option SharedT) none (K _ (den c) c pos (agStack code c stack)) (stepOk n0 ann ⟨.pure (.again c), code, pos, stack⟩) = _
      cases h : stepOk n0 ann ⟨.pure (.again c), code, pos, stack⟩ with
      | false => exact (fb_no (thr rfl) h).symm
      | true =>
        refine (fb_some (s' := ⟨T, n, life, gens, drawn, toks, os⟩) (t' := ⟨den c, c, pos, agStack code c stack⟩) (thr rfl) h ?_).symm
        first
          | rfl
          | (cases code <;> cases c <;> cases stack <;> first | rfl | (rename_i fr rest; cases fr <;> rfl))
  | raise e =>
    cases stack with
    | nil =>
      refine (fb_none (thr rfl) rfl ?_).symm
      show (match finish (.uncaught e) ⟨{}, gens, drawn, toks, os⟩ with
        | .go s' t' => some ((⟨T, n, life, s'.gens, s'.drawn, s'.toks, s'.os⟩ : SharedT), t')
        | .halt _ _ => none) = none
      unfold finish
      by_cases hl : leftWithCleanup gens = true
      · rw [if_pos hl]
      · rw [if_neg hl]
    | cons fr rest =>
      cases fr with
      | ret k h g l c p' kept => exact (fb_some (s' := ⟨T, n, life, gens, drawn, toks, os⟩) (t' := ⟨k (.error e), c, p', rest⟩) (thr rfl) rfl rfl).symm
      | gen g k l c p' => rfl
  | rule tag k => exact (fb_some (s' := ⟨T, n, life, gens, drawn, toks, os⟩) (t' := ⟨k (), code, pos, stack⟩) (thr rfl) rfl rfl).symm
  | «at» p' k => exact (fb_some (s' := ⟨T, n, life, gens, drawn, toks, os⟩) (t' := ⟨k (), code, p', stack⟩) (thr rfl) rfl rfl).symm
  | point l k => exact (fb_some (s' := ⟨T, n, life, gens, drawn, toks, os⟩) (t' := ⟨k (), code, pos, stack⟩) (thr rfl) rfl rfl).symm
  | load a q k =>
    show @Bool.rec (fun _ => Option SharedT) none (ld (fun o => K _ (k o) code pos stack) (getX T a)) (Nat.blt a n) = _
    rw [getX_eq]
    have e : stepT den p w ⟨T, n, life, gens, drawn, toks, os⟩ ⟨.load a q k, code, pos, stack⟩ = match Nat.blt a n with
      | true => match T.get a with
        | some o => match alive o with
          | some o' => some (⟨T, n, life, gens, drawn, toks, os⟩, ⟨k o', code, pos, stack⟩)
          | none => none
        | none => none
      | false => none := rfl
    cases h1 : Nat.blt a n with
    | false =>
      rw [h1] at e
      exact (fb_none (thr rfl) rfl e).symm
    | true =>
      rw [h1] at e
      cases h2 : T.get a with
      | none =>
        rw [h2] at e
        exact (fb_none (thr rfl) rfl e).symm
      | some o =>
        rw [h2] at e
        show @Option.rec Obj (fun _ => Option SharedT) none (fun o => K _ (k o) code pos stack) (alive o) = _
        cases h3 : alive o with
        | none =>
          dsimp only at e
          rw [h3] at e
          exact (fb_none (thr rfl) rfl e).symm
        | some o' =>
          dsimp only at e
          rw [h3] at e
          exact (fb_some (thr rfl) rfl e).symm
  | update a q f k =>
    show @Bool.rec (fun _ => Option SharedT) none (@Bool.rec (fun _ => Option SharedT) none (ld (fun _ => K (wTree _ (setX f T a)) (k ()) code pos stack) (getX T a)) (Nat.blt a n)) (okUp n0 ann a) = _
    rw [getX_eq, setX_eq]
    have h0 : stepOk n0 ann ⟨.update a q f k, code, pos, stack⟩ = okUp n0 ann a := rfl
    have e : stepT den p w ⟨T, n, life, gens, drawn, toks, os⟩ ⟨.update a q f k, code, pos, stack⟩ = match Nat.blt a n with
      | true => match T.get a with
        | some o => match alive o with
          | some _ => some (⟨T.set a f, n, life, gens, drawn, toks, os⟩, ⟨k (), code, pos, stack⟩)
          | none => none
        | none => none
      | false => none := rfl
    cases h : okUp n0 ann a with
    | false => exact (fb_no (thr rfl) (h0.trans h)).symm
    | true =>
      have h0 := h0.trans h
      cases h1 : Nat.blt a n with
      | false =>
        rw [h1] at e
        exact (fb_none (thr rfl) h0 e).symm
      | true =>
        rw [h1] at e
        cases h2 : T.get a with
        | none =>
          rw [h2] at e
          exact (fb_none (thr rfl) h0 e).symm
        | some o =>
          rw [h2] at e
          show @Option.rec Obj (fun _ => Option SharedT) none (fun o => K _ (k ()) code pos stack) (alive o) = _
          cases h3 : alive o with
          | none =>
            dsimp only at e
            rw [h3] at e
            exact (fb_none (thr rfl) h0 e).symm
          | some o' =>
            dsimp only at e
            rw [h3] at e
            exact (fb_some (thr rfl) h0 e).symm
  | alloc o k =>
    show @Bool.rec (fun _ => Option SharedT) none (frNat (Nat.succ n) fun m => K (wIns _ (insX o T n) m) (k n) code pos stack) (getX (insX o T n) n).isSome = _
    rw [insX_eq, getX_eq, frNat_eq]
    have e : stepT den p w ⟨T, n, life, gens, drawn, toks, os⟩ ⟨.alloc o k, code, pos, stack⟩ = match ((T.ins n o).get n).isSome with
      | true => some (⟨T.ins n o, n + 1, life, gens, drawn, toks, os⟩, ⟨k n, code, pos, stack⟩)
      | false => none := rfl
    cases h1 : ((T.ins n o).get n).isSome with
    | false =>
      rw [h1] at e
      exact (fb_none (thr rfl) rfl e).symm
    | true =>
      rw [h1] at e
      exact (fb_some (thr rfl) rfl e).symm
  | loadIfAlive a k =>
    show @Bool.rec (fun _ => Option SharedT) (K _ (k none) code pos stack) (@Option.rec Obj (fun _ => Option SharedT) none (fun o => K _ (k (alive o)) code pos stack) (getX T a)) (Nat.blt a n) = _
    rw [getX_eq]
    have e : stepT den p w ⟨T, n, life, gens, drawn, toks, os⟩ ⟨.loadIfAlive a k, code, pos, stack⟩ = match Nat.blt a n with
      | true => match T.get a with
        | some o => some (⟨T, n, life, gens, drawn, toks, os⟩, ⟨k (alive o), code, pos, stack⟩)
        | none => none
      | false => some (⟨T, n, life, gens, drawn, toks, os⟩, ⟨k none, code, pos, stack⟩) := rfl
    cases h1 : Nat.blt a n with
    | false =>
      rw [h1] at e
      exact (fb_some (thr rfl) rfl e).symm
    | true =>
      rw [h1] at e
      cases h2 : T.get a with
      | none =>
        rw [h2] at e
        exact (fb_none (thr rfl) rfl e).symm
      | some o =>
        rw [h2] at e
        exact (fb_some (thr rfl) rfl e).symm
  | fresh k =>
    show (frNat (Nat.succ toks) fun m => K (wTok _ m) (k toks) code pos stack) = _
    rw [frNat_eq]
    exact (fb_some (s' := ⟨T, n, life, gens, drawn, toks + 1, os⟩) (t' := ⟨k toks, code, pos, stack⟩) (thr rfl) rfl rfl).symm
  | ask k => exact (fb_some (s' := ⟨T, n, life, gens, drawn, toks, os⟩) (t' := ⟨k ⟨p, w.params⟩, code, pos, stack⟩) (thr rfl) rfl rfl).symm
  | call c h g l k =>
    refine (fb_some (s' := ⟨T, n, life, gens, drawn, toks, os⟩) (t' := ⟨den c, c, pos, .ret k h g l code pos (keptX c code l) :: stack⟩) (thr rfl) rfl ?_).symm
    first
      | rfl
      | (cases code <;> cases c <;> rfl)
  | handled own k => exact (fb_some (s' := ⟨T, n, life, gens, drawn, toks, os⟩) (t' := ⟨k (hdX own stack), code, pos, stack⟩) (thr rfl) rfl rfl).symm
  | stack k => exact (fb_some (s' := ⟨T, n, life, gens, drawn, toks, os⟩) (t' := ⟨k ((code, pos) :: stack.map Frame.where_), code, pos, stack⟩) (thr rfl) rfl rfl).symm
  | unsupported _ => rfl
  | finish _ => rfl
  | register _ _ => rfl
  | choose _ _ _ => rfl
  | os _ _ _ => rfl
  | newGen _ _ => rfl
  | genState _ _ => rfl
  | resume _ _ _ _ => rfl
  | yield _ _ _ _ => rfl
  | fork _ _ => rfl
  | thread _ => rfl
  | await _ _ _ _ _ => rfl
theorem goX_eq : ∀ (m : Nat) (s : SharedT) (cur : Sem PySem.Fin) (code : Code) (pos : Pos) (stack : List Frame), goX den ⟨p, w.params⟩ (stepT den p w) n0 ann m s cur code pos stack = goF (stepT den p w) n0 ann m s ⟨cur, code, pos, stack⟩
  | 0, _, _, _, _, _ => rfl
  | m + 1, s, cur, code, pos, stack => by
    have ih : goX den ⟨p, w.params⟩ (stepT den p w) n0 ann m = fun s cur code pos stack => goF (stepT den p w) n0 ann m s ⟨cur, code, pos, stack⟩ := by
      funext s cur code pos stack
      exact goX_eq m s cur code pos stack
    show disp cur (goX den ⟨p, w.params⟩ (stepT den p w) n0 ann m) den ⟨p, w.params⟩ (stepT den p w) n0 ann s code pos stack = _
    rw [ih, disp_eq]
    show fb _ _ _ _ _ _ = (match through ⟨cur, code, pos, stack⟩ with
      | true => some s
      | false => match stepOk n0 ann ⟨cur, code, pos, stack⟩ with
        | false => none
        | true => match stepT den p w s ⟨cur, code, pos, stack⟩ with
          | some (s', t') => frS s' fun s' => goF (stepT den p w) n0 ann m s' t'
          | none => none)
    unfold fb
    cases through ⟨cur, code, pos, stack⟩ with
    | true => rfl
    | false =>
      cases stepOk n0 ann ⟨cur, code, pos, stack⟩ with
      | false => rfl
      | true =>
        cases stepT den p w s ⟨cur, code, pos, stack⟩ with
        | none => rfl
        | some q => rfl
end
theorem endX_eq (M : Nat) (p : Program) (w : World) (os : OsState) : endX (denQ tabQ) (stepQ (denQ tabQ) p w) M p w os = endF (stepQ (denQ tabQ) p w) M p w os := by
  rw [← stepQ_eq]
  unfold endX endF
  cases putAll (boot_heap w.params).objs.toList .nil 0 with
  | none => rfl
  | some r =>
    obtain ⟨t, n⟩ := r
    dsimp only
    rw [frNat_eq, frNat_eq]
    exact goX_eq M _ _ _ _ _
/-- the run's equation, asked of this run -/
theorem runEq_of {r : OpenRow} {q : Program} {H : Hook} {ob : SharedT → H.α} {M : Nat} {loose : List PySem.Str} {w : World}
    (h : ∀ os : OsState, (endX (denQ tabQ) (stepQ (denQ tabQ) r.prog w) M r.prog w os).map (fun s => (looksF r.prog (boot_heap w.params) s.abs, seenQ q loose (importedModules r.prog.main.body) (fun s => xlAt q [] s && recOk r.toRowW.records s) s.abs, ob s)) = some (true, openGood q loose, H.val w)) : RunEq r q H ob M loose w := fun os => by
  rw [← endX_eq]
  exact h os
end GoX

namespace Cd
open PySem PySem.Spec PyProof.Rows L2 QD
/-- law -/
def c0 : Ss := .cons (.for1 (.range1 (.blt .max2 (.cons (.lit (.int (1))) (.cons (.blt .min2 (.cons (.blt .len (.cons (.var 0) (.nil))) (.cons (.lit (.int (3))) (.nil)))) (.nil))))) [1] true (.cons (.asg 2 (.call 5 [.arg 0, .arg 1] (.cons (.var 0) (.cons (.var 1) (.nil))))) (.cons (.for1 (.seq (.lst (.cons (.call 1 [.arg 0, .arg 1] (.cons (.var 2) (.cons (.op .pow (.lit (.int (10))) (.lit (.int (9)))) (.nil)))) (.cons (.sub (.lit (.str ⟨#[97, 98, 99, 100]⟩)) (.call 1 [.arg 0, .arg 1] (.cons (.var 2) (.cons (.lit (.int (4))) (.nil))))) (.cons (.lit (.non)) (.nil)))))) [3] true (.cons (.asg 4 (.call 4 [.arg 0] (.cons (.var 3) (.nil)))) (.cons (.for1 (.range1 (.lit (.int (41)))) [5] true (.cons (.asg 6 (.call 3 [.arg 0] (.cons (.sub (.var 4) (.var 5)) (.nil)))) (.cons (.ifs (.or (.cmp .ne (.comp (.range1 (.lit (.int (41)))) [7] true [7] (.cons (.sub (.var 6) (.var 7)) (.nil)) (.var 7)) (.lst (.cons (.var 5) (.nil)))) (.cmp .ne (.xv (.sub (.var 4) (.var 5))) (.var 3))) (.cons (.ret (.lit (.bl false))) (.nil)) (.nil)) (.cons (.ifs (.cmp .ne (.call 2 [.arg 0] (.cons (.sub (.var 4) (.var 5)) (.nil))) (.lst (.cons (.cmp .lt (.var 5) (.lit (.int (33)))) (.cons (.cmp .lt (.var 5) (.lit (.int (33)))) (.cons (.cmp2 .le .lt (.lit (.int (33))) (.var 5) (.lit (.int (39)))) (.cons (.cmp .ge (.var 5) (.lit (.int (39)))) (.cons (.lit (.bl false)) (.cons (.cmp2 .le .lt (.lit (.int (33))) (.var 5) (.lit (.int (39)))) (.nil))))))))) (.cons (.ret (.lit (.bl false))) (.nil)) (.nil)) (.nil))))) (.cons (.ifs (.or (.cmp .ne (.xv (.mkx 34 (.var 3))) (.var 3)) (.cmp .ne (.call 2 [.arg 0] (.cons (.mkx 34 (.var 3)) (.nil))) (.lst (.cons (.lit (.bl false)) (.cons (.lit (.bl false)) (.cons (.lit (.bl true)) (.cons (.lit (.bl false)) (.cons (.lit (.bl false)) (.cons (.lit (.bl true)) (.nil)))))))))) (.cons (.ret (.lit (.bl false))) (.nil)) (.nil)) (.cons (.ifs (.cmp .ne (.call 2 [.arg 0] (.cons (.mkx 0 (.var 3)) (.nil))) (.lst (.cons (.lit (.bl true)) (.cons (.lit (.bl true)) (.cons (.lit (.bl false)) (.cons (.lit (.bl false)) (.cons (.lit (.bl false)) (.cons (.lit (.bl false)) (.nil))))))))) (.cons (.ret (.lit (.bl false))) (.nil)) (.nil)) (.cons (.ifs (.or (.cmp .ne (.xv (.mkx 0 (.var 3))) (.var 3)) (.cmp .ne (.call 2 [.arg 0] (.cons (.mkx0 43) (.nil))) (.op .add (.op .mul (.lst (.cons (.lit (.bl false)) (.nil))) (.lit (.int (4)))) (.lst (.cons (.lit (.bl true)) (.cons (.lit (.bl false)) (.nil))))))) (.cons (.ret (.lit (.bl false))) (.nil)) (.nil)) (.nil))))))) (.nil)))) (.cons (.ret (.lit (.bl true))) (.nil))
/-- _law_take -/
def c1 : Ss := .cons (.ifs (.cmp .gt (.sub (.var 0) (.lit (.int (0)))) (.lit (.int (0)))) (.cons (.asg 2 (.op .mod (.blt .int1 (.cons (.sub (.var 0) (.lit (.int (0)))) (.nil))) (.var 1))) (.cons (.setI (.var 0) (.lit (.int (0))) (.op .fdiv (.sub (.var 0) (.lit (.int (0)))) (.var 1))) (.cons (.ret (.var 2)) (.nil)))) (.nil)) (.cons (.setI (.var 0) (.lit (.int (1))) (.op .mod (.blt .int1 (.cons (.op .add (.op .mul (.sub (.var 0) (.lit (.int (1)))) (.lit (.int (48271)))) (.lit (.int (11)))) (.nil))) (.lit (.int (2147483647))))) (.cons (.ret (.op .mod (.op .fdiv (.op .mod (.blt .int1 (.cons (.op .mul (.sub (.var 0) (.lit (.int (1)))) (.sub (.var 0) (.lit (.int (1))))) (.nil))) (.lit (.int (2147483629)))) (.lit (.int (64)))) (.var 1))) (.nil)))
/-- _law_roots -/
def c2 : Ss := .cons (.asg 1 (.lst (.cons (.xis (.var 0) 0) (.cons (.xis (.var 0) 900) (.cons (.xis (.var 0) 901) (.nil)))))) (.cons (.ret (.op .add (.var 1) (.lst (.cons (.xis (.var 0) 902) (.cons (.xis (.var 0) 903) (.cons (.xis (.var 0) 34) (.nil))))))) (.nil))
/-- _law_kinds -/
def c3 : Ss := .cons (.asg 1 (.lst (.nil))) (.cons (.asg 1 (.op .add (.var 1) (.lst (.cons (.xis (.var 0) 1) (.cons (.xis (.var 0) 2) (.cons (.xis (.var 0) 3) (.nil))))))) (.cons (.asg 1 (.op .add (.var 1) (.lst (.cons (.xis (.var 0) 4) (.cons (.xis (.var 0) 5) (.cons (.xis (.var 0) 6) (.nil))))))) (.cons (.asg 1 (.op .add (.var 1) (.lst (.cons (.xis (.var 0) 7) (.cons (.xis (.var 0) 8) (.cons (.xis (.var 0) 9) (.nil))))))) (.cons (.asg 1 (.op .add (.var 1) (.lst (.cons (.xis (.var 0) 10) (.cons (.xis (.var 0) 11) (.cons (.xis (.var 0) 12) (.nil))))))) (.cons (.asg 1 (.op .add (.var 1) (.lst (.cons (.xis (.var 0) 13) (.cons (.xis (.var 0) 14) (.cons (.xis (.var 0) 15) (.nil))))))) (.cons (.asg 1 (.op .add (.var 1) (.lst (.cons (.xis (.var 0) 16) (.cons (.xis (.var 0) 17) (.cons (.xis (.var 0) 18) (.nil))))))) (.cons (.asg 1 (.op .add (.var 1) (.lst (.cons (.xis (.var 0) 19) (.cons (.xis (.var 0) 20) (.cons (.xis (.var 0) 21) (.nil))))))) (.cons (.asg 1 (.op .add (.var 1) (.lst (.cons (.xis (.var 0) 22) (.cons (.xis (.var 0) 23) (.cons (.xis (.var 0) 24) (.nil))))))) (.cons (.asg 1 (.op .add (.var 1) (.lst (.cons (.xis (.var 0) 25) (.cons (.xis (.var 0) 26) (.cons (.xis (.var 0) 27) (.nil))))))) (.cons (.asg 1 (.op .add (.var 1) (.lst (.cons (.xis (.var 0) 28) (.cons (.xis (.var 0) 29) (.cons (.xis (.var 0) 30) (.nil))))))) (.cons (.asg 1 (.op .add (.var 1) (.lst (.cons (.xis (.var 0) 31) (.cons (.xis (.var 0) 32) (.cons (.xis (.var 0) 33) (.nil))))))) (.cons (.asg 1 (.op .add (.var 1) (.lst (.cons (.xis (.var 0) 35) (.cons (.xis (.var 0) 36) (.cons (.xis (.var 0) 37) (.nil))))))) (.cons (.asg 1 (.op .add (.var 1) (.lst (.cons (.xis (.var 0) 38) (.cons (.xis (.var 0) 39) (.cons (.xis (.var 0) 40) (.nil))))))) (.cons (.asg 1 (.op .add (.var 1) (.lst (.cons (.xis (.var 0) 41) (.cons (.xis (.var 0) 42) (.nil)))))) (.cons (.ret (.var 1)) (.nil))))))))))))))))
/-- _law_values -/
def c4 : Ss := .cons (.asg 1 (.call 6 [.arg 0] (.cons (.var 0) (.nil)))) (.cons (.asg 1 (.op .add (.var 1) (.lst (.cons (.mkx 35 (.var 0)) (.cons (.mkx 36 (.var 0)) (.cons (.mkx 37 (.var 0)) (.cons (.mkx 38 (.var 0)) (.cons (.mkx 39 (.var 0)) (.nil))))))))) (.cons (.asg 1 (.op .add (.var 1) (.lst (.cons (.mkx 40 (.var 0)) (.cons (.mkx 41 (.var 0)) (.cons (.mkx 42 (.var 0)) (.nil))))))) (.cons (.ret (.var 1)) (.nil))))
/-- _law_pool -/
def c5 : Ss := .cons (.asg 2 (.ite (.cmp .lt (.var 1) (.blt .len (.cons (.var 0) (.nil)))) (.sub (.var 0) (.var 1)) (.lit (.int (0))))) (.cons (.asg 3 (.op .mul (.blt .int1 (.cons (.op .add (.op .add (.op .mod (.blt .int1 (.cons (.var 2) (.nil))) (.lit (.int (2147483629)))) (.op .mul (.op .mul (.lit (.int (7919))) (.var 1)) (.var 1))) (.lit (.int (13)))) (.nil))) (.lit (.int (48271))))) (.cons (.ret (.lst (.cons (.ite (.cmp .ge (.var 2) (.op .pow (.lit (.int (10))) (.lit (.int (18))))) (.var 2) (.lit (.int (0)))) (.cons (.op .add (.op .mod (.blt .int1 (.cons (.var 3) (.nil))) (.lit (.int (2147483647)))) (.lit (.int (1)))) (.nil))))) (.nil)))
/-- _law_first_values -/
def c6 : Ss := .cons (.asg 1 (.lst (.nil))) (.cons (.asg 1 (.op .add (.var 1) (.lst (.cons (.mkx 1 (.var 0)) (.cons (.mkx 2 (.var 0)) (.cons (.mkx 3 (.var 0)) (.cons (.mkx 4 (.var 0)) (.cons (.mkx 5 (.var 0)) (.nil))))))))) (.cons (.asg 1 (.op .add (.var 1) (.lst (.cons (.mkx 6 (.var 0)) (.cons (.mkx 7 (.var 0)) (.cons (.mkx 8 (.var 0)) (.cons (.mkx 9 (.var 0)) (.cons (.mkx 10 (.var 0)) (.nil))))))))) (.cons (.asg 1 (.op .add (.var 1) (.lst (.cons (.mkx 11 (.var 0)) (.cons (.mkx 12 (.var 0)) (.cons (.mkx 13 (.var 0)) (.cons (.mkx 14 (.var 0)) (.cons (.mkx 15 (.var 0)) (.nil))))))))) (.cons (.asg 1 (.op .add (.var 1) (.lst (.cons (.mkx 16 (.var 0)) (.cons (.mkx 17 (.var 0)) (.cons (.mkx 18 (.var 0)) (.cons (.mkx 19 (.var 0)) (.cons (.mkx 20 (.var 0)) (.nil))))))))) (.cons (.asg 1 (.op .add (.var 1) (.lst (.cons (.mkx 21 (.var 0)) (.cons (.mkx 22 (.var 0)) (.cons (.mkx 23 (.var 0)) (.cons (.mkx 24 (.var 0)) (.cons (.mkx 25 (.var 0)) (.nil))))))))) (.cons (.asg 1 (.op .add (.var 1) (.lst (.cons (.mkx 26 (.var 0)) (.cons (.mkx 27 (.var 0)) (.cons (.mkx 28 (.var 0)) (.cons (.mkx 29 (.var 0)) (.cons (.mkx 30 (.var 0)) (.nil))))))))) (.cons (.asg 1 (.op .add (.var 1) (.lst (.cons (.mkx 31 (.var 0)) (.cons (.mkx 32 (.var 0)) (.cons (.mkx 33 (.var 0)) (.nil))))))) (.cons (.ret (.var 1)) (.nil)))))))))
def spl : List (Nat × Fn) := []
def sp (h : Nat) : Option Fn := spl.lookup h
def gvs : List D := []
def kts : List (List (Str × D)) := []
def pt : List (Nat × Str × Nat) := []
def mt : List (Nat × Str × Nat) := []
def ft : List (Nat × Str) := []
def ic : List Nat := []
def ot : List (Nat × Str × Nat) := []
def xask : List Nat := [0, 900, 901, 902, 903, 34, 1, 2, 3, 4, 5, 6, 7, 8, 9, 10, 11, 12, 13, 14, 15, 16, 17, 18, 19, 20, 21, 22, 23, 24, 25, 26, 27, 28, 29, 30, 31, 32, 33, 35, 36, 37, 38, 39, 40, 41, 42]
def xrows : List (List Nat) := [[0, 900], [0, 900, 1], [0, 900, 2], [0, 900, 3], [0, 900, 4], [0, 900, 5], [0, 900, 6], [0, 900, 7], [0, 900, 8], [0, 900, 9], [0, 900, 10], [0, 900, 11], [0, 900, 12], [0, 900, 13], [0, 900, 14], [0, 900, 15], [0, 900, 16], [0, 900, 17], [0, 900, 18], [0, 900, 19], [0, 900, 20], [0, 900, 21], [0, 900, 22], [0, 900, 23], [0, 900, 24], [0, 900, 25], [0, 900, 26], [0, 900, 27], [0, 900, 28], [0, 900, 29], [0, 900, 30], [0, 900, 31], [0, 900, 32], [0, 900, 33], [901, 34], [901, 34, 35], [901, 34, 36], [901, 34, 37], [901, 34, 38], [901, 34, 39], [901, 34, 40], [902, 41], [902, 42], [903]]
def xs : Nat → Nat → Option Bool := xsR xask xrows
abbrev G : Gd := gdOf gvs kts pt mt ot ft ic xs
def top (i : Nat) : Stmt := PySem.Challenge.pw_signskept_k05_exceptions_apart.main.body.getD i (.Pass ⟨0, 0, 0, 0⟩)
def inCls : Stmt → List Stmt
  | .ClassDef (body := b) .. => b
  | _ => []
local macro_rules | `(tactic| walk_at "pd_vis") => `(tactic| first | exact Or.inl rfl | exact Or.inr (Or.inr rfl) | exact Or.inr (Or.inl rfl))
local macro_rules | `(tactic| walk_at "pd_loc") => `(tactic| first | exact Or.inl rfl | exact Or.inr rfl)
local macro_rules | `(tactic| walk_at "pd_fnl") => `(tactic| first | exact Or.inr rfl | exact Or.inl rfl)
abbrev s0 : Stmt := top 52
def n0 : List Str := [PySem.Str.ofString "script", PySem.Str.ofString "k", PySem.Str.ofString "pool", PySem.Str.ofString "value", PySem.Str.ofString "made", PySem.Str.ofString "at", PySem.Str.ofString "kinds", PySem.Str.ofString "to"]
def p0 : List Str := [PySem.Str.ofString "script"]
def q0 : String := "law"
abbrev s1 : Stmt := top 47
def n1 : List Str := [PySem.Str.ofString "pool", PySem.Str.ofString "many", PySem.Str.ofString "found"]
def p1 : List Str := [PySem.Str.ofString "pool", PySem.Str.ofString "many"]
def q1 : String := "_law_take"
abbrev s2 : Stmt := top 51
def n2 : List Str := [PySem.Str.ofString "e", PySem.Str.ofString "found"]
def p2 : List Str := [PySem.Str.ofString "e"]
def q2 : String := "_law_roots"
abbrev s3 : Stmt := top 48
def n3 : List Str := [PySem.Str.ofString "e", PySem.Str.ofString "found"]
def p3 : List Str := [PySem.Str.ofString "e"]
def q3 : String := "_law_kinds"
abbrev s4 : Stmt := top 50
def n4 : List Str := [PySem.Str.ofString "value", PySem.Str.ofString "found"]
def p4 : List Str := [PySem.Str.ofString "value"]
def q4 : String := "_law_values"
abbrev s5 : Stmt := top 46
def n5 : List Str := [PySem.Str.ofString "script", PySem.Str.ofString "k", PySem.Str.ofString "cell", PySem.Str.ofString "seed"]
def p5 : List Str := [PySem.Str.ofString "script", PySem.Str.ofString "k"]
def q5 : String := "_law_pool"
abbrev s6 : Stmt := top 49
def n6 : List Str := [PySem.Str.ofString "value", PySem.Str.ofString "found"]
def p6 : List Str := [PySem.Str.ofString "value"]
def q6 : String := "_law_first_values"
structure Calls (X : Cx) (L : Pl) (cf : Nat → List D → Store → Res D) : Prop where
  k0 : CallOk X L cf "_law_take" 1 2 [.arg 0, .arg 1]
  k1 : RaisOk X L "SignsError" 0
  k2 : CallOk X L cf "_law_roots" 2 1 [.arg 0]
  k3 : RaisOk0 X L "NothingToUndo" 43
  k4 : RaisOk X L "Absent" 34
  k5 : CallOk X L cf "_law_kinds" 3 1 [.arg 0]
  k6 : CallOk X L cf "_law_values" 4 1 [.arg 0]
  k7 : CallOk X L cf "_law_pool" 5 2 [.arg 0, .arg 1]
  k8 : RaisOk X L "TooMany" 42
  k9 : RaisOk X L "TooLarge" 41
  k10 : RaisOk X L "NoFunction" 40
  k11 : RaisOk X L "NoEntry" 39
  k12 : RaisOk X L "NoVariable" 38
  k13 : RaisOk X L "NoPlace" 37
  k14 : RaisOk X L "NoBlock" 36
  k15 : RaisOk X L "NoOperation" 35
  k16 : CallOk X L cf "_law_first_values" 6 1 [.arg 0]
  k17 : RaisOk X L "BadChosen" 33
  k18 : RaisOk X L "BadChange" 32
  k19 : RaisOk X L "BadTurns" 31
  k20 : RaisOk X L "BadBooks" 30
  k21 : RaisOk X L "BadBook" 29
  k22 : RaisOk X L "BadPromise" 28
  k23 : RaisOk X L "BadPromises" 27
  k24 : RaisOk X L "BadGroup" 26
  k25 : RaisOk X L "BadFunction" 25
  k26 : RaisOk X L "BadFunctions" 24
  k27 : RaisOk X L "BadFlow" 23
  k28 : RaisOk X L "BadFrequencies" 22
  k29 : RaisOk X L "BadPuts" 21
  k30 : RaisOk X L "NoEnd" 20
  k31 : RaisOk X L "NotSimple" 19
  k32 : RaisOk X L "BadKind" 18
  k33 : RaisOk X L "BadDraft" 17
  k34 : RaisOk X L "BadText" 16
  k35 : RaisOk X L "BadRun" 15
  k36 : RaisOk X L "BadRoad" 14
  k37 : RaisOk X L "BadProgram" 13
  k38 : RaisOk X L "BadRow" 12
  k39 : RaisOk X L "BadStarts" 11
  k40 : RaisOk X L "BadBlocks" 10
  k41 : RaisOk X L "BadTable" 9
  k42 : RaisOk X L "BadOperands" 8
  k43 : RaisOk X L "BadOperation" 7
  k44 : RaisOk X L "BadWants" 6
  k45 : RaisOk X L "BadArity" 5
  k46 : RaisOk X L "Unlike" 4
  k47 : RaisOk X L "BadNumber" 3
  k48 : RaisOk X L "BadMark" 2
  k49 : RaisOk X L "BadDress" 1
theorem Calls.blk {X : Cx} {L : Pl} {cf : Nat → List D → Store → Res D} {s : Shared} {H : Hp} {sc : Scope} {e : Env} {fp : List Addr} (h : Calls X L cf) : Calls (X.blk s H sc e fp) L cf := ⟨h.k0.blk, h.k1.blk, h.k2.blk, h.k3.blk, h.k4.blk, h.k5.blk, h.k6.blk, h.k7.blk, h.k8.blk, h.k9.blk, h.k10.blk, h.k11.blk, h.k12.blk, h.k13.blk, h.k14.blk, h.k15.blk, h.k16.blk, h.k17.blk, h.k18.blk, h.k19.blk, h.k20.blk, h.k21.blk, h.k22.blk, h.k23.blk, h.k24.blk, h.k25.blk, h.k26.blk, h.k27.blk, h.k28.blk, h.k29.blk, h.k30.blk, h.k31.blk, h.k32.blk, h.k33.blk, h.k34.blk, h.k35.blk, h.k36.blk, h.k37.blk, h.k38.blk, h.k39.blk, h.k40.blk, h.k41.blk, h.k42.blk, h.k43.blk, h.k44.blk, h.k45.blk, h.k46.blk, h.k47.blk, h.k48.blk, h.k49.blk⟩
theorem Calls.tr {X : Cx} {L : Pl} {cf : Nat → List D → Store → Res D} {pn : List (Addr × Obj)} {xe : Value → Shared → Prop} (h : Calls X L cf) : Calls (X.tr pn xe) L cf := ⟨h.k0.tr, h.k1.tr, h.k2.tr, h.k3.tr, h.k4.tr, h.k5.tr, h.k6.tr, h.k7.tr, h.k8.tr, h.k9.tr, h.k10.tr, h.k11.tr, h.k12.tr, h.k13.tr, h.k14.tr, h.k15.tr, h.k16.tr, h.k17.tr, h.k18.tr, h.k19.tr, h.k20.tr, h.k21.tr, h.k22.tr, h.k23.tr, h.k24.tr, h.k25.tr, h.k26.tr, h.k27.tr, h.k28.tr, h.k29.tr, h.k30.tr, h.k31.tr, h.k32.tr, h.k33.tr, h.k34.tr, h.k35.tr, h.k36.tr, h.k37.tr, h.k38.tr, h.k39.tr, h.k40.tr, h.k41.tr, h.k42.tr, h.k43.tr, h.k44.tr, h.k45.tr, h.k46.tr, h.k47.tr, h.k48.tr, h.k49.tr⟩
structure Mg (X : Cx) (L : Pl) : Prop where
  triv : True
  xt : XtOk X L xs
  b_KeyError : X.mg "KeyError" = none
  b_OverflowError : X.mg "OverflowError" = none
  b_RuntimeError : X.mg "RuntimeError" = none
  b_ValueError : X.mg "ValueError" = none
  b_int : X.mg "int" = none
  b_isinstance : X.mg "isinstance" = none
  b_len : X.mg "len" = none
  b_max : X.mg "max" = none
  b_min : X.mg "min" = none
  b_range : X.mg "range" = none
  c_Absent : X.mg "Absent" = some (.ref (L.cla 34))
  c_BadArity : X.mg "BadArity" = some (.ref (L.cla 5))
  c_BadBlocks : X.mg "BadBlocks" = some (.ref (L.cla 10))
  c_BadBook : X.mg "BadBook" = some (.ref (L.cla 29))
  c_BadBooks : X.mg "BadBooks" = some (.ref (L.cla 30))
  c_BadChange : X.mg "BadChange" = some (.ref (L.cla 32))
  c_BadChosen : X.mg "BadChosen" = some (.ref (L.cla 33))
  c_BadDraft : X.mg "BadDraft" = some (.ref (L.cla 17))
  c_BadDress : X.mg "BadDress" = some (.ref (L.cla 1))
  c_BadFlow : X.mg "BadFlow" = some (.ref (L.cla 23))
  c_BadFrequencies : X.mg "BadFrequencies" = some (.ref (L.cla 22))
  c_BadFunction : X.mg "BadFunction" = some (.ref (L.cla 25))
  c_BadFunctions : X.mg "BadFunctions" = some (.ref (L.cla 24))
  c_BadGroup : X.mg "BadGroup" = some (.ref (L.cla 26))
  c_BadKind : X.mg "BadKind" = some (.ref (L.cla 18))
  c_BadMark : X.mg "BadMark" = some (.ref (L.cla 2))
  c_BadNumber : X.mg "BadNumber" = some (.ref (L.cla 3))
  c_BadOperands : X.mg "BadOperands" = some (.ref (L.cla 8))
  c_BadOperation : X.mg "BadOperation" = some (.ref (L.cla 7))
  c_BadProgram : X.mg "BadProgram" = some (.ref (L.cla 13))
  c_BadPromise : X.mg "BadPromise" = some (.ref (L.cla 28))
  c_BadPromises : X.mg "BadPromises" = some (.ref (L.cla 27))
  c_BadPuts : X.mg "BadPuts" = some (.ref (L.cla 21))
  c_BadRoad : X.mg "BadRoad" = some (.ref (L.cla 14))
  c_BadRow : X.mg "BadRow" = some (.ref (L.cla 12))
  c_BadRun : X.mg "BadRun" = some (.ref (L.cla 15))
  c_BadStarts : X.mg "BadStarts" = some (.ref (L.cla 11))
  c_BadTable : X.mg "BadTable" = some (.ref (L.cla 9))
  c_BadText : X.mg "BadText" = some (.ref (L.cla 16))
  c_BadTurns : X.mg "BadTurns" = some (.ref (L.cla 31))
  c_BadWants : X.mg "BadWants" = some (.ref (L.cla 6))
  c_NoBlock : X.mg "NoBlock" = some (.ref (L.cla 36))
  c_NoEnd : X.mg "NoEnd" = some (.ref (L.cla 20))
  c_NoEntry : X.mg "NoEntry" = some (.ref (L.cla 39))
  c_NoFunction : X.mg "NoFunction" = some (.ref (L.cla 40))
  c_NoOperation : X.mg "NoOperation" = some (.ref (L.cla 35))
  c_NoPlace : X.mg "NoPlace" = some (.ref (L.cla 37))
  c_NoVariable : X.mg "NoVariable" = some (.ref (L.cla 38))
  c_NotSimple : X.mg "NotSimple" = some (.ref (L.cla 19))
  c_SignsError : X.mg "SignsError" = some (.ref (L.cla 0))
  c_TooLarge : X.mg "TooLarge" = some (.ref (L.cla 41))
  c_TooMany : X.mg "TooMany" = some (.ref (L.cla 42))
  c_Unlike : X.mg "Unlike" = some (.ref (L.cla 4))
def OKD (L : Pl) (X : Cx) (cf : Nat → List D → Store → Res D) : Prop := EnvOk X L G cf ∧ Calls X L cf ∧ Mg X L
structure Lam (X : Cx) (L : Pl) (cf : Nat → List D → Store → Res D) : Prop where
  lo : Low X L G cf sp (OKD L)
  mkr : MkrOk X L
theorem b0 {P : Program} {w : World} {K : PySem.W.Frag} {mg : Str → Option Value} {base : Heap} {f : Addr} {cdv : Value} {A : Around} {outer : List Env} {s : Shared} {H : Hp} {EX : XK} {L : Pl} {cf : Nat → List D → Store → Res D} (X : Cx) (hX : X = cxOf (L2.CX P w) P w K mg base n0 q0 (defScope s0) f cdv A outer s H EX)
    (E : EnvOk X L G cf) (Ca : Calls X L cf) (M : Mg X L) : SimSs X L G cf (defBody s0) c0 := by
  have hp : PassesOwn (model X.prog X.w) X.A X.env X.xe := by subst hX; exact passes_of rfl
  subst hX
  exact (sss_cons (ss_for hp rfl (ii_range1 (by unfold Gl; kernel_rfl) (M.b_range) (si_max2 rfl (by unfold Gl; kernel_rfl) (M.b_max) (sa_cons si_int (sa_cons (si_min2 rfl (by unfold Gl; kernel_rfl) (M.b_min) (sa_cons (si_len E (by unfold Gl; kernel_rfl) (M.b_len) (sa_cons (si_var rfl (by walk_at "pd_vis")) sa_nil)) (sa_cons si_int sa_nil))) sa_nil)))) (sg_name E.nd rfl (by walk_at "pd_loc") (by walk_at "pd_fnl")) (sss_cons (ss_set E.nd rfl (by walk_at "pd_loc") (Or.inl rfl) (si_call Ca.k7 (by unfold Gl; kernel_rfl) (sa_cons (si_var rfl (by walk_at "pd_vis")) (sa_cons (si_var rfl (by walk_at "pd_vis")) sa_nil)))) (sss_cons (ss_for hp rfl (ii_seq (si_lst (sa_cons (si_call Ca.k0 (by unfold Gl; kernel_rfl) (sa_cons (si_var rfl (by walk_at "pd_vis")) (sa_cons (si_bin (o := .pow) (og_pow E) si_int si_int) sa_nil))) (sa_cons (si_sub E (si_strE (by kernel_rfl)) (si_call Ca.k0 (by unfold Gl; kernel_rfl) (sa_cons (si_var rfl (by walk_at "pd_vis")) (sa_cons si_int sa_nil)))) (sa_cons si_non sa_nil))))) (sg_name E.nd rfl (by walk_at "pd_loc") (by walk_at "pd_fnl")) (sss_cons (ss_set E.nd rfl (by walk_at "pd_loc") (Or.inl rfl) (si_call Ca.k6 (by unfold Gl; kernel_rfl) (sa_cons (si_var rfl (by walk_at "pd_vis")) sa_nil))) (sss_cons (ss_for hp rfl (ii_range1 (by unfold Gl; kernel_rfl) (M.b_range) si_int) (sg_name E.nd rfl (by walk_at "pd_loc") (by walk_at "pd_fnl")) (sss_cons (ss_set E.nd rfl (by walk_at "pd_loc") (Or.inl rfl) (si_call Ca.k5 (by unfold Gl; kernel_rfl) (sa_cons (si_sub E (si_var rfl (by walk_at "pd_vis")) (si_var rfl (by walk_at "pd_vis"))) sa_nil))) (sss_cons (ss_if (st_w (sw_or (st_cmp (cg_ne E) (si_lc (own := [(PySem.Str.ofString "to", 7)]) rfl rfl E.nd (ii_range1 (by unfold Gl; kernel_rfl) (M.b_range) si_int) (fun _ _ _ _ _ => (sg_name ((E).blk).nd rfl (by walk_at "pd_loc") (by walk_at "pd_fnl"))) (fun _ _ _ _ _ => (sts_one (st_val (si_sub ((E).blk) (si_var rfl (by walk_at "pd_vis")) (si_var rfl (by walk_at "pd_vis")))))) (fun _ _ _ _ _ => (si_var rfl (by walk_at "pd_vis"))) (blkOk_by (by kernel_rfl)) (by decide)) (si_lst (sa_cons (si_var rfl (by walk_at "pd_vis")) sa_nil)) (nomark _)) (sw_or1 (st_cmp (cg_ne E) (si_xv M.xt (si_sub E (si_var rfl (by walk_at "pd_vis")) (si_var rfl (by walk_at "pd_vis")))) (si_var rfl (by walk_at "pd_vis")) (nomark _))))) (sss_cons (ss_ret si_bl) sss_nil) sss_nil) (sss_cons (ss_if (st_cmp (cg_ne E) (si_call Ca.k2 (by unfold Gl; kernel_rfl) (sa_cons (si_sub E (si_var rfl (by walk_at "pd_vis")) (si_var rfl (by walk_at "pd_vis"))) sa_nil)) (si_lst (sa_cons (si_cmp (cg_lt) (si_var rfl (by walk_at "pd_vis")) si_int (nomark _)) (sa_cons (si_cmp (cg_lt) (si_var rfl (by walk_at "pd_vis")) si_int (nomark _)) (sa_cons (si_chain (cd_le) (cd_lt) si_int (si_var rfl (by walk_at "pd_vis")) si_int) (sa_cons (si_cmp (cg_ge) (si_var rfl (by walk_at "pd_vis")) si_int (nomark _)) (sa_cons si_bl (sa_cons (si_chain (cd_le) (cd_lt) si_int (si_var rfl (by walk_at "pd_vis")) si_int) sa_nil))))))) (nomark _)) (sss_cons (ss_ret si_bl) sss_nil) sss_nil) sss_nil)))) (sss_cons (ss_if (st_w (sw_or (st_cmp (cg_ne E) (si_xv M.xt (si_mkx Ca.k4 (by unfold Gl; kernel_rfl) (si_var rfl (by walk_at "pd_vis")))) (si_var rfl (by walk_at "pd_vis")) (nomark _)) (sw_or1 (st_cmp (cg_ne E) (si_call Ca.k2 (by unfold Gl; kernel_rfl) (sa_cons (si_mkx Ca.k4 (by unfold Gl; kernel_rfl) (si_var rfl (by walk_at "pd_vis"))) sa_nil)) (si_lst (sa_cons si_bl (sa_cons si_bl (sa_cons si_bl (sa_cons si_bl (sa_cons si_bl (sa_cons si_bl sa_nil))))))) (nomark _))))) (sss_cons (ss_ret si_bl) sss_nil) sss_nil) (sss_cons (ss_if (st_cmp (cg_ne E) (si_call Ca.k2 (by unfold Gl; kernel_rfl) (sa_cons (si_mkx Ca.k1 (by unfold Gl; kernel_rfl) (si_var rfl (by walk_at "pd_vis"))) sa_nil)) (si_lst (sa_cons si_bl (sa_cons si_bl (sa_cons si_bl (sa_cons si_bl (sa_cons si_bl (sa_cons si_bl sa_nil))))))) (nomark _)) (sss_cons (ss_ret si_bl) sss_nil) sss_nil) (sss_cons (ss_if (st_w (sw_or (st_cmp (cg_ne E) (si_xv M.xt (si_mkx Ca.k1 (by unfold Gl; kernel_rfl) (si_var rfl (by walk_at "pd_vis")))) (si_var rfl (by walk_at "pd_vis")) (nomark _)) (sw_or1 (st_cmp (cg_ne E) (si_call Ca.k2 (by unfold Gl; kernel_rfl) (sa_cons (si_mkx0 Ca.k3 (by unfold Gl; kernel_rfl)) sa_nil)) (si_bin (o := .add) (og_add E) (si_bin (o := .mul) (og_mul E) (si_lst (sa_cons si_bl sa_nil)) si_int) (si_lst (sa_cons si_bl (sa_cons si_bl sa_nil)))) (nomark _))))) (sss_cons (ss_ret si_bl) sss_nil) sss_nil) sss_nil)))))) sss_nil))) (sss_cons (ss_ret si_bl) sss_nil))
theorem b1 {P : Program} {w : World} {K : PySem.W.Frag} {mg : Str → Option Value} {base : Heap} {f : Addr} {cdv : Value} {A : Around} {outer : List Env} {s : Shared} {H : Hp} {EX : XK} {L : Pl} {cf : Nat → List D → Store → Res D} (X : Cx) (hX : X = cxOf (L2.CX P w) P w K mg base n1 q1 (defScope s1) f cdv A outer s H EX)
    (E : EnvOk X L G cf) (Ca : Calls X L cf) (M : Mg X L) : SimSs X L G cf (defBody s1) c1 := by
  have hp : PassesOwn (model X.prog X.w) X.A X.env X.xe := by subst hX; exact passes_of rfl
  subst hX
  exact (sss_cons (ss_if (st_cmp (cg_gt) (si_sub E (si_var rfl (by walk_at "pd_vis")) si_int) si_int (nomark _)) (sss_cons (ss_set E.nd rfl (by walk_at "pd_loc") (Or.inl rfl) (si_bin (o := .mod) (og_mod E) (si_int1 (by unfold Gl; kernel_rfl) (M.b_int) (sa_cons (si_sub E (si_var rfl (by walk_at "pd_vis")) si_int) sa_nil)) (si_var rfl (by walk_at "pd_vis")))) (sss_cons (ss_setI (si_bin (o := .fdiv) (og_fdiv E) (si_sub E (si_var rfl (by walk_at "pd_vis")) si_int) (si_var rfl (by walk_at "pd_vis"))) (si_var rfl (by walk_at "pd_vis")) si_int) (sss_cons (ss_ret (si_var rfl (by walk_at "pd_vis"))) sss_nil))) sss_nil) (sss_cons (ss_setI (si_bin (o := .mod) (og_mod E) (si_int1 (by unfold Gl; kernel_rfl) (M.b_int) (sa_cons (si_bin (o := .add) (og_add E) (si_bin (o := .mul) (og_mul E) (si_sub E (si_var rfl (by walk_at "pd_vis")) si_int) si_int) si_int) sa_nil)) si_int) (si_var rfl (by walk_at "pd_vis")) si_int) (sss_cons (ss_ret (si_bin (o := .mod) (og_mod E) (si_bin (o := .fdiv) (og_fdiv E) (si_bin (o := .mod) (og_mod E) (si_int1 (by unfold Gl; kernel_rfl) (M.b_int) (sa_cons (si_bin (o := .mul) (og_mul E) (si_sub E (si_var rfl (by walk_at "pd_vis")) si_int) (si_sub E (si_var rfl (by walk_at "pd_vis")) si_int)) sa_nil)) si_int) si_int) (si_var rfl (by walk_at "pd_vis")))) sss_nil)))
theorem b2 {P : Program} {w : World} {K : PySem.W.Frag} {mg : Str → Option Value} {base : Heap} {f : Addr} {cdv : Value} {A : Around} {outer : List Env} {s : Shared} {H : Hp} {EX : XK} {L : Pl} {cf : Nat → List D → Store → Res D} (X : Cx) (hX : X = cxOf (L2.CX P w) P w K mg base n2 q2 (defScope s2) f cdv A outer s H EX)
    (E : EnvOk X L G cf) (Ca : Calls X L cf) (M : Mg X L) : SimSs X L G cf (defBody s2) c2 := by
  have hp : PassesOwn (model X.prog X.w) X.A X.env X.xe := by subst hX; exact passes_of rfl
  subst hX
  exact (sss_cons (ss_set E.nd rfl (by walk_at "pd_loc") (Or.inl rfl) (si_lst (sa_cons (si_xisO M.xt (by unfold Gl; kernel_rfl) M.b_isinstance (si_var rfl (by walk_at "pd_vis")) (by unfold Gl; kernel_rfl) M.c_SignsError (by decide)) (sa_cons (si_xisB M.xt (by unfold Gl; kernel_rfl) M.b_isinstance (si_var rfl (by walk_at "pd_vis")) (by unfold Gl; kernel_rfl) M.b_ValueError (by kernel_rfl) (by decide) (by decide)) (sa_cons (si_xisB M.xt (by unfold Gl; kernel_rfl) M.b_isinstance (si_var rfl (by walk_at "pd_vis")) (by unfold Gl; kernel_rfl) M.b_KeyError (by kernel_rfl) (by decide) (by decide)) sa_nil))))) (sss_cons (ss_ret (si_bin (o := .add) (og_add E) (si_var rfl (by walk_at "pd_vis")) (si_lst (sa_cons (si_xisB M.xt (by unfold Gl; kernel_rfl) M.b_isinstance (si_var rfl (by walk_at "pd_vis")) (by unfold Gl; kernel_rfl) M.b_OverflowError (by kernel_rfl) (by decide) (by decide)) (sa_cons (si_xisB M.xt (by unfold Gl; kernel_rfl) M.b_isinstance (si_var rfl (by walk_at "pd_vis")) (by unfold Gl; kernel_rfl) M.b_RuntimeError (by kernel_rfl) (by decide) (by decide)) (sa_cons (si_xisO M.xt (by unfold Gl; kernel_rfl) M.b_isinstance (si_var rfl (by walk_at "pd_vis")) (by unfold Gl; kernel_rfl) M.c_Absent (by decide)) sa_nil)))))) sss_nil))
theorem b3 {P : Program} {w : World} {K : PySem.W.Frag} {mg : Str → Option Value} {base : Heap} {f : Addr} {cdv : Value} {A : Around} {outer : List Env} {s : Shared} {H : Hp} {EX : XK} {L : Pl} {cf : Nat → List D → Store → Res D} (X : Cx) (hX : X = cxOf (L2.CX P w) P w K mg base n3 q3 (defScope s3) f cdv A outer s H EX)
    (E : EnvOk X L G cf) (Ca : Calls X L cf) (M : Mg X L) : SimSs X L G cf (defBody s3) c3 := by
  have hp : PassesOwn (model X.prog X.w) X.A X.env X.xe := by subst hX; exact passes_of rfl
  subst hX
  exact (sss_cons (ss_set E.nd rfl (by walk_at "pd_loc") (Or.inl rfl) (si_lst sa_nil)) (sss_cons (ss_set E.nd rfl (by walk_at "pd_loc") (Or.inl rfl) (si_bin (o := .add) (og_add E) (si_var rfl (by walk_at "pd_vis")) (si_lst (sa_cons (si_xisO M.xt (by unfold Gl; kernel_rfl) M.b_isinstance (si_var rfl (by walk_at "pd_vis")) (by unfold Gl; kernel_rfl) M.c_BadDress (by decide)) (sa_cons (si_xisO M.xt (by unfold Gl; kernel_rfl) M.b_isinstance (si_var rfl (by walk_at "pd_vis")) (by unfold Gl; kernel_rfl) M.c_BadMark (by decide)) (sa_cons (si_xisO M.xt (by unfold Gl; kernel_rfl) M.b_isinstance (si_var rfl (by walk_at "pd_vis")) (by unfold Gl; kernel_rfl) M.c_BadNumber (by decide)) sa_nil)))))) (sss_cons (ss_set E.nd rfl (by walk_at "pd_loc") (Or.inl rfl) (si_bin (o := .add) (og_add E) (si_var rfl (by walk_at "pd_vis")) (si_lst (sa_cons (si_xisO M.xt (by unfold Gl; kernel_rfl) M.b_isinstance (si_var rfl (by walk_at "pd_vis")) (by unfold Gl; kernel_rfl) M.c_Unlike (by decide)) (sa_cons (si_xisO M.xt (by unfold Gl; kernel_rfl) M.b_isinstance (si_var rfl (by walk_at "pd_vis")) (by unfold Gl; kernel_rfl) M.c_BadArity (by decide)) (sa_cons (si_xisO M.xt (by unfold Gl; kernel_rfl) M.b_isinstance (si_var rfl (by walk_at "pd_vis")) (by unfold Gl; kernel_rfl) M.c_BadWants (by decide)) sa_nil)))))) (sss_cons (ss_set E.nd rfl (by walk_at "pd_loc") (Or.inl rfl) (si_bin (o := .add) (og_add E) (si_var rfl (by walk_at "pd_vis")) (si_lst (sa_cons (si_xisO M.xt (by unfold Gl; kernel_rfl) M.b_isinstance (si_var rfl (by walk_at "pd_vis")) (by unfold Gl; kernel_rfl) M.c_BadOperation (by decide)) (sa_cons (si_xisO M.xt (by unfold Gl; kernel_rfl) M.b_isinstance (si_var rfl (by walk_at "pd_vis")) (by unfold Gl; kernel_rfl) M.c_BadOperands (by decide)) (sa_cons (si_xisO M.xt (by unfold Gl; kernel_rfl) M.b_isinstance (si_var rfl (by walk_at "pd_vis")) (by unfold Gl; kernel_rfl) M.c_BadTable (by decide)) sa_nil)))))) (sss_cons (ss_set E.nd rfl (by walk_at "pd_loc") (Or.inl rfl) (si_bin (o := .add) (og_add E) (si_var rfl (by walk_at "pd_vis")) (si_lst (sa_cons (si_xisO M.xt (by unfold Gl; kernel_rfl) M.b_isinstance (si_var rfl (by walk_at "pd_vis")) (by unfold Gl; kernel_rfl) M.c_BadBlocks (by decide)) (sa_cons (si_xisO M.xt (by unfold Gl; kernel_rfl) M.b_isinstance (si_var rfl (by walk_at "pd_vis")) (by unfold Gl; kernel_rfl) M.c_BadStarts (by decide)) (sa_cons (si_xisO M.xt (by unfold Gl; kernel_rfl) M.b_isinstance (si_var rfl (by walk_at "pd_vis")) (by unfold Gl; kernel_rfl) M.c_BadRow (by decide)) sa_nil)))))) (sss_cons (ss_set E.nd rfl (by walk_at "pd_loc") (Or.inl rfl) (si_bin (o := .add) (og_add E) (si_var rfl (by walk_at "pd_vis")) (si_lst (sa_cons (si_xisO M.xt (by unfold Gl; kernel_rfl) M.b_isinstance (si_var rfl (by walk_at "pd_vis")) (by unfold Gl; kernel_rfl) M.c_BadProgram (by decide)) (sa_cons (si_xisO M.xt (by unfold Gl; kernel_rfl) M.b_isinstance (si_var rfl (by walk_at "pd_vis")) (by unfold Gl; kernel_rfl) M.c_BadRoad (by decide)) (sa_cons (si_xisO M.xt (by unfold Gl; kernel_rfl) M.b_isinstance (si_var rfl (by walk_at "pd_vis")) (by unfold Gl; kernel_rfl) M.c_BadRun (by decide)) sa_nil)))))) (sss_cons (ss_set E.nd rfl (by walk_at "pd_loc") (Or.inl rfl) (si_bin (o := .add) (og_add E) (si_var rfl (by walk_at "pd_vis")) (si_lst (sa_cons (si_xisO M.xt (by unfold Gl; kernel_rfl) M.b_isinstance (si_var rfl (by walk_at "pd_vis")) (by unfold Gl; kernel_rfl) M.c_BadText (by decide)) (sa_cons (si_xisO M.xt (by unfold Gl; kernel_rfl) M.b_isinstance (si_var rfl (by walk_at "pd_vis")) (by unfold Gl; kernel_rfl) M.c_BadDraft (by decide)) (sa_cons (si_xisO M.xt (by unfold Gl; kernel_rfl) M.b_isinstance (si_var rfl (by walk_at "pd_vis")) (by unfold Gl; kernel_rfl) M.c_BadKind (by decide)) sa_nil)))))) (sss_cons (ss_set E.nd rfl (by walk_at "pd_loc") (Or.inl rfl) (si_bin (o := .add) (og_add E) (si_var rfl (by walk_at "pd_vis")) (si_lst (sa_cons (si_xisO M.xt (by unfold Gl; kernel_rfl) M.b_isinstance (si_var rfl (by walk_at "pd_vis")) (by unfold Gl; kernel_rfl) M.c_NotSimple (by decide)) (sa_cons (si_xisO M.xt (by unfold Gl; kernel_rfl) M.b_isinstance (si_var rfl (by walk_at "pd_vis")) (by unfold Gl; kernel_rfl) M.c_NoEnd (by decide)) (sa_cons (si_xisO M.xt (by unfold Gl; kernel_rfl) M.b_isinstance (si_var rfl (by walk_at "pd_vis")) (by unfold Gl; kernel_rfl) M.c_BadPuts (by decide)) sa_nil)))))) (sss_cons (ss_set E.nd rfl (by walk_at "pd_loc") (Or.inl rfl) (si_bin (o := .add) (og_add E) (si_var rfl (by walk_at "pd_vis")) (si_lst (sa_cons (si_xisO M.xt (by unfold Gl; kernel_rfl) M.b_isinstance (si_var rfl (by walk_at "pd_vis")) (by unfold Gl; kernel_rfl) M.c_BadFrequencies (by decide)) (sa_cons (si_xisO M.xt (by unfold Gl; kernel_rfl) M.b_isinstance (si_var rfl (by walk_at "pd_vis")) (by unfold Gl; kernel_rfl) M.c_BadFlow (by decide)) (sa_cons (si_xisO M.xt (by unfold Gl; kernel_rfl) M.b_isinstance (si_var rfl (by walk_at "pd_vis")) (by unfold Gl; kernel_rfl) M.c_BadFunctions (by decide)) sa_nil)))))) (sss_cons (ss_set E.nd rfl (by walk_at "pd_loc") (Or.inl rfl) (si_bin (o := .add) (og_add E) (si_var rfl (by walk_at "pd_vis")) (si_lst (sa_cons (si_xisO M.xt (by unfold Gl; kernel_rfl) M.b_isinstance (si_var rfl (by walk_at "pd_vis")) (by unfold Gl; kernel_rfl) M.c_BadFunction (by decide)) (sa_cons (si_xisO M.xt (by unfold Gl; kernel_rfl) M.b_isinstance (si_var rfl (by walk_at "pd_vis")) (by unfold Gl; kernel_rfl) M.c_BadGroup (by decide)) (sa_cons (si_xisO M.xt (by unfold Gl; kernel_rfl) M.b_isinstance (si_var rfl (by walk_at "pd_vis")) (by unfold Gl; kernel_rfl) M.c_BadPromises (by decide)) sa_nil)))))) (sss_cons (ss_set E.nd rfl (by walk_at "pd_loc") (Or.inl rfl) (si_bin (o := .add) (og_add E) (si_var rfl (by walk_at "pd_vis")) (si_lst (sa_cons (si_xisO M.xt (by unfold Gl; kernel_rfl) M.b_isinstance (si_var rfl (by walk_at "pd_vis")) (by unfold Gl; kernel_rfl) M.c_BadPromise (by decide)) (sa_cons (si_xisO M.xt (by unfold Gl; kernel_rfl) M.b_isinstance (si_var rfl (by walk_at "pd_vis")) (by unfold Gl; kernel_rfl) M.c_BadBook (by decide)) (sa_cons (si_xisO M.xt (by unfold Gl; kernel_rfl) M.b_isinstance (si_var rfl (by walk_at "pd_vis")) (by unfold Gl; kernel_rfl) M.c_BadBooks (by decide)) sa_nil)))))) (sss_cons (ss_set E.nd rfl (by walk_at "pd_loc") (Or.inl rfl) (si_bin (o := .add) (og_add E) (si_var rfl (by walk_at "pd_vis")) (si_lst (sa_cons (si_xisO M.xt (by unfold Gl; kernel_rfl) M.b_isinstance (si_var rfl (by walk_at "pd_vis")) (by unfold Gl; kernel_rfl) M.c_BadTurns (by decide)) (sa_cons (si_xisO M.xt (by unfold Gl; kernel_rfl) M.b_isinstance (si_var rfl (by walk_at "pd_vis")) (by unfold Gl; kernel_rfl) M.c_BadChange (by decide)) (sa_cons (si_xisO M.xt (by unfold Gl; kernel_rfl) M.b_isinstance (si_var rfl (by walk_at "pd_vis")) (by unfold Gl; kernel_rfl) M.c_BadChosen (by decide)) sa_nil)))))) (sss_cons (ss_set E.nd rfl (by walk_at "pd_loc") (Or.inl rfl) (si_bin (o := .add) (og_add E) (si_var rfl (by walk_at "pd_vis")) (si_lst (sa_cons (si_xisO M.xt (by unfold Gl; kernel_rfl) M.b_isinstance (si_var rfl (by walk_at "pd_vis")) (by unfold Gl; kernel_rfl) M.c_NoOperation (by decide)) (sa_cons (si_xisO M.xt (by unfold Gl; kernel_rfl) M.b_isinstance (si_var rfl (by walk_at "pd_vis")) (by unfold Gl; kernel_rfl) M.c_NoBlock (by decide)) (sa_cons (si_xisO M.xt (by unfold Gl; kernel_rfl) M.b_isinstance (si_var rfl (by walk_at "pd_vis")) (by unfold Gl; kernel_rfl) M.c_NoPlace (by decide)) sa_nil)))))) (sss_cons (ss_set E.nd rfl (by walk_at "pd_loc") (Or.inl rfl) (si_bin (o := .add) (og_add E) (si_var rfl (by walk_at "pd_vis")) (si_lst (sa_cons (si_xisO M.xt (by unfold Gl; kernel_rfl) M.b_isinstance (si_var rfl (by walk_at "pd_vis")) (by unfold Gl; kernel_rfl) M.c_NoVariable (by decide)) (sa_cons (si_xisO M.xt (by unfold Gl; kernel_rfl) M.b_isinstance (si_var rfl (by walk_at "pd_vis")) (by unfold Gl; kernel_rfl) M.c_NoEntry (by decide)) (sa_cons (si_xisO M.xt (by unfold Gl; kernel_rfl) M.b_isinstance (si_var rfl (by walk_at "pd_vis")) (by unfold Gl; kernel_rfl) M.c_NoFunction (by decide)) sa_nil)))))) (sss_cons (ss_set E.nd rfl (by walk_at "pd_loc") (Or.inl rfl) (si_bin (o := .add) (og_add E) (si_var rfl (by walk_at "pd_vis")) (si_lst (sa_cons (si_xisO M.xt (by unfold Gl; kernel_rfl) M.b_isinstance (si_var rfl (by walk_at "pd_vis")) (by unfold Gl; kernel_rfl) M.c_TooLarge (by decide)) (sa_cons (si_xisO M.xt (by unfold Gl; kernel_rfl) M.b_isinstance (si_var rfl (by walk_at "pd_vis")) (by unfold Gl; kernel_rfl) M.c_TooMany (by decide)) sa_nil))))) (sss_cons (ss_ret (si_var rfl (by walk_at "pd_vis"))) sss_nil))))))))))))))))
theorem b4 {P : Program} {w : World} {K : PySem.W.Frag} {mg : Str → Option Value} {base : Heap} {f : Addr} {cdv : Value} {A : Around} {outer : List Env} {s : Shared} {H : Hp} {EX : XK} {L : Pl} {cf : Nat → List D → Store → Res D} (X : Cx) (hX : X = cxOf (L2.CX P w) P w K mg base n4 q4 (defScope s4) f cdv A outer s H EX)
    (E : EnvOk X L G cf) (Ca : Calls X L cf) (M : Mg X L) : SimSs X L G cf (defBody s4) c4 := by
  have hp : PassesOwn (model X.prog X.w) X.A X.env X.xe := by subst hX; exact passes_of rfl
  subst hX
  exact (sss_cons (ss_set E.nd rfl (by walk_at "pd_loc") (Or.inl rfl) (si_call Ca.k16 (by unfold Gl; kernel_rfl) (sa_cons (si_var rfl (by walk_at "pd_vis")) sa_nil))) (sss_cons (ss_set E.nd rfl (by walk_at "pd_loc") (Or.inl rfl) (si_bin (o := .add) (og_add E) (si_var rfl (by walk_at "pd_vis")) (si_lst (sa_cons (si_mkx Ca.k15 (by unfold Gl; kernel_rfl) (si_var rfl (by walk_at "pd_vis"))) (sa_cons (si_mkx Ca.k14 (by unfold Gl; kernel_rfl) (si_var rfl (by walk_at "pd_vis"))) (sa_cons (si_mkx Ca.k13 (by unfold Gl; kernel_rfl) (si_var rfl (by walk_at "pd_vis"))) (sa_cons (si_mkx Ca.k12 (by unfold Gl; kernel_rfl) (si_var rfl (by walk_at "pd_vis"))) (sa_cons (si_mkx Ca.k11 (by unfold Gl; kernel_rfl) (si_var rfl (by walk_at "pd_vis"))) sa_nil)))))))) (sss_cons (ss_set E.nd rfl (by walk_at "pd_loc") (Or.inl rfl) (si_bin (o := .add) (og_add E) (si_var rfl (by walk_at "pd_vis")) (si_lst (sa_cons (si_mkx Ca.k10 (by unfold Gl; kernel_rfl) (si_var rfl (by walk_at "pd_vis"))) (sa_cons (si_mkx Ca.k9 (by unfold Gl; kernel_rfl) (si_var rfl (by walk_at "pd_vis"))) (sa_cons (si_mkx Ca.k8 (by unfold Gl; kernel_rfl) (si_var rfl (by walk_at "pd_vis"))) sa_nil)))))) (sss_cons (ss_ret (si_var rfl (by walk_at "pd_vis"))) sss_nil))))
theorem b5 {P : Program} {w : World} {K : PySem.W.Frag} {mg : Str → Option Value} {base : Heap} {f : Addr} {cdv : Value} {A : Around} {outer : List Env} {s : Shared} {H : Hp} {EX : XK} {L : Pl} {cf : Nat → List D → Store → Res D} (X : Cx) (hX : X = cxOf (L2.CX P w) P w K mg base n5 q5 (defScope s5) f cdv A outer s H EX)
    (E : EnvOk X L G cf) (Ca : Calls X L cf) (M : Mg X L) : SimSs X L G cf (defBody s5) c5 := by
  have hp : PassesOwn (model X.prog X.w) X.A X.env X.xe := by subst hX; exact passes_of rfl
  subst hX
  exact (sss_cons (ss_set E.nd rfl (by walk_at "pd_loc") (Or.inl rfl) (si_ite (st_cmp (cg_lt) (si_var rfl (by walk_at "pd_vis")) (si_len E (by unfold Gl; kernel_rfl) (M.b_len) (sa_cons (si_var rfl (by walk_at "pd_vis")) sa_nil)) (nomark _)) (si_sub E (si_var rfl (by walk_at "pd_vis")) (si_var rfl (by walk_at "pd_vis"))) si_int)) (sss_cons (ss_set E.nd rfl (by walk_at "pd_loc") (Or.inl rfl) (si_bin (o := .mul) (og_mul E) (si_int1 (by unfold Gl; kernel_rfl) (M.b_int) (sa_cons (si_bin (o := .add) (og_add E) (si_bin (o := .add) (og_add E) (si_bin (o := .mod) (og_mod E) (si_int1 (by unfold Gl; kernel_rfl) (M.b_int) (sa_cons (si_var rfl (by walk_at "pd_vis")) sa_nil)) si_int) (si_bin (o := .mul) (og_mul E) (si_bin (o := .mul) (og_mul E) si_int (si_var rfl (by walk_at "pd_vis"))) (si_var rfl (by walk_at "pd_vis")))) si_int) sa_nil)) si_int)) (sss_cons (ss_ret (si_lst (sa_cons (si_ite (st_cmp (cg_ge) (si_var rfl (by walk_at "pd_vis")) (si_bin (o := .pow) (og_pow E) si_int si_int) (nomark _)) (si_var rfl (by walk_at "pd_vis")) si_int) (sa_cons (si_bin (o := .add) (og_add E) (si_bin (o := .mod) (og_mod E) (si_int1 (by unfold Gl; kernel_rfl) (M.b_int) (sa_cons (si_var rfl (by walk_at "pd_vis")) sa_nil)) si_int) si_int) sa_nil)))) sss_nil)))
theorem b6 {P : Program} {w : World} {K : PySem.W.Frag} {mg : Str → Option Value} {base : Heap} {f : Addr} {cdv : Value} {A : Around} {outer : List Env} {s : Shared} {H : Hp} {EX : XK} {L : Pl} {cf : Nat → List D → Store → Res D} (X : Cx) (hX : X = cxOf (L2.CX P w) P w K mg base n6 q6 (defScope s6) f cdv A outer s H EX)
    (E : EnvOk X L G cf) (Ca : Calls X L cf) (M : Mg X L) : SimSs X L G cf (defBody s6) c6 := by
  have hp : PassesOwn (model X.prog X.w) X.A X.env X.xe := by subst hX; exact passes_of rfl
  subst hX
  exact (sss_cons (ss_set E.nd rfl (by walk_at "pd_loc") (Or.inl rfl) (si_lst sa_nil)) (sss_cons (ss_set E.nd rfl (by walk_at "pd_loc") (Or.inl rfl) (si_bin (o := .add) (og_add E) (si_var rfl (by walk_at "pd_vis")) (si_lst (sa_cons (si_mkx Ca.k49 (by unfold Gl; kernel_rfl) (si_var rfl (by walk_at "pd_vis"))) (sa_cons (si_mkx Ca.k48 (by unfold Gl; kernel_rfl) (si_var rfl (by walk_at "pd_vis"))) (sa_cons (si_mkx Ca.k47 (by unfold Gl; kernel_rfl) (si_var rfl (by walk_at "pd_vis"))) (sa_cons (si_mkx Ca.k46 (by unfold Gl; kernel_rfl) (si_var rfl (by walk_at "pd_vis"))) (sa_cons (si_mkx Ca.k45 (by unfold Gl; kernel_rfl) (si_var rfl (by walk_at "pd_vis"))) sa_nil)))))))) (sss_cons (ss_set E.nd rfl (by walk_at "pd_loc") (Or.inl rfl) (si_bin (o := .add) (og_add E) (si_var rfl (by walk_at "pd_vis")) (si_lst (sa_cons (si_mkx Ca.k44 (by unfold Gl; kernel_rfl) (si_var rfl (by walk_at "pd_vis"))) (sa_cons (si_mkx Ca.k43 (by unfold Gl; kernel_rfl) (si_var rfl (by walk_at "pd_vis"))) (sa_cons (si_mkx Ca.k42 (by unfold Gl; kernel_rfl) (si_var rfl (by walk_at "pd_vis"))) (sa_cons (si_mkx Ca.k41 (by unfold Gl; kernel_rfl) (si_var rfl (by walk_at "pd_vis"))) (sa_cons (si_mkx Ca.k40 (by unfold Gl; kernel_rfl) (si_var rfl (by walk_at "pd_vis"))) sa_nil)))))))) (sss_cons (ss_set E.nd rfl (by walk_at "pd_loc") (Or.inl rfl) (si_bin (o := .add) (og_add E) (si_var rfl (by walk_at "pd_vis")) (si_lst (sa_cons (si_mkx Ca.k39 (by unfold Gl; kernel_rfl) (si_var rfl (by walk_at "pd_vis"))) (sa_cons (si_mkx Ca.k38 (by unfold Gl; kernel_rfl) (si_var rfl (by walk_at "pd_vis"))) (sa_cons (si_mkx Ca.k37 (by unfold Gl; kernel_rfl) (si_var rfl (by walk_at "pd_vis"))) (sa_cons (si_mkx Ca.k36 (by unfold Gl; kernel_rfl) (si_var rfl (by walk_at "pd_vis"))) (sa_cons (si_mkx Ca.k35 (by unfold Gl; kernel_rfl) (si_var rfl (by walk_at "pd_vis"))) sa_nil)))))))) (sss_cons (ss_set E.nd rfl (by walk_at "pd_loc") (Or.inl rfl) (si_bin (o := .add) (og_add E) (si_var rfl (by walk_at "pd_vis")) (si_lst (sa_cons (si_mkx Ca.k34 (by unfold Gl; kernel_rfl) (si_var rfl (by walk_at "pd_vis"))) (sa_cons (si_mkx Ca.k33 (by unfold Gl; kernel_rfl) (si_var rfl (by walk_at "pd_vis"))) (sa_cons (si_mkx Ca.k32 (by unfold Gl; kernel_rfl) (si_var rfl (by walk_at "pd_vis"))) (sa_cons (si_mkx Ca.k31 (by unfold Gl; kernel_rfl) (si_var rfl (by walk_at "pd_vis"))) (sa_cons (si_mkx Ca.k30 (by unfold Gl; kernel_rfl) (si_var rfl (by walk_at "pd_vis"))) sa_nil)))))))) (sss_cons (ss_set E.nd rfl (by walk_at "pd_loc") (Or.inl rfl) (si_bin (o := .add) (og_add E) (si_var rfl (by walk_at "pd_vis")) (si_lst (sa_cons (si_mkx Ca.k29 (by unfold Gl; kernel_rfl) (si_var rfl (by walk_at "pd_vis"))) (sa_cons (si_mkx Ca.k28 (by unfold Gl; kernel_rfl) (si_var rfl (by walk_at "pd_vis"))) (sa_cons (si_mkx Ca.k27 (by unfold Gl; kernel_rfl) (si_var rfl (by walk_at "pd_vis"))) (sa_cons (si_mkx Ca.k26 (by unfold Gl; kernel_rfl) (si_var rfl (by walk_at "pd_vis"))) (sa_cons (si_mkx Ca.k25 (by unfold Gl; kernel_rfl) (si_var rfl (by walk_at "pd_vis"))) sa_nil)))))))) (sss_cons (ss_set E.nd rfl (by walk_at "pd_loc") (Or.inl rfl) (si_bin (o := .add) (og_add E) (si_var rfl (by walk_at "pd_vis")) (si_lst (sa_cons (si_mkx Ca.k24 (by unfold Gl; kernel_rfl) (si_var rfl (by walk_at "pd_vis"))) (sa_cons (si_mkx Ca.k23 (by unfold Gl; kernel_rfl) (si_var rfl (by walk_at "pd_vis"))) (sa_cons (si_mkx Ca.k22 (by unfold Gl; kernel_rfl) (si_var rfl (by walk_at "pd_vis"))) (sa_cons (si_mkx Ca.k21 (by unfold Gl; kernel_rfl) (si_var rfl (by walk_at "pd_vis"))) (sa_cons (si_mkx Ca.k20 (by unfold Gl; kernel_rfl) (si_var rfl (by walk_at "pd_vis"))) sa_nil)))))))) (sss_cons (ss_set E.nd rfl (by walk_at "pd_loc") (Or.inl rfl) (si_bin (o := .add) (og_add E) (si_var rfl (by walk_at "pd_vis")) (si_lst (sa_cons (si_mkx Ca.k19 (by unfold Gl; kernel_rfl) (si_var rfl (by walk_at "pd_vis"))) (sa_cons (si_mkx Ca.k18 (by unfold Gl; kernel_rfl) (si_var rfl (by walk_at "pd_vis"))) (sa_cons (si_mkx Ca.k17 (by unfold Gl; kernel_rfl) (si_var rfl (by walk_at "pd_vis"))) sa_nil)))))) (sss_cons (ss_ret (si_var rfl (by walk_at "pd_vis"))) sss_nil)))))))))
end Cd

namespace Cd
open PySem PySem.Spec PyProof.Rows L2 QD
def f0 : FD := ⟨fun K => He.ga K (PySem.Str.ofString "law"), ⟨(PySem.Str.ofString "law", none), PySem.Str.ofString "law", q0, defArgs s0, defBody s0, defScope s0, [], []⟩⟩
def j0 : FJ := ⟨f0, n0, p0, c0, false⟩
def f1 : FD := ⟨fun K => He.ga K (PySem.Str.ofString "_law_take"), ⟨(PySem.Str.ofString "_law_take", none), PySem.Str.ofString "_law_take", q1, defArgs s1, defBody s1, defScope s1, [], []⟩⟩
def j1 : FJ := ⟨f1, n1, p1, c1, false⟩
def f2 : FD := ⟨fun K => He.ga K (PySem.Str.ofString "_law_roots"), ⟨(PySem.Str.ofString "_law_roots", none), PySem.Str.ofString "_law_roots", q2, defArgs s2, defBody s2, defScope s2, [], []⟩⟩
def j2 : FJ := ⟨f2, n2, p2, c2, false⟩
def f3 : FD := ⟨fun K => He.ga K (PySem.Str.ofString "_law_kinds"), ⟨(PySem.Str.ofString "_law_kinds", none), PySem.Str.ofString "_law_kinds", q3, defArgs s3, defBody s3, defScope s3, [], []⟩⟩
def j3 : FJ := ⟨f3, n3, p3, c3, false⟩
def f4 : FD := ⟨fun K => He.ga K (PySem.Str.ofString "_law_values"), ⟨(PySem.Str.ofString "_law_values", none), PySem.Str.ofString "_law_values", q4, defArgs s4, defBody s4, defScope s4, [], []⟩⟩
def j4 : FJ := ⟨f4, n4, p4, c4, false⟩
def f5 : FD := ⟨fun K => He.ga K (PySem.Str.ofString "_law_pool"), ⟨(PySem.Str.ofString "_law_pool", none), PySem.Str.ofString "_law_pool", q5, defArgs s5, defBody s5, defScope s5, [], []⟩⟩
def j5 : FJ := ⟨f5, n5, p5, c5, false⟩
def f6 : FD := ⟨fun K => He.ga K (PySem.Str.ofString "_law_first_values"), ⟨(PySem.Str.ofString "_law_first_values", none), PySem.Str.ofString "_law_first_values", q6, defArgs s6, defBody s6, defScope s6, [], []⟩⟩
def j6 : FJ := ⟨f6, n6, p6, c6, false⟩
def T : List FJ := [j0, j1, j2, j3, j4, j5, j6]
abbrev zs0 : Stmt := (inCls (top 1)).getD 0 (.Pass ⟨0, 0, 0, 0⟩)
def xf0 : FD := ⟨fun K => He.ma K (He.ga K (PySem.Str.ofString "SignsError")) (PySem.Str.ofString "__init__"), ⟨(PySem.Str.ofString "__init__", none), PySem.Str.ofString "__init__", "SignsError.__init__", defArgs zs0, defBody zs0, defScope zs0, [], []⟩⟩
abbrev zs1 : Stmt := (inCls (top 35)).getD 0 (.Pass ⟨0, 0, 0, 0⟩)
def xf1 : FD := ⟨fun K => He.ma K (He.ga K (PySem.Str.ofString "Absent")) (PySem.Str.ofString "__init__"), ⟨(PySem.Str.ofString "__init__", none), PySem.Str.ofString "__init__", "Absent.__init__", defArgs zs1, defBody zs1, defScope zs1, [], []⟩⟩
abbrev zs2 : Stmt := (inCls (top 42)).getD 0 (.Pass ⟨0, 0, 0, 0⟩)
def xf2 : FD := ⟨fun K => He.ma K (He.ga K (PySem.Str.ofString "TooLarge")) (PySem.Str.ofString "__init__"), ⟨(PySem.Str.ofString "__init__", none), PySem.Str.ofString "__init__", "TooLarge.__init__", defArgs zs2, defBody zs2, defScope zs2, [], []⟩⟩
abbrev zs3 : Stmt := (inCls (top 43)).getD 0 (.Pass ⟨0, 0, 0, 0⟩)
def xf3 : FD := ⟨fun K => He.ma K (He.ga K (PySem.Str.ofString "TooMany")) (PySem.Str.ofString "__init__"), ⟨(PySem.Str.ofString "__init__", none), PySem.Str.ofString "__init__", "TooMany.__init__", defArgs zs3, defBody zs3, defScope zs3, [], []⟩⟩
def fds : List FD := [f0, f1, f2, f3, f4, f5, f6, xf0, xf1, xf2, xf3]
def fa : List He.Fa := [.glo (PySem.Str.ofString "law"), .glo (PySem.Str.ofString "_law_take"), .glo (PySem.Str.ofString "_law_roots"), .glo (PySem.Str.ofString "_law_kinds"), .glo (PySem.Str.ofString "_law_values"), .glo (PySem.Str.ofString "_law_pool"), .glo (PySem.Str.ofString "_law_first_values"), .glo (PySem.Str.ofString "SignsError"), .glo (PySem.Str.ofString "BadDress"), .glo (PySem.Str.ofString "BadMark"), .glo (PySem.Str.ofString "BadNumber"), .glo (PySem.Str.ofString "Unlike"), .glo (PySem.Str.ofString "BadArity"), .glo (PySem.Str.ofString "BadWants"), .glo (PySem.Str.ofString "BadOperation"), .glo (PySem.Str.ofString "BadOperands"), .glo (PySem.Str.ofString "BadTable"), .glo (PySem.Str.ofString "BadBlocks"), .glo (PySem.Str.ofString "BadStarts"), .glo (PySem.Str.ofString "BadRow"), .glo (PySem.Str.ofString "BadProgram"), .glo (PySem.Str.ofString "BadRoad"), .glo (PySem.Str.ofString "BadRun"), .glo (PySem.Str.ofString "BadText"), .glo (PySem.Str.ofString "BadDraft"), .glo (PySem.Str.ofString "BadKind"), .glo (PySem.Str.ofString "NotSimple"), .glo (PySem.Str.ofString "NoEnd"), .glo (PySem.Str.ofString "BadPuts"), .glo (PySem.Str.ofString "BadFrequencies"), .glo (PySem.Str.ofString "BadFlow"), .glo (PySem.Str.ofString "BadFunctions"), .glo (PySem.Str.ofString "BadFunction"), .glo (PySem.Str.ofString "BadGroup"), .glo (PySem.Str.ofString "BadPromises"), .glo (PySem.Str.ofString "BadPromise"), .glo (PySem.Str.ofString "BadBook"), .glo (PySem.Str.ofString "BadBooks"), .glo (PySem.Str.ofString "BadTurns"), .glo (PySem.Str.ofString "BadChange"), .glo (PySem.Str.ofString "BadChosen"), .glo (PySem.Str.ofString "Absent"), .glo (PySem.Str.ofString "NoOperation"), .glo (PySem.Str.ofString "NoBlock"), .glo (PySem.Str.ofString "NoPlace"), .glo (PySem.Str.ofString "NoVariable"), .glo (PySem.Str.ofString "NoEntry"), .glo (PySem.Str.ofString "NoFunction"), .glo (PySem.Str.ofString "TooLarge"), .glo (PySem.Str.ofString "TooMany"), .glo (PySem.Str.ofString "NothingToUndo"), .free (PySem.Str.ofString "KeyError"), .free (PySem.Str.ofString "OverflowError"), .free (PySem.Str.ofString "RuntimeError"), .free (PySem.Str.ofString "ValueError"), .free (PySem.Str.ofString "int"), .free (PySem.Str.ofString "isinstance"), .free (PySem.Str.ofString "len"), .free (PySem.Str.ofString "max"), .free (PySem.Str.ofString "min"), .free (PySem.Str.ofString "range")]
def ts : List He.Tab := []
def mkA (K : PySem.W.Frag) : List Addr := []
def Lk (K : PySem.W.Frag) : Pl := ⟨fun i => (([] : List Addr)[i]?).getD 0, fun c => (([He.ga K (PySem.Str.ofString "SignsError"), He.ga K (PySem.Str.ofString "BadDress"), He.ga K (PySem.Str.ofString "BadMark"), He.ga K (PySem.Str.ofString "BadNumber"), He.ga K (PySem.Str.ofString "Unlike"), He.ga K (PySem.Str.ofString "BadArity"), He.ga K (PySem.Str.ofString "BadWants"), He.ga K (PySem.Str.ofString "BadOperation"), He.ga K (PySem.Str.ofString "BadOperands"), He.ga K (PySem.Str.ofString "BadTable"), He.ga K (PySem.Str.ofString "BadBlocks"), He.ga K (PySem.Str.ofString "BadStarts"), He.ga K (PySem.Str.ofString "BadRow"), He.ga K (PySem.Str.ofString "BadProgram"), He.ga K (PySem.Str.ofString "BadRoad"), He.ga K (PySem.Str.ofString "BadRun"), He.ga K (PySem.Str.ofString "BadText"), He.ga K (PySem.Str.ofString "BadDraft"), He.ga K (PySem.Str.ofString "BadKind"), He.ga K (PySem.Str.ofString "NotSimple"), He.ga K (PySem.Str.ofString "NoEnd"), He.ga K (PySem.Str.ofString "BadPuts"), He.ga K (PySem.Str.ofString "BadFrequencies"), He.ga K (PySem.Str.ofString "BadFlow"), He.ga K (PySem.Str.ofString "BadFunctions"), He.ga K (PySem.Str.ofString "BadFunction"), He.ga K (PySem.Str.ofString "BadGroup"), He.ga K (PySem.Str.ofString "BadPromises"), He.ga K (PySem.Str.ofString "BadPromise"), He.ga K (PySem.Str.ofString "BadBook"), He.ga K (PySem.Str.ofString "BadBooks"), He.ga K (PySem.Str.ofString "BadTurns"), He.ga K (PySem.Str.ofString "BadChange"), He.ga K (PySem.Str.ofString "BadChosen"), He.ga K (PySem.Str.ofString "Absent"), He.ga K (PySem.Str.ofString "NoOperation"), He.ga K (PySem.Str.ofString "NoBlock"), He.ga K (PySem.Str.ofString "NoPlace"), He.ga K (PySem.Str.ofString "NoVariable"), He.ga K (PySem.Str.ofString "NoEntry"), He.ga K (PySem.Str.ofString "NoFunction"), He.ga K (PySem.Str.ofString "TooLarge"), He.ga K (PySem.Str.ofString "TooMany"), He.ga K (PySem.Str.ofString "NothingToUndo")] : List Addr)[c]?).getD 0, []⟩
def ex (K : PySem.W.Frag) : Bool := excB K ((Lk K).cla 0) (He.ma K (He.ga K (PySem.Str.ofString "SignsError")) (PySem.Str.ofString "__init__")) && excB K ((Lk K).cla 34) (He.ma K (He.ga K (PySem.Str.ofString "Absent")) (PySem.Str.ofString "__init__")) && excB K ((Lk K).cla 35) (He.ma K (He.ga K (PySem.Str.ofString "Absent")) (PySem.Str.ofString "__init__")) && excB K ((Lk K).cla 36) (He.ma K (He.ga K (PySem.Str.ofString "Absent")) (PySem.Str.ofString "__init__")) && excB K ((Lk K).cla 37) (He.ma K (He.ga K (PySem.Str.ofString "Absent")) (PySem.Str.ofString "__init__")) && excB K ((Lk K).cla 38) (He.ma K (He.ga K (PySem.Str.ofString "Absent")) (PySem.Str.ofString "__init__")) && excB K ((Lk K).cla 39) (He.ma K (He.ga K (PySem.Str.ofString "Absent")) (PySem.Str.ofString "__init__")) && excB K ((Lk K).cla 40) (He.ma K (He.ga K (PySem.Str.ofString "Absent")) (PySem.Str.ofString "__init__")) && excB K ((Lk K).cla 41) (He.ma K (He.ga K (PySem.Str.ofString "TooLarge")) (PySem.Str.ofString "__init__")) && excB K ((Lk K).cla 42) (He.ma K (He.ga K (PySem.Str.ofString "TooMany")) (PySem.Str.ofString "__init__")) && excB K ((Lk K).cla 1) (He.ma K (He.ga K (PySem.Str.ofString "SignsError")) (PySem.Str.ofString "__init__")) && excB K ((Lk K).cla 2) (He.ma K (He.ga K (PySem.Str.ofString "SignsError")) (PySem.Str.ofString "__init__")) && excB K ((Lk K).cla 3) (He.ma K (He.ga K (PySem.Str.ofString "SignsError")) (PySem.Str.ofString "__init__")) && excB K ((Lk K).cla 4) (He.ma K (He.ga K (PySem.Str.ofString "SignsError")) (PySem.Str.ofString "__init__")) && excB K ((Lk K).cla 5) (He.ma K (He.ga K (PySem.Str.ofString "SignsError")) (PySem.Str.ofString "__init__")) && excB K ((Lk K).cla 6) (He.ma K (He.ga K (PySem.Str.ofString "SignsError")) (PySem.Str.ofString "__init__")) && excB K ((Lk K).cla 7) (He.ma K (He.ga K (PySem.Str.ofString "SignsError")) (PySem.Str.ofString "__init__")) && excB K ((Lk K).cla 8) (He.ma K (He.ga K (PySem.Str.ofString "SignsError")) (PySem.Str.ofString "__init__")) && excB K ((Lk K).cla 9) (He.ma K (He.ga K (PySem.Str.ofString "SignsError")) (PySem.Str.ofString "__init__")) && excB K ((Lk K).cla 10) (He.ma K (He.ga K (PySem.Str.ofString "SignsError")) (PySem.Str.ofString "__init__")) && excB K ((Lk K).cla 11) (He.ma K (He.ga K (PySem.Str.ofString "SignsError")) (PySem.Str.ofString "__init__")) && excB K ((Lk K).cla 12) (He.ma K (He.ga K (PySem.Str.ofString "SignsError")) (PySem.Str.ofString "__init__")) && excB K ((Lk K).cla 13) (He.ma K (He.ga K (PySem.Str.ofString "SignsError")) (PySem.Str.ofString "__init__")) && excB K ((Lk K).cla 14) (He.ma K (He.ga K (PySem.Str.ofString "SignsError")) (PySem.Str.ofString "__init__")) && excB K ((Lk K).cla 15) (He.ma K (He.ga K (PySem.Str.ofString "SignsError")) (PySem.Str.ofString "__init__")) && excB K ((Lk K).cla 16) (He.ma K (He.ga K (PySem.Str.ofString "SignsError")) (PySem.Str.ofString "__init__")) && excB K ((Lk K).cla 17) (He.ma K (He.ga K (PySem.Str.ofString "SignsError")) (PySem.Str.ofString "__init__")) && excB K ((Lk K).cla 18) (He.ma K (He.ga K (PySem.Str.ofString "SignsError")) (PySem.Str.ofString "__init__")) && excB K ((Lk K).cla 19) (He.ma K (He.ga K (PySem.Str.ofString "SignsError")) (PySem.Str.ofString "__init__")) && excB K ((Lk K).cla 20) (He.ma K (He.ga K (PySem.Str.ofString "SignsError")) (PySem.Str.ofString "__init__")) && excB K ((Lk K).cla 21) (He.ma K (He.ga K (PySem.Str.ofString "SignsError")) (PySem.Str.ofString "__init__")) && excB K ((Lk K).cla 22) (He.ma K (He.ga K (PySem.Str.ofString "SignsError")) (PySem.Str.ofString "__init__")) && excB K ((Lk K).cla 23) (He.ma K (He.ga K (PySem.Str.ofString "SignsError")) (PySem.Str.ofString "__init__")) && excB K ((Lk K).cla 24) (He.ma K (He.ga K (PySem.Str.ofString "SignsError")) (PySem.Str.ofString "__init__")) && excB K ((Lk K).cla 25) (He.ma K (He.ga K (PySem.Str.ofString "SignsError")) (PySem.Str.ofString "__init__")) && excB K ((Lk K).cla 26) (He.ma K (He.ga K (PySem.Str.ofString "SignsError")) (PySem.Str.ofString "__init__")) && excB K ((Lk K).cla 27) (He.ma K (He.ga K (PySem.Str.ofString "SignsError")) (PySem.Str.ofString "__init__")) && excB K ((Lk K).cla 28) (He.ma K (He.ga K (PySem.Str.ofString "SignsError")) (PySem.Str.ofString "__init__")) && excB K ((Lk K).cla 29) (He.ma K (He.ga K (PySem.Str.ofString "SignsError")) (PySem.Str.ofString "__init__")) && excB K ((Lk K).cla 30) (He.ma K (He.ga K (PySem.Str.ofString "SignsError")) (PySem.Str.ofString "__init__")) && excB K ((Lk K).cla 31) (He.ma K (He.ga K (PySem.Str.ofString "SignsError")) (PySem.Str.ofString "__init__")) && excB K ((Lk K).cla 32) (He.ma K (He.ga K (PySem.Str.ofString "SignsError")) (PySem.Str.ofString "__init__")) && excB K ((Lk K).cla 33) (He.ma K (He.ga K (PySem.Str.ofString "SignsError")) (PySem.Str.ofString "__init__")) && excB0 K ((Lk K).cla 43) rtT "RuntimeError.__new__" && (List.range xrows.length).all (kitR K (Lk K) xask xrows) && (mkA K).all (mkrB K) && tbU (Lk K).tbs && true
def names0 : List Str := [PySem.Str.ofString "SignsError", PySem.Str.ofString "BadDress", PySem.Str.ofString "BadMark", PySem.Str.ofString "BadNumber", PySem.Str.ofString "Unlike", PySem.Str.ofString "BadArity", PySem.Str.ofString "BadWants", PySem.Str.ofString "BadOperation", PySem.Str.ofString "BadOperands", PySem.Str.ofString "BadTable", PySem.Str.ofString "BadBlocks", PySem.Str.ofString "BadStarts", PySem.Str.ofString "BadRow", PySem.Str.ofString "BadProgram", PySem.Str.ofString "BadRoad", PySem.Str.ofString "BadRun", PySem.Str.ofString "BadText", PySem.Str.ofString "BadDraft", PySem.Str.ofString "BadKind", PySem.Str.ofString "NotSimple", PySem.Str.ofString "NoEnd", PySem.Str.ofString "BadPuts", PySem.Str.ofString "BadFrequencies", PySem.Str.ofString "BadFlow", PySem.Str.ofString "BadFunctions", PySem.Str.ofString "BadFunction", PySem.Str.ofString "BadGroup", PySem.Str.ofString "BadPromises", PySem.Str.ofString "BadPromise", PySem.Str.ofString "BadBook", PySem.Str.ofString "BadBooks", PySem.Str.ofString "BadTurns", PySem.Str.ofString "BadChange", PySem.Str.ofString "BadChosen", PySem.Str.ofString "Absent"]
def names1 : List Str := [PySem.Str.ofString "NoOperation", PySem.Str.ofString "NoBlock", PySem.Str.ofString "NoPlace", PySem.Str.ofString "NoVariable", PySem.Str.ofString "NoEntry", PySem.Str.ofString "NoFunction", PySem.Str.ofString "TooLarge", PySem.Str.ofString "TooMany", PySem.Str.ofString "NothingToUndo", PySem.Str.ofString "_law_pool", PySem.Str.ofString "_law_take", PySem.Str.ofString "_law_kinds", PySem.Str.ofString "_law_first_values", PySem.Str.ofString "_law_values", PySem.Str.ofString "_law_roots"]
def names : List Str := names0 ++ names1
abbrev R : PySem.W.OpenRow := PySem.W.OpenLaw.row PySem.Challenge.rw_signskept_k05_exceptions_apart
abbrev hk : PySem.W.Hook := hookL 6 fa fds ts ex mkA 0
def ob (s : PySem.W.SharedT) : AlL := obsLG 6 fa fds ts ex mkA (HandSHeadRun.getT s)
theorem ob_eq (s : PySem.W.SharedT) : ob s = hk.obs s.abs := obsLG_eq (HandSHeadRun.getT_eq s)
theorem run0 (w : World) : HandSHeadRun.RunEq R (PySem.W.view R.prog [52]) hk ob 20000 names (w.withFollow "special-get-raises" false) := GoX.runEq_of fun os => by kernel_rfl
theorem run1 (w : World) : HandSHeadRun.RunEq R (PySem.W.view R.prog [52]) hk ob 20000 names (w.withFollow "special-get-raises" true) := GoX.runEq_of fun os => by kernel_rfl
theorem run (w : World) : HandSHeadRun.RunEq R (PySem.W.view R.prog [52]) hk ob 20000 names w := PySem.W.byRow2 "special-get-raises" (P := fun w => HandSHeadRun.RunEq R (PySem.W.view R.prog [52]) hk ob 20000 names w) run0 run1 w

section
variable {P : Program} {w : World} {K : PySem.W.Frag} {mg : Str → Option Value} {base : Heap} {l : Nat} {X : Cx}
theorem ex_parts (h : ex K = true) : excB K ((Lk K).cla 0) (He.ma K (He.ga K (PySem.Str.ofString "SignsError")) (PySem.Str.ofString "__init__")) = true ∧ excB K ((Lk K).cla 34) (He.ma K (He.ga K (PySem.Str.ofString "Absent")) (PySem.Str.ofString "__init__")) = true ∧ excB K ((Lk K).cla 35) (He.ma K (He.ga K (PySem.Str.ofString "Absent")) (PySem.Str.ofString "__init__")) = true ∧ excB K ((Lk K).cla 36) (He.ma K (He.ga K (PySem.Str.ofString "Absent")) (PySem.Str.ofString "__init__")) = true ∧ excB K ((Lk K).cla 37) (He.ma K (He.ga K (PySem.Str.ofString "Absent")) (PySem.Str.ofString "__init__")) = true ∧ excB K ((Lk K).cla 38) (He.ma K (He.ga K (PySem.Str.ofString "Absent")) (PySem.Str.ofString "__init__")) = true ∧ excB K ((Lk K).cla 39) (He.ma K (He.ga K (PySem.Str.ofString "Absent")) (PySem.Str.ofString "__init__")) = true ∧ excB K ((Lk K).cla 40) (He.ma K (He.ga K (PySem.Str.ofString "Absent")) (PySem.Str.ofString "__init__")) = true ∧ excB K ((Lk K).cla 41) (He.ma K (He.ga K (PySem.Str.ofString "TooLarge")) (PySem.Str.ofString "__init__")) = true ∧ excB K ((Lk K).cla 42) (He.ma K (He.ga K (PySem.Str.ofString "TooMany")) (PySem.Str.ofString "__init__")) = true ∧ excB K ((Lk K).cla 1) (He.ma K (He.ga K (PySem.Str.ofString "SignsError")) (PySem.Str.ofString "__init__")) = true ∧ excB K ((Lk K).cla 2) (He.ma K (He.ga K (PySem.Str.ofString "SignsError")) (PySem.Str.ofString "__init__")) = true ∧ excB K ((Lk K).cla 3) (He.ma K (He.ga K (PySem.Str.ofString "SignsError")) (PySem.Str.ofString "__init__")) = true ∧ excB K ((Lk K).cla 4) (He.ma K (He.ga K (PySem.Str.ofString "SignsError")) (PySem.Str.ofString "__init__")) = true ∧ excB K ((Lk K).cla 5) (He.ma K (He.ga K (PySem.Str.ofString "SignsError")) (PySem.Str.ofString "__init__")) = true ∧ excB K ((Lk K).cla 6) (He.ma K (He.ga K (PySem.Str.ofString "SignsError")) (PySem.Str.ofString "__init__")) = true ∧ excB K ((Lk K).cla 7) (He.ma K (He.ga K (PySem.Str.ofString "SignsError")) (PySem.Str.ofString "__init__")) = true ∧ excB K ((Lk K).cla 8) (He.ma K (He.ga K (PySem.Str.ofString "SignsError")) (PySem.Str.ofString "__init__")) = true ∧ excB K ((Lk K).cla 9) (He.ma K (He.ga K (PySem.Str.ofString "SignsError")) (PySem.Str.ofString "__init__")) = true ∧ excB K ((Lk K).cla 10) (He.ma K (He.ga K (PySem.Str.ofString "SignsError")) (PySem.Str.ofString "__init__")) = true ∧ excB K ((Lk K).cla 11) (He.ma K (He.ga K (PySem.Str.ofString "SignsError")) (PySem.Str.ofString "__init__")) = true ∧ excB K ((Lk K).cla 12) (He.ma K (He.ga K (PySem.Str.ofString "SignsError")) (PySem.Str.ofString "__init__")) = true ∧ excB K ((Lk K).cla 13) (He.ma K (He.ga K (PySem.Str.ofString "SignsError")) (PySem.Str.ofString "__init__")) = true ∧ excB K ((Lk K).cla 14) (He.ma K (He.ga K (PySem.Str.ofString "SignsError")) (PySem.Str.ofString "__init__")) = true ∧ excB K ((Lk K).cla 15) (He.ma K (He.ga K (PySem.Str.ofString "SignsError")) (PySem.Str.ofString "__init__")) = true ∧ excB K ((Lk K).cla 16) (He.ma K (He.ga K (PySem.Str.ofString "SignsError")) (PySem.Str.ofString "__init__")) = true ∧ excB K ((Lk K).cla 17) (He.ma K (He.ga K (PySem.Str.ofString "SignsError")) (PySem.Str.ofString "__init__")) = true ∧ excB K ((Lk K).cla 18) (He.ma K (He.ga K (PySem.Str.ofString "SignsError")) (PySem.Str.ofString "__init__")) = true ∧ excB K ((Lk K).cla 19) (He.ma K (He.ga K (PySem.Str.ofString "SignsError")) (PySem.Str.ofString "__init__")) = true ∧ excB K ((Lk K).cla 20) (He.ma K (He.ga K (PySem.Str.ofString "SignsError")) (PySem.Str.ofString "__init__")) = true ∧ excB K ((Lk K).cla 21) (He.ma K (He.ga K (PySem.Str.ofString "SignsError")) (PySem.Str.ofString "__init__")) = true ∧ excB K ((Lk K).cla 22) (He.ma K (He.ga K (PySem.Str.ofString "SignsError")) (PySem.Str.ofString "__init__")) = true ∧ excB K ((Lk K).cla 23) (He.ma K (He.ga K (PySem.Str.ofString "SignsError")) (PySem.Str.ofString "__init__")) = true ∧ excB K ((Lk K).cla 24) (He.ma K (He.ga K (PySem.Str.ofString "SignsError")) (PySem.Str.ofString "__init__")) = true ∧ excB K ((Lk K).cla 25) (He.ma K (He.ga K (PySem.Str.ofString "SignsError")) (PySem.Str.ofString "__init__")) = true ∧ excB K ((Lk K).cla 26) (He.ma K (He.ga K (PySem.Str.ofString "SignsError")) (PySem.Str.ofString "__init__")) = true ∧ excB K ((Lk K).cla 27) (He.ma K (He.ga K (PySem.Str.ofString "SignsError")) (PySem.Str.ofString "__init__")) = true ∧ excB K ((Lk K).cla 28) (He.ma K (He.ga K (PySem.Str.ofString "SignsError")) (PySem.Str.ofString "__init__")) = true ∧ excB K ((Lk K).cla 29) (He.ma K (He.ga K (PySem.Str.ofString "SignsError")) (PySem.Str.ofString "__init__")) = true ∧ excB K ((Lk K).cla 30) (He.ma K (He.ga K (PySem.Str.ofString "SignsError")) (PySem.Str.ofString "__init__")) = true ∧ excB K ((Lk K).cla 31) (He.ma K (He.ga K (PySem.Str.ofString "SignsError")) (PySem.Str.ofString "__init__")) = true ∧ excB K ((Lk K).cla 32) (He.ma K (He.ga K (PySem.Str.ofString "SignsError")) (PySem.Str.ofString "__init__")) = true ∧ excB K ((Lk K).cla 33) (He.ma K (He.ga K (PySem.Str.ofString "SignsError")) (PySem.Str.ofString "__init__")) = true ∧ excB0 K ((Lk K).cla 43) rtT "RuntimeError.__new__" = true ∧ (List.range xrows.length).all (kitR K (Lk K) xask xrows) = true ∧ (mkA K).all (mkrB K) = true ∧ tbU (Lk K).tbs = true := by
  unfold ex at h
  simp only [Bool.and_eq_true, and_true, and_assoc] at h
  exact h
theorem ck0 (HK : K.In base) (HG : base.Ns mainGlobals mg) (c : SaysP fa fds ts ex w K) (a : At P w K mg base l X) (AJ : AllJ P w K mg base (Lk K) G T l) : CallOk X (Lk K) (callN G (tabJ T) l) "_law_take" 1 2 [.arg 0, .arg 1] := by
  obtain ⟨fd, F⟩ := (c.def_ 1 (d := f1) rfl)
  exact a.call AJ (g := 1) (j := j1) rfl F  (He.glo_ok HK HG (c.fact 1 (f := .glo (PySem.Str.ofString "_law_take")) rfl)) (FunD.bindsN (ps := p1) F fun _ _ _ _ _ _ us hl => match us, hl with | [_, _], _ => rfl) .nil rfl (dl := []) (fun as h => match as, h with | [_, _], _ => rfl) (fun _ _ _ => RpL.nil)
theorem ck1 (HK : K.In base) (HG : base.Ns mainGlobals mg) (c : SaysP fa fds ts ex w K) (a : At P w K mg base l X) (AJ : AllJ P w K mg base (Lk K) G T l) : RaisOk X (Lk K) "SignsError" 0 := by
  obtain ⟨fd, F⟩ := (c.def_ 7 (d := xf0) rfl)
  obtain ⟨e0, e1, e2, e3, e4, e5, e6, e7, e8, e9, e10, e11, e12, e13, e14, e15, e16, e17, e18, e19, e20, e21, e22, e23, e24, e25, e26, e27, e28, e29, e30, e31, e32, e33, e34, e35, e36, e37, e38, e39, e40, e41, e42, e43, e44, e45, e46⟩ := ex_parts c.more
  obtain ⟨h1, h2, h3, h4, h5, h6, h7, h8⟩ := a
  subst h3 h4
  exact ⟨⟨_, _, _, et_ok (He.glo_ok HK HG (c.fact 7 (f := .glo (PySem.Str.ofString "SignsError")) rfl)) e0 F, h8⟩⟩
theorem ck2 (HK : K.In base) (HG : base.Ns mainGlobals mg) (c : SaysP fa fds ts ex w K) (a : At P w K mg base l X) (AJ : AllJ P w K mg base (Lk K) G T l) : CallOk X (Lk K) (callN G (tabJ T) l) "_law_roots" 2 1 [.arg 0] := by
  obtain ⟨fd, F⟩ := (c.def_ 2 (d := f2) rfl)
  exact a.call AJ (g := 2) (j := j2) rfl F  (He.glo_ok HK HG (c.fact 2 (f := .glo (PySem.Str.ofString "_law_roots")) rfl)) (FunD.bindsN (ps := p2) F fun _ _ _ _ _ _ us hl => match us, hl with | [_], _ => rfl) .nil rfl (dl := []) (fun as h => match as, h with | [_], _ => rfl) (fun _ _ _ => RpL.nil)
theorem ck3 (HK : K.In base) (HG : base.Ns mainGlobals mg) (c : SaysP fa fds ts ex w K) (a : At P w K mg base l X) (AJ : AllJ P w K mg base (Lk K) G T l) : RaisOk0 X (Lk K) "NothingToUndo" 43 := by
  obtain ⟨e0, e1, e2, e3, e4, e5, e6, e7, e8, e9, e10, e11, e12, e13, e14, e15, e16, e17, e18, e19, e20, e21, e22, e23, e24, e25, e26, e27, e28, e29, e30, e31, e32, e33, e34, e35, e36, e37, e38, e39, e40, e41, e42, e43, e44, e45, e46⟩ := ex_parts c.more
  obtain ⟨h1, h2, h3, h4, h5, h6, h7, h8⟩ := a
  subst h3 h4
  exact rais0_ok (He.glo_ok HK HG (c.fact 50 (f := .glo (PySem.Str.ofString "NothingToUndo")) rfl)) e43
theorem ck4 (HK : K.In base) (HG : base.Ns mainGlobals mg) (c : SaysP fa fds ts ex w K) (a : At P w K mg base l X) (AJ : AllJ P w K mg base (Lk K) G T l) : RaisOk X (Lk K) "Absent" 34 := by
  obtain ⟨fd, F⟩ := (c.def_ 8 (d := xf1) rfl)
  obtain ⟨e0, e1, e2, e3, e4, e5, e6, e7, e8, e9, e10, e11, e12, e13, e14, e15, e16, e17, e18, e19, e20, e21, e22, e23, e24, e25, e26, e27, e28, e29, e30, e31, e32, e33, e34, e35, e36, e37, e38, e39, e40, e41, e42, e43, e44, e45, e46⟩ := ex_parts c.more
  obtain ⟨h1, h2, h3, h4, h5, h6, h7, h8⟩ := a
  subst h3 h4
  exact ⟨⟨_, _, _, et_ok (He.glo_ok HK HG (c.fact 41 (f := .glo (PySem.Str.ofString "Absent")) rfl)) e1 F, h8⟩⟩
theorem ck5 (HK : K.In base) (HG : base.Ns mainGlobals mg) (c : SaysP fa fds ts ex w K) (a : At P w K mg base l X) (AJ : AllJ P w K mg base (Lk K) G T l) : CallOk X (Lk K) (callN G (tabJ T) l) "_law_kinds" 3 1 [.arg 0] := by
  obtain ⟨fd, F⟩ := (c.def_ 3 (d := f3) rfl)
  exact a.call AJ (g := 3) (j := j3) rfl F  (He.glo_ok HK HG (c.fact 3 (f := .glo (PySem.Str.ofString "_law_kinds")) rfl)) (FunD.bindsN (ps := p3) F fun _ _ _ _ _ _ us hl => match us, hl with | [_], _ => rfl) .nil rfl (dl := []) (fun as h => match as, h with | [_], _ => rfl) (fun _ _ _ => RpL.nil)
theorem ck6 (HK : K.In base) (HG : base.Ns mainGlobals mg) (c : SaysP fa fds ts ex w K) (a : At P w K mg base l X) (AJ : AllJ P w K mg base (Lk K) G T l) : CallOk X (Lk K) (callN G (tabJ T) l) "_law_values" 4 1 [.arg 0] := by
  obtain ⟨fd, F⟩ := (c.def_ 4 (d := f4) rfl)
  exact a.call AJ (g := 4) (j := j4) rfl F  (He.glo_ok HK HG (c.fact 4 (f := .glo (PySem.Str.ofString "_law_values")) rfl)) (FunD.bindsN (ps := p4) F fun _ _ _ _ _ _ us hl => match us, hl with | [_], _ => rfl) .nil rfl (dl := []) (fun as h => match as, h with | [_], _ => rfl) (fun _ _ _ => RpL.nil)
theorem ck7 (HK : K.In base) (HG : base.Ns mainGlobals mg) (c : SaysP fa fds ts ex w K) (a : At P w K mg base l X) (AJ : AllJ P w K mg base (Lk K) G T l) : CallOk X (Lk K) (callN G (tabJ T) l) "_law_pool" 5 2 [.arg 0, .arg 1] := by
  obtain ⟨fd, F⟩ := (c.def_ 5 (d := f5) rfl)
  exact a.call AJ (g := 5) (j := j5) rfl F  (He.glo_ok HK HG (c.fact 5 (f := .glo (PySem.Str.ofString "_law_pool")) rfl)) (FunD.bindsN (ps := p5) F fun _ _ _ _ _ _ us hl => match us, hl with | [_, _], _ => rfl) .nil rfl (dl := []) (fun as h => match as, h with | [_, _], _ => rfl) (fun _ _ _ => RpL.nil)
theorem ck8 (HK : K.In base) (HG : base.Ns mainGlobals mg) (c : SaysP fa fds ts ex w K) (a : At P w K mg base l X) (AJ : AllJ P w K mg base (Lk K) G T l) : RaisOk X (Lk K) "TooMany" 42 := by
  obtain ⟨fd, F⟩ := (c.def_ 10 (d := xf3) rfl)
  obtain ⟨e0, e1, e2, e3, e4, e5, e6, e7, e8, e9, e10, e11, e12, e13, e14, e15, e16, e17, e18, e19, e20, e21, e22, e23, e24, e25, e26, e27, e28, e29, e30, e31, e32, e33, e34, e35, e36, e37, e38, e39, e40, e41, e42, e43, e44, e45, e46⟩ := ex_parts c.more
  obtain ⟨h1, h2, h3, h4, h5, h6, h7, h8⟩ := a
  subst h3 h4
  exact ⟨⟨_, _, _, et_ok (He.glo_ok HK HG (c.fact 49 (f := .glo (PySem.Str.ofString "TooMany")) rfl)) e9 F, h8⟩⟩
theorem ck9 (HK : K.In base) (HG : base.Ns mainGlobals mg) (c : SaysP fa fds ts ex w K) (a : At P w K mg base l X) (AJ : AllJ P w K mg base (Lk K) G T l) : RaisOk X (Lk K) "TooLarge" 41 := by
  obtain ⟨fd, F⟩ := (c.def_ 9 (d := xf2) rfl)
  obtain ⟨e0, e1, e2, e3, e4, e5, e6, e7, e8, e9, e10, e11, e12, e13, e14, e15, e16, e17, e18, e19, e20, e21, e22, e23, e24, e25, e26, e27, e28, e29, e30, e31, e32, e33, e34, e35, e36, e37, e38, e39, e40, e41, e42, e43, e44, e45, e46⟩ := ex_parts c.more
  obtain ⟨h1, h2, h3, h4, h5, h6, h7, h8⟩ := a
  subst h3 h4
  exact ⟨⟨_, _, _, et_ok (He.glo_ok HK HG (c.fact 48 (f := .glo (PySem.Str.ofString "TooLarge")) rfl)) e8 F, h8⟩⟩
theorem ck10 (HK : K.In base) (HG : base.Ns mainGlobals mg) (c : SaysP fa fds ts ex w K) (a : At P w K mg base l X) (AJ : AllJ P w K mg base (Lk K) G T l) : RaisOk X (Lk K) "NoFunction" 40 := by
  obtain ⟨fd, F⟩ := (c.def_ 8 (d := xf1) rfl)
  obtain ⟨e0, e1, e2, e3, e4, e5, e6, e7, e8, e9, e10, e11, e12, e13, e14, e15, e16, e17, e18, e19, e20, e21, e22, e23, e24, e25, e26, e27, e28, e29, e30, e31, e32, e33, e34, e35, e36, e37, e38, e39, e40, e41, e42, e43, e44, e45, e46⟩ := ex_parts c.more
  obtain ⟨h1, h2, h3, h4, h5, h6, h7, h8⟩ := a
  subst h3 h4
  exact ⟨⟨_, _, _, et_ok (He.glo_ok HK HG (c.fact 47 (f := .glo (PySem.Str.ofString "NoFunction")) rfl)) e7 F, h8⟩⟩
theorem ck11 (HK : K.In base) (HG : base.Ns mainGlobals mg) (c : SaysP fa fds ts ex w K) (a : At P w K mg base l X) (AJ : AllJ P w K mg base (Lk K) G T l) : RaisOk X (Lk K) "NoEntry" 39 := by
  obtain ⟨fd, F⟩ := (c.def_ 8 (d := xf1) rfl)
  obtain ⟨e0, e1, e2, e3, e4, e5, e6, e7, e8, e9, e10, e11, e12, e13, e14, e15, e16, e17, e18, e19, e20, e21, e22, e23, e24, e25, e26, e27, e28, e29, e30, e31, e32, e33, e34, e35, e36, e37, e38, e39, e40, e41, e42, e43, e44, e45, e46⟩ := ex_parts c.more
  obtain ⟨h1, h2, h3, h4, h5, h6, h7, h8⟩ := a
  subst h3 h4
  exact ⟨⟨_, _, _, et_ok (He.glo_ok HK HG (c.fact 46 (f := .glo (PySem.Str.ofString "NoEntry")) rfl)) e6 F, h8⟩⟩
theorem ck12 (HK : K.In base) (HG : base.Ns mainGlobals mg) (c : SaysP fa fds ts ex w K) (a : At P w K mg base l X) (AJ : AllJ P w K mg base (Lk K) G T l) : RaisOk X (Lk K) "NoVariable" 38 := by
  obtain ⟨fd, F⟩ := (c.def_ 8 (d := xf1) rfl)
  obtain ⟨e0, e1, e2, e3, e4, e5, e6, e7, e8, e9, e10, e11, e12, e13, e14, e15, e16, e17, e18, e19, e20, e21, e22, e23, e24, e25, e26, e27, e28, e29, e30, e31, e32, e33, e34, e35, e36, e37, e38, e39, e40, e41, e42, e43, e44, e45, e46⟩ := ex_parts c.more
  obtain ⟨h1, h2, h3, h4, h5, h6, h7, h8⟩ := a
  subst h3 h4
  exact ⟨⟨_, _, _, et_ok (He.glo_ok HK HG (c.fact 45 (f := .glo (PySem.Str.ofString "NoVariable")) rfl)) e5 F, h8⟩⟩
theorem ck13 (HK : K.In base) (HG : base.Ns mainGlobals mg) (c : SaysP fa fds ts ex w K) (a : At P w K mg base l X) (AJ : AllJ P w K mg base (Lk K) G T l) : RaisOk X (Lk K) "NoPlace" 37 := by
  obtain ⟨fd, F⟩ := (c.def_ 8 (d := xf1) rfl)
  obtain ⟨e0, e1, e2, e3, e4, e5, e6, e7, e8, e9, e10, e11, e12, e13, e14, e15, e16, e17, e18, e19, e20, e21, e22, e23, e24, e25, e26, e27, e28, e29, e30, e31, e32, e33, e34, e35, e36, e37, e38, e39, e40, e41, e42, e43, e44, e45, e46⟩ := ex_parts c.more
  obtain ⟨h1, h2, h3, h4, h5, h6, h7, h8⟩ := a
  subst h3 h4
  exact ⟨⟨_, _, _, et_ok (He.glo_ok HK HG (c.fact 44 (f := .glo (PySem.Str.ofString "NoPlace")) rfl)) e4 F, h8⟩⟩
theorem ck14 (HK : K.In base) (HG : base.Ns mainGlobals mg) (c : SaysP fa fds ts ex w K) (a : At P w K mg base l X) (AJ : AllJ P w K mg base (Lk K) G T l) : RaisOk X (Lk K) "NoBlock" 36 := by
  obtain ⟨fd, F⟩ := (c.def_ 8 (d := xf1) rfl)
  obtain ⟨e0, e1, e2, e3, e4, e5, e6, e7, e8, e9, e10, e11, e12, e13, e14, e15, e16, e17, e18, e19, e20, e21, e22, e23, e24, e25, e26, e27, e28, e29, e30, e31, e32, e33, e34, e35, e36, e37, e38, e39, e40, e41, e42, e43, e44, e45, e46⟩ := ex_parts c.more
  obtain ⟨h1, h2, h3, h4, h5, h6, h7, h8⟩ := a
  subst h3 h4
  exact ⟨⟨_, _, _, et_ok (He.glo_ok HK HG (c.fact 43 (f := .glo (PySem.Str.ofString "NoBlock")) rfl)) e3 F, h8⟩⟩
theorem ck15 (HK : K.In base) (HG : base.Ns mainGlobals mg) (c : SaysP fa fds ts ex w K) (a : At P w K mg base l X) (AJ : AllJ P w K mg base (Lk K) G T l) : RaisOk X (Lk K) "NoOperation" 35 := by
  obtain ⟨fd, F⟩ := (c.def_ 8 (d := xf1) rfl)
  obtain ⟨e0, e1, e2, e3, e4, e5, e6, e7, e8, e9, e10, e11, e12, e13, e14, e15, e16, e17, e18, e19, e20, e21, e22, e23, e24, e25, e26, e27, e28, e29, e30, e31, e32, e33, e34, e35, e36, e37, e38, e39, e40, e41, e42, e43, e44, e45, e46⟩ := ex_parts c.more
  obtain ⟨h1, h2, h3, h4, h5, h6, h7, h8⟩ := a
  subst h3 h4
  exact ⟨⟨_, _, _, et_ok (He.glo_ok HK HG (c.fact 42 (f := .glo (PySem.Str.ofString "NoOperation")) rfl)) e2 F, h8⟩⟩
theorem ck16 (HK : K.In base) (HG : base.Ns mainGlobals mg) (c : SaysP fa fds ts ex w K) (a : At P w K mg base l X) (AJ : AllJ P w K mg base (Lk K) G T l) : CallOk X (Lk K) (callN G (tabJ T) l) "_law_first_values" 6 1 [.arg 0] := by
  obtain ⟨fd, F⟩ := (c.def_ 6 (d := f6) rfl)
  exact a.call AJ (g := 6) (j := j6) rfl F  (He.glo_ok HK HG (c.fact 6 (f := .glo (PySem.Str.ofString "_law_first_values")) rfl)) (FunD.bindsN (ps := p6) F fun _ _ _ _ _ _ us hl => match us, hl with | [_], _ => rfl) .nil rfl (dl := []) (fun as h => match as, h with | [_], _ => rfl) (fun _ _ _ => RpL.nil)
theorem ck17 (HK : K.In base) (HG : base.Ns mainGlobals mg) (c : SaysP fa fds ts ex w K) (a : At P w K mg base l X) (AJ : AllJ P w K mg base (Lk K) G T l) : RaisOk X (Lk K) "BadChosen" 33 := by
  obtain ⟨fd, F⟩ := (c.def_ 7 (d := xf0) rfl)
  obtain ⟨e0, e1, e2, e3, e4, e5, e6, e7, e8, e9, e10, e11, e12, e13, e14, e15, e16, e17, e18, e19, e20, e21, e22, e23, e24, e25, e26, e27, e28, e29, e30, e31, e32, e33, e34, e35, e36, e37, e38, e39, e40, e41, e42, e43, e44, e45, e46⟩ := ex_parts c.more
  obtain ⟨h1, h2, h3, h4, h5, h6, h7, h8⟩ := a
  subst h3 h4
  exact ⟨⟨_, _, _, et_ok (He.glo_ok HK HG (c.fact 40 (f := .glo (PySem.Str.ofString "BadChosen")) rfl)) e42 F, h8⟩⟩
theorem ck18 (HK : K.In base) (HG : base.Ns mainGlobals mg) (c : SaysP fa fds ts ex w K) (a : At P w K mg base l X) (AJ : AllJ P w K mg base (Lk K) G T l) : RaisOk X (Lk K) "BadChange" 32 := by
  obtain ⟨fd, F⟩ := (c.def_ 7 (d := xf0) rfl)
  obtain ⟨e0, e1, e2, e3, e4, e5, e6, e7, e8, e9, e10, e11, e12, e13, e14, e15, e16, e17, e18, e19, e20, e21, e22, e23, e24, e25, e26, e27, e28, e29, e30, e31, e32, e33, e34, e35, e36, e37, e38, e39, e40, e41, e42, e43, e44, e45, e46⟩ := ex_parts c.more
  obtain ⟨h1, h2, h3, h4, h5, h6, h7, h8⟩ := a
  subst h3 h4
  exact ⟨⟨_, _, _, et_ok (He.glo_ok HK HG (c.fact 39 (f := .glo (PySem.Str.ofString "BadChange")) rfl)) e41 F, h8⟩⟩
theorem ck19 (HK : K.In base) (HG : base.Ns mainGlobals mg) (c : SaysP fa fds ts ex w K) (a : At P w K mg base l X) (AJ : AllJ P w K mg base (Lk K) G T l) : RaisOk X (Lk K) "BadTurns" 31 := by
  obtain ⟨fd, F⟩ := (c.def_ 7 (d := xf0) rfl)
  obtain ⟨e0, e1, e2, e3, e4, e5, e6, e7, e8, e9, e10, e11, e12, e13, e14, e15, e16, e17, e18, e19, e20, e21, e22, e23, e24, e25, e26, e27, e28, e29, e30, e31, e32, e33, e34, e35, e36, e37, e38, e39, e40, e41, e42, e43, e44, e45, e46⟩ := ex_parts c.more
  obtain ⟨h1, h2, h3, h4, h5, h6, h7, h8⟩ := a
  subst h3 h4
  exact ⟨⟨_, _, _, et_ok (He.glo_ok HK HG (c.fact 38 (f := .glo (PySem.Str.ofString "BadTurns")) rfl)) e40 F, h8⟩⟩
theorem ck20 (HK : K.In base) (HG : base.Ns mainGlobals mg) (c : SaysP fa fds ts ex w K) (a : At P w K mg base l X) (AJ : AllJ P w K mg base (Lk K) G T l) : RaisOk X (Lk K) "BadBooks" 30 := by
  obtain ⟨fd, F⟩ := (c.def_ 7 (d := xf0) rfl)
  obtain ⟨e0, e1, e2, e3, e4, e5, e6, e7, e8, e9, e10, e11, e12, e13, e14, e15, e16, e17, e18, e19, e20, e21, e22, e23, e24, e25, e26, e27, e28, e29, e30, e31, e32, e33, e34, e35, e36, e37, e38, e39, e40, e41, e42, e43, e44, e45, e46⟩ := ex_parts c.more
  obtain ⟨h1, h2, h3, h4, h5, h6, h7, h8⟩ := a
  subst h3 h4
  exact ⟨⟨_, _, _, et_ok (He.glo_ok HK HG (c.fact 37 (f := .glo (PySem.Str.ofString "BadBooks")) rfl)) e39 F, h8⟩⟩
theorem ck21 (HK : K.In base) (HG : base.Ns mainGlobals mg) (c : SaysP fa fds ts ex w K) (a : At P w K mg base l X) (AJ : AllJ P w K mg base (Lk K) G T l) : RaisOk X (Lk K) "BadBook" 29 := by
  obtain ⟨fd, F⟩ := (c.def_ 7 (d := xf0) rfl)
  obtain ⟨e0, e1, e2, e3, e4, e5, e6, e7, e8, e9, e10, e11, e12, e13, e14, e15, e16, e17, e18, e19, e20, e21, e22, e23, e24, e25, e26, e27, e28, e29, e30, e31, e32, e33, e34, e35, e36, e37, e38, e39, e40, e41, e42, e43, e44, e45, e46⟩ := ex_parts c.more
  obtain ⟨h1, h2, h3, h4, h5, h6, h7, h8⟩ := a
  subst h3 h4
  exact ⟨⟨_, _, _, et_ok (He.glo_ok HK HG (c.fact 36 (f := .glo (PySem.Str.ofString "BadBook")) rfl)) e38 F, h8⟩⟩
theorem ck22 (HK : K.In base) (HG : base.Ns mainGlobals mg) (c : SaysP fa fds ts ex w K) (a : At P w K mg base l X) (AJ : AllJ P w K mg base (Lk K) G T l) : RaisOk X (Lk K) "BadPromise" 28 := by
  obtain ⟨fd, F⟩ := (c.def_ 7 (d := xf0) rfl)
  obtain ⟨e0, e1, e2, e3, e4, e5, e6, e7, e8, e9, e10, e11, e12, e13, e14, e15, e16, e17, e18, e19, e20, e21, e22, e23, e24, e25, e26, e27, e28, e29, e30, e31, e32, e33, e34, e35, e36, e37, e38, e39, e40, e41, e42, e43, e44, e45, e46⟩ := ex_parts c.more
  obtain ⟨h1, h2, h3, h4, h5, h6, h7, h8⟩ := a
  subst h3 h4
  exact ⟨⟨_, _, _, et_ok (He.glo_ok HK HG (c.fact 35 (f := .glo (PySem.Str.ofString "BadPromise")) rfl)) e37 F, h8⟩⟩
theorem ck23 (HK : K.In base) (HG : base.Ns mainGlobals mg) (c : SaysP fa fds ts ex w K) (a : At P w K mg base l X) (AJ : AllJ P w K mg base (Lk K) G T l) : RaisOk X (Lk K) "BadPromises" 27 := by
  obtain ⟨fd, F⟩ := (c.def_ 7 (d := xf0) rfl)
  obtain ⟨e0, e1, e2, e3, e4, e5, e6, e7, e8, e9, e10, e11, e12, e13, e14, e15, e16, e17, e18, e19, e20, e21, e22, e23, e24, e25, e26, e27, e28, e29, e30, e31, e32, e33, e34, e35, e36, e37, e38, e39, e40, e41, e42, e43, e44, e45, e46⟩ := ex_parts c.more
  obtain ⟨h1, h2, h3, h4, h5, h6, h7, h8⟩ := a
  subst h3 h4
  exact ⟨⟨_, _, _, et_ok (He.glo_ok HK HG (c.fact 34 (f := .glo (PySem.Str.ofString "BadPromises")) rfl)) e36 F, h8⟩⟩
theorem ck24 (HK : K.In base) (HG : base.Ns mainGlobals mg) (c : SaysP fa fds ts ex w K) (a : At P w K mg base l X) (AJ : AllJ P w K mg base (Lk K) G T l) : RaisOk X (Lk K) "BadGroup" 26 := by
  obtain ⟨fd, F⟩ := (c.def_ 7 (d := xf0) rfl)
  obtain ⟨e0, e1, e2, e3, e4, e5, e6, e7, e8, e9, e10, e11, e12, e13, e14, e15, e16, e17, e18, e19, e20, e21, e22, e23, e24, e25, e26, e27, e28, e29, e30, e31, e32, e33, e34, e35, e36, e37, e38, e39, e40, e41, e42, e43, e44, e45, e46⟩ := ex_parts c.more
  obtain ⟨h1, h2, h3, h4, h5, h6, h7, h8⟩ := a
  subst h3 h4
  exact ⟨⟨_, _, _, et_ok (He.glo_ok HK HG (c.fact 33 (f := .glo (PySem.Str.ofString "BadGroup")) rfl)) e35 F, h8⟩⟩
theorem ck25 (HK : K.In base) (HG : base.Ns mainGlobals mg) (c : SaysP fa fds ts ex w K) (a : At P w K mg base l X) (AJ : AllJ P w K mg base (Lk K) G T l) : RaisOk X (Lk K) "BadFunction" 25 := by
  obtain ⟨fd, F⟩ := (c.def_ 7 (d := xf0) rfl)
  obtain ⟨e0, e1, e2, e3, e4, e5, e6, e7, e8, e9, e10, e11, e12, e13, e14, e15, e16, e17, e18, e19, e20, e21, e22, e23, e24, e25, e26, e27, e28, e29, e30, e31, e32, e33, e34, e35, e36, e37, e38, e39, e40, e41, e42, e43, e44, e45, e46⟩ := ex_parts c.more
  obtain ⟨h1, h2, h3, h4, h5, h6, h7, h8⟩ := a
  subst h3 h4
  exact ⟨⟨_, _, _, et_ok (He.glo_ok HK HG (c.fact 32 (f := .glo (PySem.Str.ofString "BadFunction")) rfl)) e34 F, h8⟩⟩
theorem ck26 (HK : K.In base) (HG : base.Ns mainGlobals mg) (c : SaysP fa fds ts ex w K) (a : At P w K mg base l X) (AJ : AllJ P w K mg base (Lk K) G T l) : RaisOk X (Lk K) "BadFunctions" 24 := by
  obtain ⟨fd, F⟩ := (c.def_ 7 (d := xf0) rfl)
  obtain ⟨e0, e1, e2, e3, e4, e5, e6, e7, e8, e9, e10, e11, e12, e13, e14, e15, e16, e17, e18, e19, e20, e21, e22, e23, e24, e25, e26, e27, e28, e29, e30, e31, e32, e33, e34, e35, e36, e37, e38, e39, e40, e41, e42, e43, e44, e45, e46⟩ := ex_parts c.more
  obtain ⟨h1, h2, h3, h4, h5, h6, h7, h8⟩ := a
  subst h3 h4
  exact ⟨⟨_, _, _, et_ok (He.glo_ok HK HG (c.fact 31 (f := .glo (PySem.Str.ofString "BadFunctions")) rfl)) e33 F, h8⟩⟩
theorem ck27 (HK : K.In base) (HG : base.Ns mainGlobals mg) (c : SaysP fa fds ts ex w K) (a : At P w K mg base l X) (AJ : AllJ P w K mg base (Lk K) G T l) : RaisOk X (Lk K) "BadFlow" 23 := by
  obtain ⟨fd, F⟩ := (c.def_ 7 (d := xf0) rfl)
  obtain ⟨e0, e1, e2, e3, e4, e5, e6, e7, e8, e9, e10, e11, e12, e13, e14, e15, e16, e17, e18, e19, e20, e21, e22, e23, e24, e25, e26, e27, e28, e29, e30, e31, e32, e33, e34, e35, e36, e37, e38, e39, e40, e41, e42, e43, e44, e45, e46⟩ := ex_parts c.more
  obtain ⟨h1, h2, h3, h4, h5, h6, h7, h8⟩ := a
  subst h3 h4
  exact ⟨⟨_, _, _, et_ok (He.glo_ok HK HG (c.fact 30 (f := .glo (PySem.Str.ofString "BadFlow")) rfl)) e32 F, h8⟩⟩
theorem ck28 (HK : K.In base) (HG : base.Ns mainGlobals mg) (c : SaysP fa fds ts ex w K) (a : At P w K mg base l X) (AJ : AllJ P w K mg base (Lk K) G T l) : RaisOk X (Lk K) "BadFrequencies" 22 := by
  obtain ⟨fd, F⟩ := (c.def_ 7 (d := xf0) rfl)
  obtain ⟨e0, e1, e2, e3, e4, e5, e6, e7, e8, e9, e10, e11, e12, e13, e14, e15, e16, e17, e18, e19, e20, e21, e22, e23, e24, e25, e26, e27, e28, e29, e30, e31, e32, e33, e34, e35, e36, e37, e38, e39, e40, e41, e42, e43, e44, e45, e46⟩ := ex_parts c.more
  obtain ⟨h1, h2, h3, h4, h5, h6, h7, h8⟩ := a
  subst h3 h4
  exact ⟨⟨_, _, _, et_ok (He.glo_ok HK HG (c.fact 29 (f := .glo (PySem.Str.ofString "BadFrequencies")) rfl)) e31 F, h8⟩⟩
theorem ck29 (HK : K.In base) (HG : base.Ns mainGlobals mg) (c : SaysP fa fds ts ex w K) (a : At P w K mg base l X) (AJ : AllJ P w K mg base (Lk K) G T l) : RaisOk X (Lk K) "BadPuts" 21 := by
  obtain ⟨fd, F⟩ := (c.def_ 7 (d := xf0) rfl)
  obtain ⟨e0, e1, e2, e3, e4, e5, e6, e7, e8, e9, e10, e11, e12, e13, e14, e15, e16, e17, e18, e19, e20, e21, e22, e23, e24, e25, e26, e27, e28, e29, e30, e31, e32, e33, e34, e35, e36, e37, e38, e39, e40, e41, e42, e43, e44, e45, e46⟩ := ex_parts c.more
  obtain ⟨h1, h2, h3, h4, h5, h6, h7, h8⟩ := a
  subst h3 h4
  exact ⟨⟨_, _, _, et_ok (He.glo_ok HK HG (c.fact 28 (f := .glo (PySem.Str.ofString "BadPuts")) rfl)) e30 F, h8⟩⟩
theorem ck30 (HK : K.In base) (HG : base.Ns mainGlobals mg) (c : SaysP fa fds ts ex w K) (a : At P w K mg base l X) (AJ : AllJ P w K mg base (Lk K) G T l) : RaisOk X (Lk K) "NoEnd" 20 := by
  obtain ⟨fd, F⟩ := (c.def_ 7 (d := xf0) rfl)
  obtain ⟨e0, e1, e2, e3, e4, e5, e6, e7, e8, e9, e10, e11, e12, e13, e14, e15, e16, e17, e18, e19, e20, e21, e22, e23, e24, e25, e26, e27, e28, e29, e30, e31, e32, e33, e34, e35, e36, e37, e38, e39, e40, e41, e42, e43, e44, e45, e46⟩ := ex_parts c.more
  obtain ⟨h1, h2, h3, h4, h5, h6, h7, h8⟩ := a
  subst h3 h4
  exact ⟨⟨_, _, _, et_ok (He.glo_ok HK HG (c.fact 27 (f := .glo (PySem.Str.ofString "NoEnd")) rfl)) e29 F, h8⟩⟩
theorem ck31 (HK : K.In base) (HG : base.Ns mainGlobals mg) (c : SaysP fa fds ts ex w K) (a : At P w K mg base l X) (AJ : AllJ P w K mg base (Lk K) G T l) : RaisOk X (Lk K) "NotSimple" 19 := by
  obtain ⟨fd, F⟩ := (c.def_ 7 (d := xf0) rfl)
  obtain ⟨e0, e1, e2, e3, e4, e5, e6, e7, e8, e9, e10, e11, e12, e13, e14, e15, e16, e17, e18, e19, e20, e21, e22, e23, e24, e25, e26, e27, e28, e29, e30, e31, e32, e33, e34, e35, e36, e37, e38, e39, e40, e41, e42, e43, e44, e45, e46⟩ := ex_parts c.more
  obtain ⟨h1, h2, h3, h4, h5, h6, h7, h8⟩ := a
  subst h3 h4
  exact ⟨⟨_, _, _, et_ok (He.glo_ok HK HG (c.fact 26 (f := .glo (PySem.Str.ofString "NotSimple")) rfl)) e28 F, h8⟩⟩
theorem ck32 (HK : K.In base) (HG : base.Ns mainGlobals mg) (c : SaysP fa fds ts ex w K) (a : At P w K mg base l X) (AJ : AllJ P w K mg base (Lk K) G T l) : RaisOk X (Lk K) "BadKind" 18 := by
  obtain ⟨fd, F⟩ := (c.def_ 7 (d := xf0) rfl)
  obtain ⟨e0, e1, e2, e3, e4, e5, e6, e7, e8, e9, e10, e11, e12, e13, e14, e15, e16, e17, e18, e19, e20, e21, e22, e23, e24, e25, e26, e27, e28, e29, e30, e31, e32, e33, e34, e35, e36, e37, e38, e39, e40, e41, e42, e43, e44, e45, e46⟩ := ex_parts c.more
  obtain ⟨h1, h2, h3, h4, h5, h6, h7, h8⟩ := a
  subst h3 h4
  exact ⟨⟨_, _, _, et_ok (He.glo_ok HK HG (c.fact 25 (f := .glo (PySem.Str.ofString "BadKind")) rfl)) e27 F, h8⟩⟩
theorem ck33 (HK : K.In base) (HG : base.Ns mainGlobals mg) (c : SaysP fa fds ts ex w K) (a : At P w K mg base l X) (AJ : AllJ P w K mg base (Lk K) G T l) : RaisOk X (Lk K) "BadDraft" 17 := by
  obtain ⟨fd, F⟩ := (c.def_ 7 (d := xf0) rfl)
  obtain ⟨e0, e1, e2, e3, e4, e5, e6, e7, e8, e9, e10, e11, e12, e13, e14, e15, e16, e17, e18, e19, e20, e21, e22, e23, e24, e25, e26, e27, e28, e29, e30, e31, e32, e33, e34, e35, e36, e37, e38, e39, e40, e41, e42, e43, e44, e45, e46⟩ := ex_parts c.more
  obtain ⟨h1, h2, h3, h4, h5, h6, h7, h8⟩ := a
  subst h3 h4
  exact ⟨⟨_, _, _, et_ok (He.glo_ok HK HG (c.fact 24 (f := .glo (PySem.Str.ofString "BadDraft")) rfl)) e26 F, h8⟩⟩
theorem ck34 (HK : K.In base) (HG : base.Ns mainGlobals mg) (c : SaysP fa fds ts ex w K) (a : At P w K mg base l X) (AJ : AllJ P w K mg base (Lk K) G T l) : RaisOk X (Lk K) "BadText" 16 := by
  obtain ⟨fd, F⟩ := (c.def_ 7 (d := xf0) rfl)
  obtain ⟨e0, e1, e2, e3, e4, e5, e6, e7, e8, e9, e10, e11, e12, e13, e14, e15, e16, e17, e18, e19, e20, e21, e22, e23, e24, e25, e26, e27, e28, e29, e30, e31, e32, e33, e34, e35, e36, e37, e38, e39, e40, e41, e42, e43, e44, e45, e46⟩ := ex_parts c.more
  obtain ⟨h1, h2, h3, h4, h5, h6, h7, h8⟩ := a
  subst h3 h4
  exact ⟨⟨_, _, _, et_ok (He.glo_ok HK HG (c.fact 23 (f := .glo (PySem.Str.ofString "BadText")) rfl)) e25 F, h8⟩⟩
theorem ck35 (HK : K.In base) (HG : base.Ns mainGlobals mg) (c : SaysP fa fds ts ex w K) (a : At P w K mg base l X) (AJ : AllJ P w K mg base (Lk K) G T l) : RaisOk X (Lk K) "BadRun" 15 := by
  obtain ⟨fd, F⟩ := (c.def_ 7 (d := xf0) rfl)
  obtain ⟨e0, e1, e2, e3, e4, e5, e6, e7, e8, e9, e10, e11, e12, e13, e14, e15, e16, e17, e18, e19, e20, e21, e22, e23, e24, e25, e26, e27, e28, e29, e30, e31, e32, e33, e34, e35, e36, e37, e38, e39, e40, e41, e42, e43, e44, e45, e46⟩ := ex_parts c.more
  obtain ⟨h1, h2, h3, h4, h5, h6, h7, h8⟩ := a
  subst h3 h4
  exact ⟨⟨_, _, _, et_ok (He.glo_ok HK HG (c.fact 22 (f := .glo (PySem.Str.ofString "BadRun")) rfl)) e24 F, h8⟩⟩
theorem ck36 (HK : K.In base) (HG : base.Ns mainGlobals mg) (c : SaysP fa fds ts ex w K) (a : At P w K mg base l X) (AJ : AllJ P w K mg base (Lk K) G T l) : RaisOk X (Lk K) "BadRoad" 14 := by
  obtain ⟨fd, F⟩ := (c.def_ 7 (d := xf0) rfl)
  obtain ⟨e0, e1, e2, e3, e4, e5, e6, e7, e8, e9, e10, e11, e12, e13, e14, e15, e16, e17, e18, e19, e20, e21, e22, e23, e24, e25, e26, e27, e28, e29, e30, e31, e32, e33, e34, e35, e36, e37, e38, e39, e40, e41, e42, e43, e44, e45, e46⟩ := ex_parts c.more
  obtain ⟨h1, h2, h3, h4, h5, h6, h7, h8⟩ := a
  subst h3 h4
  exact ⟨⟨_, _, _, et_ok (He.glo_ok HK HG (c.fact 21 (f := .glo (PySem.Str.ofString "BadRoad")) rfl)) e23 F, h8⟩⟩
theorem ck37 (HK : K.In base) (HG : base.Ns mainGlobals mg) (c : SaysP fa fds ts ex w K) (a : At P w K mg base l X) (AJ : AllJ P w K mg base (Lk K) G T l) : RaisOk X (Lk K) "BadProgram" 13 := by
  obtain ⟨fd, F⟩ := (c.def_ 7 (d := xf0) rfl)
  obtain ⟨e0, e1, e2, e3, e4, e5, e6, e7, e8, e9, e10, e11, e12, e13, e14, e15, e16, e17, e18, e19, e20, e21, e22, e23, e24, e25, e26, e27, e28, e29, e30, e31, e32, e33, e34, e35, e36, e37, e38, e39, e40, e41, e42, e43, e44, e45, e46⟩ := ex_parts c.more
  obtain ⟨h1, h2, h3, h4, h5, h6, h7, h8⟩ := a
  subst h3 h4
  exact ⟨⟨_, _, _, et_ok (He.glo_ok HK HG (c.fact 20 (f := .glo (PySem.Str.ofString "BadProgram")) rfl)) e22 F, h8⟩⟩
theorem ck38 (HK : K.In base) (HG : base.Ns mainGlobals mg) (c : SaysP fa fds ts ex w K) (a : At P w K mg base l X) (AJ : AllJ P w K mg base (Lk K) G T l) : RaisOk X (Lk K) "BadRow" 12 := by
  obtain ⟨fd, F⟩ := (c.def_ 7 (d := xf0) rfl)
  obtain ⟨e0, e1, e2, e3, e4, e5, e6, e7, e8, e9, e10, e11, e12, e13, e14, e15, e16, e17, e18, e19, e20, e21, e22, e23, e24, e25, e26, e27, e28, e29, e30, e31, e32, e33, e34, e35, e36, e37, e38, e39, e40, e41, e42, e43, e44, e45, e46⟩ := ex_parts c.more
  obtain ⟨h1, h2, h3, h4, h5, h6, h7, h8⟩ := a
  subst h3 h4
  exact ⟨⟨_, _, _, et_ok (He.glo_ok HK HG (c.fact 19 (f := .glo (PySem.Str.ofString "BadRow")) rfl)) e21 F, h8⟩⟩
theorem ck39 (HK : K.In base) (HG : base.Ns mainGlobals mg) (c : SaysP fa fds ts ex w K) (a : At P w K mg base l X) (AJ : AllJ P w K mg base (Lk K) G T l) : RaisOk X (Lk K) "BadStarts" 11 := by
  obtain ⟨fd, F⟩ := (c.def_ 7 (d := xf0) rfl)
  obtain ⟨e0, e1, e2, e3, e4, e5, e6, e7, e8, e9, e10, e11, e12, e13, e14, e15, e16, e17, e18, e19, e20, e21, e22, e23, e24, e25, e26, e27, e28, e29, e30, e31, e32, e33, e34, e35, e36, e37, e38, e39, e40, e41, e42, e43, e44, e45, e46⟩ := ex_parts c.more
  obtain ⟨h1, h2, h3, h4, h5, h6, h7, h8⟩ := a
  subst h3 h4
  exact ⟨⟨_, _, _, et_ok (He.glo_ok HK HG (c.fact 18 (f := .glo (PySem.Str.ofString "BadStarts")) rfl)) e20 F, h8⟩⟩
theorem ck40 (HK : K.In base) (HG : base.Ns mainGlobals mg) (c : SaysP fa fds ts ex w K) (a : At P w K mg base l X) (AJ : AllJ P w K mg base (Lk K) G T l) : RaisOk X (Lk K) "BadBlocks" 10 := by
  obtain ⟨fd, F⟩ := (c.def_ 7 (d := xf0) rfl)
  obtain ⟨e0, e1, e2, e3, e4, e5, e6, e7, e8, e9, e10, e11, e12, e13, e14, e15, e16, e17, e18, e19, e20, e21, e22, e23, e24, e25, e26, e27, e28, e29, e30, e31, e32, e33, e34, e35, e36, e37, e38, e39, e40, e41, e42, e43, e44, e45, e46⟩ := ex_parts c.more
  obtain ⟨h1, h2, h3, h4, h5, h6, h7, h8⟩ := a
  subst h3 h4
  exact ⟨⟨_, _, _, et_ok (He.glo_ok HK HG (c.fact 17 (f := .glo (PySem.Str.ofString "BadBlocks")) rfl)) e19 F, h8⟩⟩
theorem ck41 (HK : K.In base) (HG : base.Ns mainGlobals mg) (c : SaysP fa fds ts ex w K) (a : At P w K mg base l X) (AJ : AllJ P w K mg base (Lk K) G T l) : RaisOk X (Lk K) "BadTable" 9 := by
  obtain ⟨fd, F⟩ := (c.def_ 7 (d := xf0) rfl)
  obtain ⟨e0, e1, e2, e3, e4, e5, e6, e7, e8, e9, e10, e11, e12, e13, e14, e15, e16, e17, e18, e19, e20, e21, e22, e23, e24, e25, e26, e27, e28, e29, e30, e31, e32, e33, e34, e35, e36, e37, e38, e39, e40, e41, e42, e43, e44, e45, e46⟩ := ex_parts c.more
  obtain ⟨h1, h2, h3, h4, h5, h6, h7, h8⟩ := a
  subst h3 h4
  exact ⟨⟨_, _, _, et_ok (He.glo_ok HK HG (c.fact 16 (f := .glo (PySem.Str.ofString "BadTable")) rfl)) e18 F, h8⟩⟩
theorem ck42 (HK : K.In base) (HG : base.Ns mainGlobals mg) (c : SaysP fa fds ts ex w K) (a : At P w K mg base l X) (AJ : AllJ P w K mg base (Lk K) G T l) : RaisOk X (Lk K) "BadOperands" 8 := by
  obtain ⟨fd, F⟩ := (c.def_ 7 (d := xf0) rfl)
  obtain ⟨e0, e1, e2, e3, e4, e5, e6, e7, e8, e9, e10, e11, e12, e13, e14, e15, e16, e17, e18, e19, e20, e21, e22, e23, e24, e25, e26, e27, e28, e29, e30, e31, e32, e33, e34, e35, e36, e37, e38, e39, e40, e41, e42, e43, e44, e45, e46⟩ := ex_parts c.more
  obtain ⟨h1, h2, h3, h4, h5, h6, h7, h8⟩ := a
  subst h3 h4
  exact ⟨⟨_, _, _, et_ok (He.glo_ok HK HG (c.fact 15 (f := .glo (PySem.Str.ofString "BadOperands")) rfl)) e17 F, h8⟩⟩
theorem ck43 (HK : K.In base) (HG : base.Ns mainGlobals mg) (c : SaysP fa fds ts ex w K) (a : At P w K mg base l X) (AJ : AllJ P w K mg base (Lk K) G T l) : RaisOk X (Lk K) "BadOperation" 7 := by
  obtain ⟨fd, F⟩ := (c.def_ 7 (d := xf0) rfl)
  obtain ⟨e0, e1, e2, e3, e4, e5, e6, e7, e8, e9, e10, e11, e12, e13, e14, e15, e16, e17, e18, e19, e20, e21, e22, e23, e24, e25, e26, e27, e28, e29, e30, e31, e32, e33, e34, e35, e36, e37, e38, e39, e40, e41, e42, e43, e44, e45, e46⟩ := ex_parts c.more
  obtain ⟨h1, h2, h3, h4, h5, h6, h7, h8⟩ := a
  subst h3 h4
  exact ⟨⟨_, _, _, et_ok (He.glo_ok HK HG (c.fact 14 (f := .glo (PySem.Str.ofString "BadOperation")) rfl)) e16 F, h8⟩⟩
theorem ck44 (HK : K.In base) (HG : base.Ns mainGlobals mg) (c : SaysP fa fds ts ex w K) (a : At P w K mg base l X) (AJ : AllJ P w K mg base (Lk K) G T l) : RaisOk X (Lk K) "BadWants" 6 := by
  obtain ⟨fd, F⟩ := (c.def_ 7 (d := xf0) rfl)
  obtain ⟨e0, e1, e2, e3, e4, e5, e6, e7, e8, e9, e10, e11, e12, e13, e14, e15, e16, e17, e18, e19, e20, e21, e22, e23, e24, e25, e26, e27, e28, e29, e30, e31, e32, e33, e34, e35, e36, e37, e38, e39, e40, e41, e42, e43, e44, e45, e46⟩ := ex_parts c.more
  obtain ⟨h1, h2, h3, h4, h5, h6, h7, h8⟩ := a
  subst h3 h4
  exact ⟨⟨_, _, _, et_ok (He.glo_ok HK HG (c.fact 13 (f := .glo (PySem.Str.ofString "BadWants")) rfl)) e15 F, h8⟩⟩
theorem ck45 (HK : K.In base) (HG : base.Ns mainGlobals mg) (c : SaysP fa fds ts ex w K) (a : At P w K mg base l X) (AJ : AllJ P w K mg base (Lk K) G T l) : RaisOk X (Lk K) "BadArity" 5 := by
  obtain ⟨fd, F⟩ := (c.def_ 7 (d := xf0) rfl)
  obtain ⟨e0, e1, e2, e3, e4, e5, e6, e7, e8, e9, e10, e11, e12, e13, e14, e15, e16, e17, e18, e19, e20, e21, e22, e23, e24, e25, e26, e27, e28, e29, e30, e31, e32, e33, e34, e35, e36, e37, e38, e39, e40, e41, e42, e43, e44, e45, e46⟩ := ex_parts c.more
  obtain ⟨h1, h2, h3, h4, h5, h6, h7, h8⟩ := a
  subst h3 h4
  exact ⟨⟨_, _, _, et_ok (He.glo_ok HK HG (c.fact 12 (f := .glo (PySem.Str.ofString "BadArity")) rfl)) e14 F, h8⟩⟩
theorem ck46 (HK : K.In base) (HG : base.Ns mainGlobals mg) (c : SaysP fa fds ts ex w K) (a : At P w K mg base l X) (AJ : AllJ P w K mg base (Lk K) G T l) : RaisOk X (Lk K) "Unlike" 4 := by
  obtain ⟨fd, F⟩ := (c.def_ 7 (d := xf0) rfl)
  obtain ⟨e0, e1, e2, e3, e4, e5, e6, e7, e8, e9, e10, e11, e12, e13, e14, e15, e16, e17, e18, e19, e20, e21, e22, e23, e24, e25, e26, e27, e28, e29, e30, e31, e32, e33, e34, e35, e36, e37, e38, e39, e40, e41, e42, e43, e44, e45, e46⟩ := ex_parts c.more
  obtain ⟨h1, h2, h3, h4, h5, h6, h7, h8⟩ := a
  subst h3 h4
  exact ⟨⟨_, _, _, et_ok (He.glo_ok HK HG (c.fact 11 (f := .glo (PySem.Str.ofString "Unlike")) rfl)) e13 F, h8⟩⟩
theorem ck47 (HK : K.In base) (HG : base.Ns mainGlobals mg) (c : SaysP fa fds ts ex w K) (a : At P w K mg base l X) (AJ : AllJ P w K mg base (Lk K) G T l) : RaisOk X (Lk K) "BadNumber" 3 := by
  obtain ⟨fd, F⟩ := (c.def_ 7 (d := xf0) rfl)
  obtain ⟨e0, e1, e2, e3, e4, e5, e6, e7, e8, e9, e10, e11, e12, e13, e14, e15, e16, e17, e18, e19, e20, e21, e22, e23, e24, e25, e26, e27, e28, e29, e30, e31, e32, e33, e34, e35, e36, e37, e38, e39, e40, e41, e42, e43, e44, e45, e46⟩ := ex_parts c.more
  obtain ⟨h1, h2, h3, h4, h5, h6, h7, h8⟩ := a
  subst h3 h4
  exact ⟨⟨_, _, _, et_ok (He.glo_ok HK HG (c.fact 10 (f := .glo (PySem.Str.ofString "BadNumber")) rfl)) e12 F, h8⟩⟩
theorem ck48 (HK : K.In base) (HG : base.Ns mainGlobals mg) (c : SaysP fa fds ts ex w K) (a : At P w K mg base l X) (AJ : AllJ P w K mg base (Lk K) G T l) : RaisOk X (Lk K) "BadMark" 2 := by
  obtain ⟨fd, F⟩ := (c.def_ 7 (d := xf0) rfl)
  obtain ⟨e0, e1, e2, e3, e4, e5, e6, e7, e8, e9, e10, e11, e12, e13, e14, e15, e16, e17, e18, e19, e20, e21, e22, e23, e24, e25, e26, e27, e28, e29, e30, e31, e32, e33, e34, e35, e36, e37, e38, e39, e40, e41, e42, e43, e44, e45, e46⟩ := ex_parts c.more
  obtain ⟨h1, h2, h3, h4, h5, h6, h7, h8⟩ := a
  subst h3 h4
  exact ⟨⟨_, _, _, et_ok (He.glo_ok HK HG (c.fact 9 (f := .glo (PySem.Str.ofString "BadMark")) rfl)) e11 F, h8⟩⟩
theorem ck49 (HK : K.In base) (HG : base.Ns mainGlobals mg) (c : SaysP fa fds ts ex w K) (a : At P w K mg base l X) (AJ : AllJ P w K mg base (Lk K) G T l) : RaisOk X (Lk K) "BadDress" 1 := by
  obtain ⟨fd, F⟩ := (c.def_ 7 (d := xf0) rfl)
  obtain ⟨e0, e1, e2, e3, e4, e5, e6, e7, e8, e9, e10, e11, e12, e13, e14, e15, e16, e17, e18, e19, e20, e21, e22, e23, e24, e25, e26, e27, e28, e29, e30, e31, e32, e33, e34, e35, e36, e37, e38, e39, e40, e41, e42, e43, e44, e45, e46⟩ := ex_parts c.more
  obtain ⟨h1, h2, h3, h4, h5, h6, h7, h8⟩ := a
  subst h3 h4
  exact ⟨⟨_, _, _, et_ok (He.glo_ok HK HG (c.fact 8 (f := .glo (PySem.Str.ofString "BadDress")) rfl)) e10 F, h8⟩⟩
theorem calls_ok (HK : K.In base) (HG : base.Ns mainGlobals mg) (c : SaysP fa fds ts ex w K) (a : At P w K mg base l X) (AJ : AllJ P w K mg base (Lk K) G T l) : Calls X (Lk K) (callN G (tabJ T) l) := ⟨ck0 HK HG c a AJ, ck1 HK HG c a AJ, ck2 HK HG c a AJ, ck3 HK HG c a AJ, ck4 HK HG c a AJ, ck5 HK HG c a AJ, ck6 HK HG c a AJ, ck7 HK HG c a AJ, ck8 HK HG c a AJ, ck9 HK HG c a AJ, ck10 HK HG c a AJ, ck11 HK HG c a AJ, ck12 HK HG c a AJ, ck13 HK HG c a AJ, ck14 HK HG c a AJ, ck15 HK HG c a AJ, ck16 HK HG c a AJ, ck17 HK HG c a AJ, ck18 HK HG c a AJ, ck19 HK HG c a AJ, ck20 HK HG c a AJ, ck21 HK HG c a AJ, ck22 HK HG c a AJ, ck23 HK HG c a AJ, ck24 HK HG c a AJ, ck25 HK HG c a AJ, ck26 HK HG c a AJ, ck27 HK HG c a AJ, ck28 HK HG c a AJ, ck29 HK HG c a AJ, ck30 HK HG c a AJ, ck31 HK HG c a AJ, ck32 HK HG c a AJ, ck33 HK HG c a AJ, ck34 HK HG c a AJ, ck35 HK HG c a AJ, ck36 HK HG c a AJ, ck37 HK HG c a AJ, ck38 HK HG c a AJ, ck39 HK HG c a AJ, ck40 HK HG c a AJ, ck41 HK HG c a AJ, ck42 HK HG c a AJ, ck43 HK HG c a AJ, ck44 HK HG c a AJ, ck45 HK HG c a AJ, ck46 HK HG c a AJ, ck47 HK HG c a AJ, ck48 HK HG c a AJ, ck49 HK HG c a AJ⟩
theorem mg_ok (HK : K.In base) (HG : base.Ns mainGlobals mg) (c : SaysP fa fds ts ex w K) (a : At P w K mg base l X) : Mg X (Lk K) := by
  obtain ⟨h1, h2, h3, h4, h5, h6, h7, h8⟩ := a
  subst h3 h4
  obtain ⟨e0, e1, e2, e3, e4, e5, e6, e7, e8, e9, e10, e11, e12, e13, e14, e15, e16, e17, e18, e19, e20, e21, e22, e23, e24, e25, e26, e27, e28, e29, e30, e31, e32, e33, e34, e35, e36, e37, e38, e39, e40, e41, e42, e43, e44, e45, e46⟩ := ex_parts c.more
  exact ⟨trivial, xt_okR e44 (fun i hi => match i, hi with
    | 0, _ => exc_ok e0
    | 1, _ => exc_ok e10
    | 2, _ => exc_ok e11
    | 3, _ => exc_ok e12
    | 4, _ => exc_ok e13
    | 5, _ => exc_ok e14
    | 6, _ => exc_ok e15
    | 7, _ => exc_ok e16
    | 8, _ => exc_ok e17
    | 9, _ => exc_ok e18
    | 10, _ => exc_ok e19
    | 11, _ => exc_ok e20
    | 12, _ => exc_ok e21
    | 13, _ => exc_ok e22
    | 14, _ => exc_ok e23
    | 15, _ => exc_ok e24
    | 16, _ => exc_ok e25
    | 17, _ => exc_ok e26
    | 18, _ => exc_ok e27
    | 19, _ => exc_ok e28
    | 20, _ => exc_ok e29
    | 21, _ => exc_ok e30
    | 22, _ => exc_ok e31
    | 23, _ => exc_ok e32
    | 24, _ => exc_ok e33
    | 25, _ => exc_ok e34
    | 26, _ => exc_ok e35
    | 27, _ => exc_ok e36
    | 28, _ => exc_ok e37
    | 29, _ => exc_ok e38
    | 30, _ => exc_ok e39
    | 31, _ => exc_ok e40
    | 32, _ => exc_ok e41
    | 33, _ => exc_ok e42
    | 34, _ => exc_ok e1
    | 35, _ => exc_ok e2
    | 36, _ => exc_ok e3
    | 37, _ => exc_ok e4
    | 38, _ => exc_ok e5
    | 39, _ => exc_ok e6
    | 40, _ => exc_ok e7
    | 41, _ => exc_ok e8
    | 42, _ => exc_ok e9
    | 43, _ => exc_ok0 e43
    | n + 44, hi => absurd hi (Nat.not_lt.mpr (Nat.le_add_left _ _))), He.free_ok HK HG (c.fact 51 (f := .free (PySem.Str.ofString "KeyError")) rfl), He.free_ok HK HG (c.fact 52 (f := .free (PySem.Str.ofString "OverflowError")) rfl), He.free_ok HK HG (c.fact 53 (f := .free (PySem.Str.ofString "RuntimeError")) rfl), He.free_ok HK HG (c.fact 54 (f := .free (PySem.Str.ofString "ValueError")) rfl), He.free_ok HK HG (c.fact 55 (f := .free (PySem.Str.ofString "int")) rfl), He.free_ok HK HG (c.fact 56 (f := .free (PySem.Str.ofString "isinstance")) rfl), He.free_ok HK HG (c.fact 57 (f := .free (PySem.Str.ofString "len")) rfl), He.free_ok HK HG (c.fact 58 (f := .free (PySem.Str.ofString "max")) rfl), He.free_ok HK HG (c.fact 59 (f := .free (PySem.Str.ofString "min")) rfl), He.free_ok HK HG (c.fact 60 (f := .free (PySem.Str.ofString "range")) rfl), (He.glo_ok HK HG (c.fact 41 (f := .glo (PySem.Str.ofString "Absent")) rfl)), (He.glo_ok HK HG (c.fact 12 (f := .glo (PySem.Str.ofString "BadArity")) rfl)), (He.glo_ok HK HG (c.fact 17 (f := .glo (PySem.Str.ofString "BadBlocks")) rfl)), (He.glo_ok HK HG (c.fact 36 (f := .glo (PySem.Str.ofString "BadBook")) rfl)), (He.glo_ok HK HG (c.fact 37 (f := .glo (PySem.Str.ofString "BadBooks")) rfl)), (He.glo_ok HK HG (c.fact 39 (f := .glo (PySem.Str.ofString "BadChange")) rfl)), (He.glo_ok HK HG (c.fact 40 (f := .glo (PySem.Str.ofString "BadChosen")) rfl)), (He.glo_ok HK HG (c.fact 24 (f := .glo (PySem.Str.ofString "BadDraft")) rfl)), (He.glo_ok HK HG (c.fact 8 (f := .glo (PySem.Str.ofString "BadDress")) rfl)), (He.glo_ok HK HG (c.fact 30 (f := .glo (PySem.Str.ofString "BadFlow")) rfl)), (He.glo_ok HK HG (c.fact 29 (f := .glo (PySem.Str.ofString "BadFrequencies")) rfl)), (He.glo_ok HK HG (c.fact 32 (f := .glo (PySem.Str.ofString "BadFunction")) rfl)), (He.glo_ok HK HG (c.fact 31 (f := .glo (PySem.Str.ofString "BadFunctions")) rfl)), (He.glo_ok HK HG (c.fact 33 (f := .glo (PySem.Str.ofString "BadGroup")) rfl)), (He.glo_ok HK HG (c.fact 25 (f := .glo (PySem.Str.ofString "BadKind")) rfl)), (He.glo_ok HK HG (c.fact 9 (f := .glo (PySem.Str.ofString "BadMark")) rfl)), (He.glo_ok HK HG (c.fact 10 (f := .glo (PySem.Str.ofString "BadNumber")) rfl)), (He.glo_ok HK HG (c.fact 15 (f := .glo (PySem.Str.ofString "BadOperands")) rfl)), (He.glo_ok HK HG (c.fact 14 (f := .glo (PySem.Str.ofString "BadOperation")) rfl)), (He.glo_ok HK HG (c.fact 20 (f := .glo (PySem.Str.ofString "BadProgram")) rfl)), (He.glo_ok HK HG (c.fact 35 (f := .glo (PySem.Str.ofString "BadPromise")) rfl)), (He.glo_ok HK HG (c.fact 34 (f := .glo (PySem.Str.ofString "BadPromises")) rfl)), (He.glo_ok HK HG (c.fact 28 (f := .glo (PySem.Str.ofString "BadPuts")) rfl)), (He.glo_ok HK HG (c.fact 21 (f := .glo (PySem.Str.ofString "BadRoad")) rfl)), (He.glo_ok HK HG (c.fact 19 (f := .glo (PySem.Str.ofString "BadRow")) rfl)), (He.glo_ok HK HG (c.fact 22 (f := .glo (PySem.Str.ofString "BadRun")) rfl)), (He.glo_ok HK HG (c.fact 18 (f := .glo (PySem.Str.ofString "BadStarts")) rfl)), (He.glo_ok HK HG (c.fact 16 (f := .glo (PySem.Str.ofString "BadTable")) rfl)), (He.glo_ok HK HG (c.fact 23 (f := .glo (PySem.Str.ofString "BadText")) rfl)), (He.glo_ok HK HG (c.fact 38 (f := .glo (PySem.Str.ofString "BadTurns")) rfl)), (He.glo_ok HK HG (c.fact 13 (f := .glo (PySem.Str.ofString "BadWants")) rfl)), (He.glo_ok HK HG (c.fact 43 (f := .glo (PySem.Str.ofString "NoBlock")) rfl)), (He.glo_ok HK HG (c.fact 27 (f := .glo (PySem.Str.ofString "NoEnd")) rfl)), (He.glo_ok HK HG (c.fact 46 (f := .glo (PySem.Str.ofString "NoEntry")) rfl)), (He.glo_ok HK HG (c.fact 47 (f := .glo (PySem.Str.ofString "NoFunction")) rfl)), (He.glo_ok HK HG (c.fact 42 (f := .glo (PySem.Str.ofString "NoOperation")) rfl)), (He.glo_ok HK HG (c.fact 44 (f := .glo (PySem.Str.ofString "NoPlace")) rfl)), (He.glo_ok HK HG (c.fact 45 (f := .glo (PySem.Str.ofString "NoVariable")) rfl)), (He.glo_ok HK HG (c.fact 26 (f := .glo (PySem.Str.ofString "NotSimple")) rfl)), (He.glo_ok HK HG (c.fact 7 (f := .glo (PySem.Str.ofString "SignsError")) rfl)), (He.glo_ok HK HG (c.fact 48 (f := .glo (PySem.Str.ofString "TooLarge")) rfl)), (He.glo_ok HK HG (c.fact 49 (f := .glo (PySem.Str.ofString "TooMany")) rfl)), (He.glo_ok HK HG (c.fact 11 (f := .glo (PySem.Str.ofString "Unlike")) rfl))⟩
theorem env_ok (HK : K.In base) (HG : base.Ns mainGlobals mg) (c : SaysP fa fds ts ex w K) (a : At P w K mg base l X) (AJ : AllJ P w K mg base (Lk K) G T l) : EnvOk X (Lk K) G (callN G (tabJ T) l) := by
  obtain ⟨e0, e1, e2, e3, e4, e5, e6, e7, e8, e9, e10, e11, e12, e13, e14, e15, e16, e17, e18, e19, e20, e21, e22, e23, e24, e25, e26, e27, e28, e29, e30, e31, e32, e33, e34, e35, e36, e37, e38, e39, e40, e41, e42, e43, e44, e45, e46⟩ := ex_parts c.more
  exact a.env AJ (List.forall_mem_nil _) (List.forall_mem_nil _) (List.forall_mem_nil _) (List.forall_mem_nil _) (fun i t h => match i, h with
    | n + 0, h => by cases h) (List.forall_mem_nil _)
theorem scopes : ∀ (f : Nat) (i : FJ), T[f]? = some i → i.lam = false → FnScope i.N i.ps i.f.d.scope := fun f i h hl => match f, h with
  | 0, h => by cases h; exact ⟨rfl, rfl, rfl, by decide +kernel, by decide +kernel, by decide +kernel, by decide +kernel⟩
  | 1, h => by cases h; exact ⟨rfl, rfl, rfl, by decide +kernel, by decide +kernel, by decide +kernel, by decide +kernel⟩
  | 2, h => by cases h; exact ⟨rfl, rfl, rfl, by decide +kernel, by decide +kernel, by decide +kernel, by decide +kernel⟩
  | 3, h => by cases h; exact ⟨rfl, rfl, rfl, by decide +kernel, by decide +kernel, by decide +kernel, by decide +kernel⟩
  | 4, h => by cases h; exact ⟨rfl, rfl, rfl, by decide +kernel, by decide +kernel, by decide +kernel, by decide +kernel⟩
  | 5, h => by cases h; exact ⟨rfl, rfl, rfl, by decide +kernel, by decide +kernel, by decide +kernel, by decide +kernel⟩
  | 6, h => by cases h; exact ⟨rfl, rfl, rfl, by decide +kernel, by decide +kernel, by decide +kernel, by decide +kernel⟩
  | m + 7, h => by cases h
theorem sp_tab : ∀ (h : Nat) (fn : Fn), sp h = some fn → tabJ T h = some fn := fun h fn e => by
  have z : ∀ q ∈ spl, tabJ T q.1 = some q.2 := (List.forall_mem_nil _)
  unfold sp at e
  have m : (h, fn) ∈ spl := mem_look e
  exact z (h, fn) m
theorem low_ok (HK : K.In base) (HG : base.Ns mainGlobals mg) (c : SaysP fa fds ts ex w K) (a : At P w K mg base l X) (AJ : ∀ l2, l = l2 + 1 → AllJ P w K mg base (Lk K) G T l2) : Low X (Lk K) G (callN G (tabJ T) l) sp (OKD (Lk K)) := by
  cases l with
  | zero => exact ⟨.inl fun _ _ _ => rfl⟩
  | succ l2 =>
    have A2 := AJ l2 rfl
    refine ⟨.inr ⟨callN G (tabJ T) l2, 4 * l2 + 5, fun h fn e as S => callN_spec (sp_tab h fn e) as S, a.r.mono (by omega), fun Y hY => ?_⟩⟩
    have a2 : At P w K mg base l2 Y := ⟨hY.p.trans a.p, hY.w.trans a.w, hY.k.trans a.k, hY.m.trans a.m, hY.b.trans a.b, hY.c, hY.n, hY.r.mono (by omega)⟩
    exact ⟨env_ok HK HG c a2 A2, calls_ok HK HG c a2 A2, mg_ok HK HG c a2⟩
theorem mk_all (c : SaysP fa fds ts ex w K) : (mkA K).all (mkrB K) = true ∧ tbU (Lk K).tbs = true := by
  obtain ⟨e0, e1, e2, e3, e4, e5, e6, e7, e8, e9, e10, e11, e12, e13, e14, e15, e16, e17, e18, e19, e20, e21, e22, e23, e24, e25, e26, e27, e28, e29, e30, e31, e32, e33, e34, e35, e36, e37, e38, e39, e40, e41, e42, e43, e44, e45, e46⟩ := ex_parts c.more
  exact ⟨e45, e46⟩
theorem levels (HK : K.In base) (HG : base.Ns mainGlobals mg) (c : SaysP fa fds ts ex w K) (hT : ∀ q ∈ csOf K (mkA K), LamX.TabB base mg q.1 q.2) : ∀ l, AllJ P w K mg base (Lk K) G T l := by
  obtain ⟨hk1, hk2⟩ := mk_all c
  refine fun l => (all_j rfl scopes (fun f i fd hi hla hF l AJ AJ2 cdv A outer s H E hcd hr => ?_) l).1
  have sc := scopes f i hi hla
  have a : At P w K mg base l (cxOf (L2.CX P w) P w K mg base i.N i.f.d.qual i.f.d.scope (i.f.ad K) cdv A outer s H E) := ⟨rfl, rfl, rfl, rfl, rfl, rfl, sc.nd, hr⟩
  have EE := env_ok HK HG c a AJ
  have CC := calls_ok HK HG c a AJ
  have MM := mg_ok HK HG c a
  have LO := low_ok HK HG c a AJ2
  match f, hi with
  | 0, hi => cases hi; exact b0 _ rfl EE CC MM
  | 1, hi => cases hi; exact b1 _ rfl EE CC MM
  | 2, hi => cases hi; exact b2 _ rfl EE CC MM
  | 3, hi => cases hi; exact b3 _ rfl EE CC MM
  | 4, hi => cases hi; exact b4 _ rfl EE CC MM
  | 5, hi => cases hi; exact b5 _ rfl EE CC MM
  | 6, hi => cases hi; exact b6 _ rfl EE CC MM
  | m + 7, hi => cases hi
end
end Cd
namespace Cd
open PySem PySem.Spec PyProof.Rows L2 QD
def okT (r : Res D) : Bool := match r with
  | .ok (.bl true) _ => true
  | _ => false
theorem okT_ok {r : Res D} (h : okT r = true) : ∃ S', r = .ok (.bl true) S' := by
  unfold okT at h
  split at h
  · exact ⟨_, rfl⟩
  · cases h
def endF (S : Store) (r : Fl) (S1 : Store) : Res D := match r with
  | .rt d => leave S d S1
  | .nx _ => leave S .non S1
  | .xc c d _ => .ex c d (leaveX S S1)
  | _ => .stuck
theorem ev_call {F : Nat → Option Fn} {lv f : Nat} {as : List D} {S : Store} {fn : Fn} (h : F f = some fn) (ha : as.length = fn.ar) : callN G F (lv + 1) f as S = (exSs (callN G F lv) G fn.body (QD.start fn.k as) S.fr).nox.bind (endF S) := by
  show (match F f with
    | none => Res.stuck
    | some fn => if as.length = fn.ar then (exSs (callN G F lv) G fn.body (QD.start fn.k as) ⟨S.n, S.l, S.n⟩).nox.bind (fun r S1 => match r with
      | .rt d => leave S d S1
      | .nx _ => leave S .non S1
      | .xc c d _ => .ex c d (leaveX S S1)
      | _ => .stuck) else .stuck) = _
  rw [h]
  dsimp only
  rw [if_pos ha]
  rfl
abbrev cN (l : Nat) := callN G (tabJ T) l
theorem toNat_c (m : Nat) : ((m : Int)).toNat = m := rfl
end Cd

namespace Cd
open PySem PySem.Spec PyProof.Rows L2 QD
theorem pyL_izs {S : Store} : ∀ (ns : List Int) (k : Nat), ns.length ≤ k → pyL S k (ns.map .int) = some (ns.map PyData.int)
  | [], k, _ => by cases k <;> rfl
  | n :: r, 0, h => by simp at h
  | n :: r, k + 1, h => by
    have e := pyL_izs (S := S) r k (by simpa using h)
    show (match py S k (.int n), pyL S k (r.map .int) with | some a, some b => some (a :: b) | _, _ => none) = _
    have e2 : py S k (.int n) = some (.int n) := by cases k <;> rfl
    rw [e, e2]
    rfl
theorem can_izs : ∀ ns : List Int, PyData.canLayAll0 (ns.map PyData.int) = true
  | [] => rfl
  | n :: r => can_izs r
theorem dep_izs : ∀ ns : List Int, PyData.depthAll (ns.map PyData.int) = 0
  | [] => rfl
  | n :: r => by
    show max 0 (PyData.depthAll (r.map PyData.int)) = 0
    rw [dep_izs r]
    rfl
theorem shaped_izs (ns : List Int) : SeqAt.shaped (.list (ns.map PyData.int)) = true := by
  show (PyData.canLayAll0 (ns.map PyData.int) && decide (PyData.depthAll (ns.map PyData.int) + 1 ≤ 64)) = true
  rw [can_izs, dep_izs]
  rfl
theorem eqv_izs : ∀ ns : List Int, PyData.eqvAll (ns.map PyData.int) (ns.map PyData.int) = true
  | [] => rfl
  | n :: r => by
    show (((n : Int) == n) && PyData.eqvAll (r.map PyData.int) (r.map PyData.int)) = true
    rw [eqv_izs r, beq_self_eq_true]
    rfl
/-- two lists of the same ints are equal -/
theorem eqD_izs {S : Store} {i j : Nat} {w1 w2 : Bool} {ns : List Int} (hi : S.get i = some (.lst w1 (ns.map .int))) (hj : S.get j = some (.lst w2 (ns.map .int))) (hl : ns.length ≤ 63) : eqD S (.ref i) (.ref j) = some true := by
  have e : ∀ k w, S.get k = some (.lst w (ns.map .int)) → py S 64 (.ref k) = some (.list (ns.map PyData.int)) := fun k w h => by
    show (match S.get k with
      | some (.lst _ l) => (pyL S 63 l).map PyData.list
      | _ => none) = _
    rw [h]
    dsimp only
    rw [pyL_izs ns 63 hl]
    rfl
  unfold eqD
  rw [e i w1 hi, e j w2 hj]
  simp only [flat, shaped_izs, Bool.and_self, if_true, Bool.false_eq_true, if_false]
  show some (PyData.eqvAll _ _) = _
  rw [eqv_izs]
theorem ne_izs {cf : Nat → List D → Store → Res D} {S : Store} {i j : Nat} {w1 w2 : Bool} {ns ms : List Int} (hi : S.get i = some (.lst w1 (ns.map .int))) (hj : S.get j = some (.lst w2 (ms.map .int))) (hl : ns.length ≤ 63) (e : ns = ms) : evCmO G cf .ne (.ref i) (.ref j) S = .ok false S := by
  subst e
  have i1 : ∀ k w, S.get k = some (.lst w (ns.map .int)) → insOf S (.ref k) = none := fun k w h => by
    show (match S.get k with
      | some (.ins c _) => some c
      | _ => none) = none
    rw [h]
  unfold evCmO
  rw [i1 i w1 hi, i1 j w2 hj]
  show Res.of ((eqD S (.ref i) (.ref j)).map (!·)) S = _
  rw [eqD_izs hi hj hl]
  rfl
theorem ev_take (l : Nat) (S : Store) (hS : S.w ≤ S.n) (p : Nat) (a b many : Int) (h : S.get p = some (.lst true [.int a, .int b])) (hm : 0 < many) (hm2 : many.natAbs.log2 < 9000) :
    ∃ a' b' r, cN (l + 1) 1 [.ref p, .int many] S = .ok (.int r) (S.set p (.lst true [.int a', .int b'])) ∧ 0 ≤ r ∧ r < many := by
  have hp := Store.lt h
  have g1 : ∀ c, (S.fr.set p c).get p = some c := fun c => Store.get_set (S := S.fr) h
  have g2 : ∀ c r, leave S (.int r) (S.fr.set p c) = .ok (.int r) (S.set p c) := fun c r => by
    rw [leave2, Store.out_set (X := S.fr) _ (show p < S.fr.n from hp), Store.out_fr hS]
    rw [Store.set_w' S.fr _ _ (show p < S.fr.n from hp), if_pos (show p < S.fr.w from hp)]
    omega
  rw [cN, ev_call (fn := ⟨2, 3, c1⟩) rfl rfl]
  by_cases h0 : 0 < a
  · simp [c1, exSs, exS, evC, evCs, srcs, Res.bind, Res.bx, Res.nox, Res.of, truth, QD.start, evBin, evBinR, insOf, evOp, endF, leave_int, leave_bl, leave_non, leave_str, evCmO, evCm, evBlO, evBl, evSub, atI, ixN, Store.fr_get, h, h0, hm, hm2, g1, g2]
    exact ⟨_, _, _, ⟨rfl, rfl⟩, Int.emod_nonneg _ (by omega), Int.emod_lt_of_pos _ hm⟩
  · have hb : -18446744073709551616 < (b * 48271 + 11) % 2147483647 ∧ (b * 48271 + 11) % 2147483647 < 18446744073709551616 := by omega
    have k1 : Nat.log2 64 < 9000 := by decide
    simp [c1, exSs, exS, evC, evCs, srcs, Res.bind, Res.bx, Res.nox, Res.of, truth, QD.start, evBin, evBinR, insOf, evOp, endF, leave_int, leave_bl, leave_non, leave_str, evCmO, evCm, evBlO, evBl, evSub, atI, ixN, Store.fr_get, h, h0, hm, hm2, g1, g2, hb, k1]
    exact ⟨_, _, _, ⟨rfl, rfl⟩, Int.emod_nonneg _ (by omega), Int.emod_lt_of_pos _ hm⟩
theorem ev_pool (l : Nat) (S : Store) (hS : S.w ≤ S.n) (s : Nat) (w : Bool) (ns : List Int) (k : Int) (hk : 0 ≤ k ∧ k < 100) (h : S.get s = some (.lst w (ns.map .int))) :
    ∃ a b, cN (l + 1) 5 [.ref s, .int k] S = .ok (.ref S.n) (S.push (.lst true [.int a, .int b])) := by
  have g6 : ∀ c : Cell, leave S (.ref S.n) (S.fr.push c) = .ok (.ref S.n) (S.push c) := fun c => by rw [leave1 rfl, Store.out_push, Store.out_fr hS]
  have h2 : (2 : Nat) ≤ sizeLine := by decide
  have q1 : -18446744073709551616 < 7919 * k ∧ 7919 * k < 18446744073709551616 := by omega
  rw [cN, ev_call (fn := ⟨2, 4, c5⟩) rfl rfl]
  by_cases hl : k < ns.length
  · have e1 : atI (ns.map D.int) k = some (.int (ns[k.toNat]'(by omega))) := by
      unfold atI ixN
      rw [if_pos hk.1, if_pos (by rw [List.length_map]; exact hl)]
      simp only [Option.bind_some, List.getElem?_map]
      rw [List.getElem?_eq_getElem (by omega)]
      rfl
    by_cases hc : 1000000000000000000 ≤ ns[k.toNat]'(by omega)
    · simp [c5, exSs, exS, evC, evCs, srcs, Res.bind, Res.bx, Res.nox, Res.of, truth, QD.start, evBin, evBinR, insOf, evOp, endF, leave_int, leave_bl, leave_non, leave_str, evCmO, evCm, evBlO, evBl, evSub, Store.fr_get, Store.fr_n, h, e1, hl, hc, h2, g6, q1, hk]
      exact ⟨_, _, rfl⟩
    · simp [c5, exSs, exS, evC, evCs, srcs, Res.bind, Res.bx, Res.nox, Res.of, truth, QD.start, evBin, evBinR, insOf, evOp, endF, leave_int, leave_bl, leave_non, leave_str, evCmO, evCm, evBlO, evBl, evSub, Store.fr_get, Store.fr_n, h, e1, hl, hc, h2, g6, q1, hk]
      exact ⟨_, _, rfl⟩
  · simp [c5, exSs, exS, evC, evCs, srcs, Res.bind, Res.bx, Res.nox, Res.of, truth, QD.start, evBin, evBinR, insOf, evOp, endF, leave_int, leave_bl, leave_non, leave_str, evCmO, evCm, evBlO, evBl, evSub, Store.fr_get, Store.fr_n, h, hl, h2, g6, q1, hk]
    exact ⟨_, _, rfl⟩
end Cd

namespace Cd
open PySem PySem.Spec PyProof.Rows L2 QD
structure Ext (S S' : Store) : Prop where
  n : S.n ≤ S'.n
  g : ∀ i c, S.get i = some c → S'.get i = some c
  w : S'.w ≤ S'.n
theorem Ext.refl {S : Store} (h : S.w ≤ S.n) : Ext S S := ⟨Nat.le_refl _, fun _ _ h => h, h⟩
theorem Ext.push {S : Store} (h : S.w ≤ S.n) (c : Cell) : Ext S (S.push c) := ⟨Nat.le_succ _, fun i d e => Store.get_push_some e, Nat.le_succ_of_le h⟩
theorem Ext.trans {A B C : Store} (a : Ext A B) (b : Ext B C) : Ext A C := ⟨Nat.le_trans a.n b.n, fun i c e => b.g i c (a.g i c e), b.w⟩
theorem Ext.push' {A B : Store} (a : Ext A B) (c : Cell) : Ext A (B.push c) := a.trans (Ext.push a.w c)
/-- a comprehension over a list whose turns change nothing -/
theorem walk_pure {S : Store} {t : Nat} {w : Bool} {items : List D} {turn : D → Store → Res Unit} {f : D → D} (ht : S.get t = some (.lst w items)) (hw : S.w ≤ S.n) (hl : items.length ≤ sizeLine)
    (h : ∀ x ∈ items, ∀ k acc, turn x (S.push (.bld k acc)) = compPut S.n (f x) (S.push (.bld k acc))) :
    ∀ (k j : Nat) (acc : List D), j + k = items.length → acc = ((items.take j).map f).reverse → walkLive turn t k j (S.push (.bld j acc)) = .ok () (S.push (.bld items.length (items.map f).reverse))
  | 0, j, acc, e, ea => by
    have e2 : j = items.length := by omega
    subst e2
    show (match (S.push (.bld items.length acc)).get t with
      | some (.lst _ l) => if l.length ≤ items.length then Res.ok () _ else .stuck
      | _ => .stuck) = _
    rw [Store.get_push_some ht]
    simp [ea]
  | k + 1, j, acc, e, ea => by
    have hj : j < items.length := by omega
    show (match (S.push (.bld j acc)).get t with
      | some (.lst _ l) => (match l[j]? with
        | none => Res.ok () _
        | some x => (turn x (S.push (.bld j acc))).bind fun _ S1 => walkLive turn t k (j + 1) S1)
      | _ => .stuck) = _
    rw [Store.get_push_some ht]
    dsimp only
    rw [List.getElem?_eq_getElem hj]
    dsimp only
    rw [h _ (List.getElem_mem hj)]
    have e3 : compPut S.n (f items[j]) (S.push (.bld j acc)) = .ok () (S.push (.bld (j + 1) (f items[j] :: acc))) := by
      unfold compPut
      rw [Store.get_push]
      dsimp only
      have e4 : Nat.blt j sizeLine = true := by
        have : j + 1 ≤ sizeLine := by omega
        exact Nat.ble_eq_true_of_le this
      rw [e4, if_pos rfl, Store.push_set rfl hw]
    rw [e3]
    show walkLive turn t k (j + 1) _ = _
    refine walk_pure ht hw hl h k (j + 1) _ (by omega) ?_
    rw [ea, List.take_add_one, List.getElem?_eq_getElem hj, List.map_append, List.reverse_append]
    rfl
theorem comp_pure {cf : Nat → List D → Store → Res D} {S0 S : Store} {t : Nat} {w : Bool} {items : List D} {f : D → D} {it : C} {tg : Nat} {own : List Nat} {elt : C} {σ : Sl} (ht : S.get t = some (.lst w items)) (hw : S.w ≤ S.n) (hl : items.length ≤ sizeLine)
    (hi : evC cf G it σ S0 = .ok (.ref t) S) (he : ∀ x ∈ items, ∀ k acc, evC cf G elt ((wipeD σ own).set tg (some x)) (S.push (.bld k acc)) = .ok (f x) (S.push (.bld k acc))) :
    evC cf G (.comp (.seq it) [tg] true own .nil elt) σ S0 = .ok (.ref S.n) (S.push (.lst true (items.map f))) := by
  have e1 : evIt cf G (.seq it) σ S0 = .ok (.live t items.length) S := by
    show (evC cf G it σ S0).bind (fun d S1 => Res.of (sqOf S1 d) S1) = _
    rw [hi]
    show Res.of (match S.get t with
      | some (.lst _ l) => some (Sq.live t l.length)
      | some (.dct l) => some (.fix (l.map fun q => keyD q.1))
      | _ => none) S = _
    rw [ht]
    rfl
  show (evIt cf G (.seq it) σ S0).bind _ = _
  rw [e1]
  show ((walkLive _ t items.length 0 (S.push (.bld 0 []))).nox.bind _) = _
  rw [walk_pure (f := f) ht hw hl (fun x hx k acc => ?_) items.length 0 [] (by omega) rfl]
  · show compEnd S.n (S.push _) = _
    unfold compEnd
    rw [Store.get_push]
    dsimp only
    rw [List.reverse_reverse, Store.push_set rfl hw]
  · show (evC cf G elt ((wipeD σ own).set tg (some x)) (S.push (.bld k acc))).bind _ = _
    rw [he x hx k acc]
    rfl
theorem pow_s {k : Nat} (h : 1 ≤ k) : (2 : Int) ^ k = 2 ^ (k - 1) * 2 := by
  obtain ⟨j, rfl⟩ : ∃ j, k = j + 1 := ⟨k - 1, by omega⟩
  rw [Int.pow_succ]
  rfl
theorem pow_pos2 (k : Nat) : (0 : Int) < 2 ^ k := PySem.W.kbt_pos k
theorem pow_le2 {j k : Nat} (h : j ≤ k) : (2 : Int) ^ j ≤ 2 ^ k := by
  obtain ⟨d, rfl⟩ : ∃ d, k = j + d := ⟨k - j, by omega⟩
  rw [Int.pow_add]
  have h1 := pow_pos2 j
  have h2 := pow_pos2 d
  have h3 : (2 : Int) ^ j * 1 ≤ 2 ^ j * 2 ^ d := Int.mul_le_mul_of_nonneg_left (by omega) (by omega)
  omega
theorem pw32 {k : Nat} (h : k ≤ 32) : (2 : Int) ^ k ≤ 4294967296 := by
  have := pow_le2 h
  rw [show (2 : Int) ^ 32 = 4294967296 from rfl] at this
  exact this
theorem pw64 {k : Nat} (h : k ≤ 32) : (-18446744073709551616 : Int) < 2 ^ k ∧ (2 : Int) ^ k < 18446744073709551616 := by
  have := pw32 h
  have := pow_pos2 k
  generalize (2 : Int) ^ k = p at *
  constructor
  · omega
  · omega
theorem top_ok (b : Int) {k : Nat} (h : 1 ≤ k) : b / 2 ^ (k - 1) % 2 = if 2 ^ k ≤ b % 2 ^ k * 2 then 1 else 0 := by
  have hp := pow_pos2 (k - 1)
  rw [pow_s h]
  generalize (2 : Int) ^ (k - 1) = p at hp
  have e := Int.mul_ediv_add_emod b (p * 2)
  have r0 := Int.emod_nonneg b (show p * 2 ≠ 0 by omega)
  have r1 := Int.emod_lt_of_pos b (show 0 < p * 2 by omega)
  generalize b % (p * 2) = r at *
  generalize b / (p * 2) = q at *
  have e2 : b = r + p * (2 * q) := by rw [← e, Int.mul_assoc]; omega
  have e3 : b / p = r / p + 2 * q := by rw [e2, Int.add_mul_ediv_left _ _ (by omega)]
  rw [e3]
  by_cases c : r < p
  · have e4 : r / p = 0 := Int.ediv_eq_zero_of_lt r0 c
    rw [e4, if_neg (by omega)]
    omega
  · have e4 : r / p = 1 := by
      have : r = (r - p) + p * 1 := by omega
      rw [this, Int.add_mul_ediv_left _ _ (by omega), Int.ediv_eq_zero_of_lt (by omega) (by omega)]
      omega
    rw [e4, if_pos (by omega)]
    omega
theorem sign_ok (b : Int) {k : Nat} (h : 1 ≤ k) (h0 : 0 ≤ b) : (if b / 2 ^ (k - 1) = 0 then b else b - 2 ^ k) = b - 2 ^ k * (if 2 ^ k ≤ b * 2 then 1 else 0) := by
  have hp := pow_pos2 (k - 1)
  rw [pow_s h]
  generalize (2 : Int) ^ (k - 1) = p at hp
  by_cases c : b < p
  · rw [if_pos (Int.ediv_eq_zero_of_lt h0 c), if_neg (by omega)]
    omega
  · have h1 : 1 ≤ b / p := (Int.le_ediv_iff_mul_le hp).mpr (by omega)
    rw [if_neg (by omega), if_pos (by omega)]
    omega
theorem inv_ok {b M : Int} (h0 : 0 ≤ b) (h1 : b < M) : (-b - 1) % M = M - 1 - b := by
  have e : -b - 1 = (M - 1 - b) + M * (-1) := by omega
  rw [e, Int.add_mul_emod_self_left, Int.emod_eq_of_lt (by omega) (by omega)]
theorem div_ok {b M : Int} (h0 : 0 ≤ b) (h1 : b < M) (k : Nat) : b / 2 ^ k % M = b / 2 ^ k := by
  have hp := pow_pos2 k
  have h2 : 0 ≤ b / 2 ^ k := Int.ediv_nonneg h0 (by omega)
  have h3 : b / 2 ^ k ≤ b := Int.ediv_le_self _ h0
  exact Int.emod_eq_of_lt h2 (by omega)
section
variable {cf : Nat → List D → Store → Res D} {S : Store} (x y : Int)
theorem cm_eq : evCmO G cf .eq (.int x) (.int y) S = .ok (decide (x = y)) S := by
  have e : (x == y) = decide (x = y) := by by_cases q : x = y <;> simp [q]
  show Res.of (some (x == y)) S = _
  rw [e]
  rfl
theorem cm_ne : evCmO G cf .ne (.int x) (.int y) S = .ok (!decide (x = y)) S := by
  have e : (x == y) = decide (x = y) := by by_cases q : x = y <;> simp [q]
  show Res.of (some (!(x == y))) S = _
  rw [e]
  rfl
theorem cm_lt : evCmO G cf .lt (.int x) (.int y) S = .ok (decide (x < y)) S := by
  unfold evCmO
  rfl
theorem cm_le : evCmO G cf .le (.int x) (.int y) S = .ok (decide (x ≤ y)) S := by
  unfold evCmO
  rfl
theorem cm_gt : evCmO G cf .gt (.int x) (.int y) S = .ok (decide (y < x)) S := by
  unfold evCmO
  rfl
theorem cm_ge : evCmO G cf .ge (.int x) (.int y) S = .ok (decide (y ≤ x)) S := by
  unfold evCmO
  rfl
theorem cm_eqS (x y : PySem.Str) : evCmO G cf .eq (.str x) (.str y) S = .ok (decide (x = y)) S := by
  have e : (x == y) = decide (x = y) := by by_cases q : x = y <;> simp [q]
  show Res.of (some (x == y)) S = _
  rw [e]
  rfl
theorem cm_neS (x y : PySem.Str) : evCmO G cf .ne (.str x) (.str y) S = .ok (!decide (x = y)) S := by
  have e : (x == y) = decide (x = y) := by by_cases q : x = y <;> simp [q]
  show Res.of (some (!(x == y))) S = _
  rw [e]
  rfl
theorem cm_neB (x y : Bool) : evCmO G cf .ne (.bl x) (.bl y) S = .ok (!(x == y)) S := by
  unfold evCmO
  rfl
end
section
variable {cf : Nat → List D → Store → Res D} {S : Store} (x y : Int)
theorem vi_add : evBin G cf .add (.int x) (.int y) S = .ok (.int (x + y)) S := by unfold evBin; rfl
theorem vi_sub : evBin G cf .sub (.int x) (.int y) S = .ok (.int (x - y)) S := by unfold evBin; rfl
theorem vi_mul (h : (-18446744073709551616 < x ∧ x < 18446744073709551616) ∨ (-18446744073709551616 < y ∧ y < 18446744073709551616)) : evBin G cf .mul (.int x) (.int y) S = .ok (.int (x * y)) S := by
  have e : evOp S .mul (.int x) (.int y) = .ok (.int (x * y)) S := if_pos h
  show (evOp S .mul (.int x) (.int y)).nox = _
  rw [e]
  rfl
theorem vi_mod (h : 0 < y) : evBin G cf .mod (.int x) (.int y) S = .ok (.int (x % y)) S := by
  have e : evOp S .mod (.int x) (.int y) = .ok (.int (x % y)) S := if_pos h
  show (evOp S .mod (.int x) (.int y)).nox = _
  rw [e]
  rfl
theorem vi_fdiv (h : 0 < y) (h2 : y.natAbs.log2 < 9000) : evBin G cf .fdiv (.int x) (.int y) S = .ok (.int (x / y)) S := by
  have e : evOp S .fdiv (.int x) (.int y) = .ok (.int (x / y)) S := if_pos ⟨h, h2⟩
  show (evOp S .fdiv (.int x) (.int y)).nox = _
  rw [e]
  rfl
theorem vi_shl (h : 0 ≤ y) (h2 : y ≤ 1000000) (h3 : x.natAbs < 18446744073709551616) : evBin G cf .shl (.int x) (.int y) S = .ok (.int (x * 2 ^ y.toNat)) S := by
  have e : evOp S .shl (.int x) (.int y) = .ok (.int (x * 2 ^ y.toNat)) S := if_pos ⟨h, h2, h3⟩
  show (evOp S .shl (.int x) (.int y)).nox = _
  rw [e]
  rfl
theorem vi_shr (h : 0 ≤ y) : evBin G cf .shr (.int x) (.int y) S = .ok (.int (x / 2 ^ y.toNat)) S := by
  have e : evOp S .shr (.int x) (.int y) = .ok (.int (x / 2 ^ y.toNat)) S := if_pos h
  show (evOp S .shr (.int x) (.int y)).nox = _
  rw [e]
  rfl
theorem vi_pow (h : 0 ≤ y) (h2 : y ≤ 1000000) (h3 : x.natAbs < 18446744073709551616) : evBin G cf .pow (.int x) (.int y) S = .ok (.int (x ^ y.toNat)) S := by
  have e : evOp S .pow (.int x) (.int y) = .ok (.int (x ^ y.toNat)) S := if_pos ⟨h, h2, h3⟩
  show (evOp S .pow (.int x) (.int y)).nox = _
  rw [e]
  rfl
end
/-- a loop over a list that stays, by an invariant -/
theorem loop_live {body : D → Sl → Store → Res Fl} {I : Sl → Store → Prop} {t : Nat} {w : Bool} {items : List D} (hI : ∀ σ S, I σ S → S.get t = some (.lst w items)) (step : ∀ x ∈ items, ∀ σ S, I σ S → ∃ σ' S', body x σ S = .ok (.nx σ') S' ∧ I σ' S') :
    ∀ (k j : Nat) (σ : Sl) (S : Store), j + k = items.length → I σ S → ∃ σ' S', loopLive body t k j σ S = .ok (.nx σ') S' ∧ I σ' S'
  | 0, j, σ, S, e, h => ⟨σ, S, by
      show (match S.get t with
        | some (.lst _ l) => if l.length ≤ j then Res.ok (Fl.nx σ) S else .stuck
        | _ => .stuck) = _
      rw [hI σ S h]
      exact if_pos (by omega), h⟩
  | k + 1, j, σ, S, e, h => by
    have hj : j < items.length := by omega
    obtain ⟨σ1, S1, e1, h1⟩ := step items[j] (List.getElem_mem hj) σ S h
    obtain ⟨σ2, S2, e2, h2⟩ := loop_live hI step k (j + 1) σ1 S1 (by omega) h1
    refine ⟨σ2, S2, ?_, h2⟩
    show (match S.get t with
      | some (.lst _ l) => (match l[j]? with
        | none => Res.ok (Fl.nx σ) S
        | some x => (body x σ S).bind fun f S1 => match f with
          | .nx σ1 => loopLive body t k (j + 1) σ1 S1
          | .ct σ1 => loopLive body t k (j + 1) σ1 S1
          | .bk σ1 => Res.ok (Fl.nx σ1) S1
          | .rt d => Res.ok (Fl.rt d) S1
          | .xc c d σ1 => Res.ok (Fl.xc c d σ1) S1)
      | _ => .stuck) = _
    rw [hI σ S h]
    dsimp only
    rw [List.getElem?_eq_getElem hj]
    dsimp only
    rw [e1]
    exact e2
theorem loop_fix {body : D → Sl → Store → Res Fl} {I : Sl → Store → Prop} : ∀ (items : List D) (step : ∀ x ∈ items, ∀ σ S, I σ S → ∃ σ' S', body x σ S = .ok (.nx σ') S' ∧ I σ' S') (σ : Sl) (S : Store), I σ S → ∃ σ' S', loopFix body items σ S = .ok (.nx σ') S' ∧ I σ' S'
  | [], step, σ, S, h => ⟨σ, S, rfl, h⟩
  | x :: r, step, σ, S, h => by
    obtain ⟨σ1, S1, e1, h1⟩ := step x (List.mem_cons_self ..) σ S h
    obtain ⟨σ2, S2, e2, h2⟩ := loop_fix r (fun y hy => step y (List.mem_cons_of_mem _ hy)) σ1 S1 h1
    refine ⟨σ2, S2, ?_, h2⟩
    show (body x σ S).bind _ = _
    rw [e1]
    exact e2
/-- all as before but the pool at p -/
structure ExtP (p : Nat) (S S' : Store) : Prop where
  n : S.n ≤ S'.n
  g : ∀ i c, i ≠ p → S.get i = some c → S'.get i = some c
  pl : ∃ a b, S'.get p = some (.lst true [.int a, .int b])
  w : S'.w ≤ S'.n
theorem ExtP.refl {p : Nat} {S : Store} {a b : Int} (h : S.get p = some (.lst true [.int a, .int b])) (hw : S.w ≤ S.n) : ExtP p S S := ⟨Nat.le_refl _, fun _ _ _ h => h, ⟨a, b, h⟩, hw⟩
theorem ExtP.trans {p : Nat} {A B C : Store} (a : ExtP p A B) (b : ExtP p B C) : ExtP p A C := ⟨Nat.le_trans a.n b.n, fun i c h e => b.g i c h (a.g i c h e), b.pl, b.w⟩
theorem ExtP.ext {p : Nat} {A B C : Store} (a : ExtP p A B) (b : Ext B C) : ExtP p A C := ⟨Nat.le_trans a.n b.n, fun i c h e => b.g i c (a.g i c h e), (let ⟨x, y, e⟩ := a.pl; ⟨x, y, b.g _ _ e⟩), b.w⟩
theorem ExtP.fr {p : Nat} {A B : Store} (a : ExtP p A.fr B) : ExtP p A B := ⟨a.n, a.g, a.pl, a.w⟩
theorem ExtP.out {p : Nat} {A B : Store} (a : ExtP p A B) : ExtP p A (A.out B) := ⟨a.n, a.g, a.pl, by
  show (if B.w < A.w then B.w else A.w) ≤ B.n
  have := a.w
  split <;> omega⟩
theorem set_w_le {S : Store} {i : Nat} {c : Cell} (h : S.w ≤ S.n) (hi : i < S.n) : (S.set i c).w ≤ (S.set i c).n := by
  rw [Store.set_w' _ _ _ hi, Store.set_n]
  split <;> omega
theorem ExtP.set {p : Nat} {S : Store} {a b a' b' : Int} (h : S.get p = some (.lst true [.int a, .int b])) (hw : S.w ≤ S.n) : ExtP p S (S.set p (.lst true [.int a', .int b'])) :=
  ⟨Nat.le_of_eq Store.set_n.symm, fun i c hi e => by rw [Store.get_set_ne (Ne.symm hi)]; exact e, ⟨a', b', Store.get_set h⟩, set_w_le hw (Store.lt h)⟩
theorem leaveP {p : Nat} {S X : Store} {d : D} {a b : Int} (h : S.get p = some (.lst true [.int a, .int b])) (hw : S.w ≤ S.n) (e : ExtP p S X) : ∃ S', leave S d X = .ok d S' ∧ ExtP p S S' := by
  rw [leaveI]
  split
  · exact ⟨S, rfl, ExtP.refl h hw⟩
  · exact ⟨_, rfl, e.out⟩
/-- the pool drawn from, whatever comes -/
theorem ev_takeP (l : Nat) (S : Store) (hS : S.w ≤ S.n) (p : Nat) (h : ∃ a b, S.get p = some (.lst true [.int a, .int b])) (many : Int) (hm : 0 < many) (hm2 : many.natAbs.log2 < 9000) :
    ∃ r S', cN (l + 1) 1 [.ref p, .int many] S = .ok (.int r) S' ∧ ExtP p S S' ∧ 0 ≤ r ∧ r < many := by
  obtain ⟨a, b, h⟩ := h
  obtain ⟨a', b', r, e, h1, h2⟩ := ev_take l S hS p a b many h hm hm2
  exact ⟨r, _, e, ExtP.set h hS, h1, h2⟩
theorem ss_step {cf : Nat → List D → Store → Res D} {s : Stm} {r : Ss} {σ σ1 : Sl} {S S1 : Store} (h : exS cf G s σ S = .ok (.nx σ1) S1) : exSs cf G (.cons s r) σ S = exSs cf G r σ1 S1 := by
  show (exS cf G s σ S).bind (fun f S1 => match f with
    | .nx σ1 => exSs cf G r σ1 S1
    | f => .ok f S1) = _
  rw [h]
  rfl
theorem ss_ret {cf : Nat → List D → Store → Res D} {c : C} {r : Ss} {σ : Sl} {S S1 : Store} {d : D} (h : evC cf G c σ S = .ok d S1) : exSs cf G (.cons (.ret c) r) σ S = .ok (.rt d) S1 := by
  show (exS cf G (.ret c) σ S).bind _ = _
  have e : exS cf G (.ret c) σ S = .ok (.rt d) S1 := by
    show (evC cf G c σ S).bx σ _ = _
    rw [h]
    rfl
  rw [e]
  rfl
theorem bx {r : Res D} {S : Store} {c : Cell} (hS : S.w ≤ S.n) (e : r = .ok (.ref S.n) (S.push c)) : ∃ k A, r = .ok (.ref k) A ∧ Ext S A ∧ A.get k = some c := ⟨_, _, e, Ext.push hS c, Store.get_push⟩
/-- a binary operator on what is at hand -/
theorem op_ev {cf : Nat → List D → Store → Res D} {o : Op} {a b : C} {σ : Sl} {S S1 S2 S3 : Store} {x y z : D} (ha : evC cf G a σ S = .ok x S1) (hb : evC cf G b σ S1 = .ok y S2) (h : evBin G cf o x y S2 = .ok z S3) : evC cf G (.op o a b) σ S = .ok z S3 := by
  show (evC cf G a σ S).bind _ = _
  rw [ha]
  show (evC cf G b σ S1).bind _ = _
  rw [hb]
  exact h
theorem cmp_ev {cf : Nat → List D → Store → Res D} {o : Cm} {a b : C} {σ : Sl} {S S1 S2 S3 : Store} {x y : D} {k : Bool} (ha : evC cf G a σ S = .ok x S1) (hb : evC cf G b σ S1 = .ok y S2) (h : evCmO G cf o x y S2 = .ok k S3) : evC cf G (.cmp o a b) σ S = .ok (.bl k) S3 := by
  show (evC cf G a σ S).bind _ = _
  rw [ha]
  show (evC cf G b σ S1).bind _ = _
  rw [hb]
  show (evCmO G cf o x y S2).bind _ = _
  rw [h]
  rfl
theorem or_ff {cf : Nat → List D → Store → Res D} {a b : C} {σ : Sl} {S S1 S2 : Store} {k : Bool} (ha : evC cf G a σ S = .ok (.bl false) S1) (hb : evC cf G b σ S1 = .ok (.bl k) S2) : evC cf G (.or a b) σ S = .ok (.bl k) S2 := by
  show (evC cf G a σ S).bind _ = _
  rw [ha]
  exact hb
theorem and_tt {cf : Nat → List D → Store → Res D} {a b : C} {σ : Sl} {S S1 S2 : Store} {k : Bool} (ha : evC cf G a σ S = .ok (.bl true) S1) (hb : evC cf G b σ S1 = .ok (.bl k) S2) : evC cf G (.and a b) σ S = .ok (.bl k) S2 := by
  show (evC cf G a σ S).bind _ = _
  rw [ha]
  exact hb
theorem not_ev {cf : Nat → List D → Store → Res D} {a : C} {σ : Sl} {S S1 : Store} {k : Bool} (ha : evC cf G a σ S = .ok (.bl k) S1) : evC cf G (.not a) σ S = .ok (.bl (!k)) S1 := by
  show (evC cf G a σ S).bind _ = _
  rw [ha]
  rfl
theorem ifs_ff {cf : Nat → List D → Store → Res D} {t : C} {a b : Ss} {σ : Sl} {S S1 : Store} (h : evC cf G t σ S = .ok (.bl false) S1) : exS cf G (.ifs t a b) σ S = exSs cf G b σ S1 := by
  show (evC cf G t σ S).bx σ _ = _
  rw [h]
  rfl
theorem asg_ev {cf : Nat → List D → Store → Res D} {c : C} {i : Nat} {σ : Sl} {S S1 : Store} {d : D} (h : evC cf G c σ S = .ok d S1) : exS cf G (.asg i c) σ S = .ok (.nx (σ.set i (some d))) S1 := by
  show (evC cf G c σ S).bx σ _ = _
  rw [h]
  rfl
theorem aug_ev {cf : Nat → List D → Store → Res D} {c : C} {i : Nat} {o : Op} {σ : Sl} {S S1 S2 : Store} {x y z : D} (h0 : σ[i]? = some (some x)) (h : evC cf G c σ S = .ok y S1) (h2 : evAug G cf o x y S1 = .ok z S2) : exS cf G (.aug i o c) σ S = .ok (.nx (σ.set i (some z))) S2 := by
  show (match σ[i]? with
    | some (some x) => (evC cf G c σ S).bx σ fun y S1 => (evAug G cf o x y S1).bx σ fun z S2 => .ok (.nx (σ.set i (some z))) S2
    | _ => .stuck) = _
  rw [h0]
  dsimp only
  rw [h]
  show (evAug G cf o x y S1).bx σ _ = _
  rw [h2]
  rfl
theorem var_ev {cf : Nat → List D → Store → Res D} {i : Nat} {σ : Sl} {S : Store} {d : D} (h : σ[i]? = some (some d)) : evC cf G (.var i) σ S = .ok d S := by
  show (match σ[i]? with | some (some d) => Res.ok d S | _ => .stuck) = _
  rw [h]
theorem lit_ev {cf : Nat → List D → Store → Res D} {σ : Sl} {S : Store} {d : D} : evC cf G (.lit d) σ S = .ok d S := rfl
theorem un_ev {cf : Nat → List D → Store → Res D} {o : Un} {a : C} {σ : Sl} {S S1 S3 : Store} {x z : D} (ha : evC cf G a σ S = .ok x S1) (h : evUnO G cf o x S1 = .ok z S3) : evC cf G (.un o a) σ S = .ok z S3 := by
  show (evC cf G a σ S).bind _ = _
  rw [ha]
  exact h
/-- a call with plain arguments -/
theorem call_ev {cf : Nat → List D → Store → Res D} {f : Nat} {sh : List Src} {l : Cs} {σ : Sl} {S S1 S2 : Store} {ds as : List D} {d : D} (h : evCs cf G l σ S = .ok ds S1) (hs : srcs ds sh = some as) (hc : cf f as S1 = .ok d S2) : evC cf G (.call f sh l) σ S = .ok d S2 := by
  show (evCs cf G l σ S).bind _ = _
  rw [h]
  show (Res.of (srcs ds sh) S1).bind _ = _
  rw [hs]
  exact hc
theorem cs_nil {cf : Nat → List D → Store → Res D} {σ : Sl} {S : Store} : evCs cf G .nil σ S = .ok [] S := rfl
theorem cs_cons {cf : Nat → List D → Store → Res D} {c : C} {r : Cs} {σ : Sl} {S S1 S2 : Store} {d : D} {ds : List D} (h : evC cf G c σ S = .ok d S1) (h2 : evCs cf G r σ S1 = .ok ds S2) : evCs cf G (.cons c r) σ S = .ok (d :: ds) S2 := by
  show (evC cf G c σ S).bind _ = _
  rw [h]
  show (evCs cf G r σ S1).bind _ = _
  rw [h2]
  rfl
theorem tup_ev {cf : Nat → List D → Store → Res D} {l : Cs} {σ : Sl} {S S1 : Store} {ds : List D} (h : evCs cf G l σ S = .ok ds S1) (hl : ds.length ≤ sizeLine) : evC cf G (.tup l) σ S = .ok (.tup ds) S1 := by
  show (evCs cf G l σ S).bind _ = _
  rw [h]
  exact if_pos hl
theorem lst_ev {cf : Nat → List D → Store → Res D} {l : Cs} {σ : Sl} {S S1 : Store} {ds : List D} (h : evCs cf G l σ S = .ok ds S1) (hl : ds.length ≤ sizeLine) : evC cf G (.lst l) σ S = .ok (.ref S1.n) (S1.push (.lst true ds)) := by
  show (evCs cf G l σ S).bind _ = _
  rw [h]
  exact if_pos hl
theorem asgT_ev {cf : Nat → List D → Store → Res D} {c : C} {is : List Nat} {σ σ1 : Sl} {S S1 : Store} {l : List D} (h : evC cf G c σ S = .ok (.tup l) S1) (hs : setAll σ is l = some σ1) : exS cf G (.asgT is c) σ S = .ok (.nx σ1) S1 := by
  show (evC cf G c σ S).bx σ _ = _
  rw [h]
  show (Res.of (setAll σ is l) S1).bind _ = _
  rw [hs]
  rfl
/-- C(..) of a class whose __init__ ends well -/
theorem mk_ev {cf : Nat → List D → Store → Res D} {c f : Nat} {sh : List Src} {l : Cs} {σ : Sl} {S S1 S3 : Store} {ds as : List D} (h : evCs cf G l σ S = .ok ds S1) (hs : srcs (.ref S1.n :: ds) sh = some as) (hc : cf f as (S1.push (.ins c [])) = .ok .non S3) : evC cf G (.mk c f sh l) σ S = .ok (.ref S1.n) S3 := by
  show (evCs cf G l σ S).bind _ = _
  rw [h]
  show (Res.of (srcs (.ref S1.n :: ds) sh) S1).bind _ = _
  rw [hs]
  show (cf f as (S1.push (.ins c []))).bind _ = _
  rw [hc]
  rfl
theorem for_live {cf : Nat → List D → Store → Res D} {it : C} {tg : List Nat} {one : Bool} {b : Ss} {σ : Sl} {S S1 : Store} {t : Nat} {w : Bool} {items : List D} (hi : evC cf G it σ S = .ok (.ref t) S1) (ht : S1.get t = some (.lst w items)) :
    exS cf G (.for1 (.seq it) tg one b) σ S = loopLive (fun x σ1 S2 => (Res.of (bindT S2 one tg σ1 x) S2).bind fun σ2 S3 => exSs cf G b σ2 S3) t items.length 0 σ S1 := by
  have e1 : evIt cf G (.seq it) σ S = .ok (.live t items.length) S1 := by
    show (evC cf G it σ S).bind (fun d S1 => Res.of (sqOf S1 d) S1) = _
    rw [hi]
    show Res.of (match S1.get t with
      | some (.lst _ l) => some (Sq.live t l.length)
      | some (.dct l) => some (.fix (l.map fun q => keyD q.1))
      | _ => none) S1 = _
    rw [ht]
    rfl
  show (evIt cf G (.seq it) σ S).bx σ _ = _
  rw [e1]
  rfl
theorem for_range {cf : Nat → List D → Store → Res D} {a : C} {tg : List Nat} {one : Bool} {b : Ss} {σ : Sl} {S S1 : Store} {j : Int} (hi : evC cf G a σ S = .ok (.int j) S1) (hj : -(2 ^ 62) ≤ j ∧ j < 2 ^ 62) :
    exS cf G (.for1 (.range1 a) tg one b) σ S = loopFix (fun x σ1 S2 => (Res.of (bindT S2 one tg σ1 x) S2).bind fun σ2 S3 => exSs cf G b σ2 S3) (rangeL 0 j.toNat) σ S1 := by
  have e1 : evIt cf G (.range1 a) σ S = .ok (.fix (rangeL 0 j.toNat)) S1 := by
    show (evC cf G a σ S).bind _ = _
    rw [hi]
    exact if_pos hj
  show (evIt cf G (.range1 a) σ S).bx σ _ = _
  rw [e1]
  rfl
theorem mem_range {d : D} : ∀ (n : Nat) (lo : Int), d ∈ rangeL lo n → ∃ k, d = .int k ∧ lo ≤ k ∧ k < lo + n
  | 0, lo, h => by cases h
  | n + 1, lo, h => by
    rcases List.mem_cons.mp h with rfl | h
    · exact ⟨lo, rfl, by omega, by omega⟩
    · obtain ⟨k, e, a, b⟩ := mem_range n (lo + 1) h
      exact ⟨k, e, by omega, by omega⟩

/-- o.f by a property -/
theorem at_prop {cf : Nat → List D → Store → Res D} {c : C} {σ : Sl} {S0 S S1 : Store} {i k g : Nat} {fs : List (Str × D)} {f : Str} {d : D} (e : evC cf G c σ S0 = .ok (.ref i) S) (h : S.get i = some (.ins k fs)) (hp : (G.props k).lookup f = some g) (hc : cf g [.ref i] S = .ok d S1) : evC cf G (.attr c f) σ S0 = .ok d S1 := by
  show (evC cf G c σ S0).bind _ = _
  rw [e]
  show (match S.get i with
    | some (.ins c fs) => (match (G.props c).lookup f with
      | some g => (cf g [.ref i] S).nox
      | none => if (G.flds c).contains f then Res.of (fs.lookup f) S else .stuck)
    | _ => .stuck) = _
  rw [h]
  dsimp only
  rw [hp]
  dsimp only
  rw [hc]
  rfl
theorem at_fld {cf : Nat → List D → Store → Res D} {c : C} {σ : Sl} {S0 S : Store} {i k : Nat} {fs : List (Str × D)} {f : Str} {d : D} (e : evC cf G c σ S0 = .ok (.ref i) S) (h : S.get i = some (.ins k fs)) (hp : (G.props k).lookup f = none) (hf : (G.flds k).contains f = true) (hd : fs.lookup f = some d) : evC cf G (.attr c f) σ S0 = .ok d S := by
  show (evC cf G c σ S0).bind _ = _
  rw [e]
  show (match S.get i with
    | some (.ins c fs) => (match (G.props c).lookup f with
      | some g => (cf g [.ref i] S).nox
      | none => if (G.flds c).contains f then Res.of (fs.lookup f) S else .stuck)
    | _ => .stuck) = _
  rw [h]
  dsimp only
  rw [hp]
  dsimp only
  rw [if_pos hf, hd]
  rfl
/-- o.m(..) -/
theorem meth_ev {cf : Nat → List D → Store → Res D} {c : C} {σ : Sl} {S0 S S1 S2 : Store} {i k g : Nat} {fs : List (Str × D)} {f : Str} {l : Cs} {ds : List D} {d : D} (e : evC cf G c σ S0 = .ok (.ref i) S) (h : S.get i = some (.ins k fs)) (hn : (fs.lookup f).isNone = true) (hm : (G.meths k).lookup f = some g) (hl : evCs cf G l σ S = .ok ds S1) (hc : cf g (.ref i :: ds) S1 = .ok d S2) : evC cf G (.meth c f l) σ S0 = .ok d S2 := by
  show (evC cf G c σ S0).bind _ = _
  rw [e]
  show (match S.get i with
    | some (.ins c fs) => if (fs.lookup f).isNone then (Res.of ((G.meths c).lookup f) S).bind fun g S2 => (evCs cf G l σ S2).bind fun ds S3 => cf g (.ref i :: ds) S3 else .stuck
    | _ => .stuck) = _
  rw [h]
  dsimp only
  rw [if_pos hn, hm]
  show (evCs cf G l σ S).bind _ = _
  rw [hl]
  exact hc
theorem expr_ev {cf : Nat → List D → Store → Res D} {c : C} {σ : Sl} {S S1 : Store} {d : D} (h : evC cf G c σ S = .ok d S1) : exS cf G (.expr c) σ S = .ok (.nx σ) S1 := by
  show (evC cf G c σ S).bx σ _ = _
  rw [h]
  rfl
theorem ifs_tt {cf : Nat → List D → Store → Res D} {t : C} {a b : Ss} {σ : Sl} {S S1 : Store} (h : evC cf G t σ S = .ok (.bl true) S1) : exS cf G (.ifs t a b) σ S = exSs cf G a σ S1 := by
  show (evC cf G t σ S).bx σ _ = _
  rw [h]
  rfl
theorem and_ff {cf : Nat → List D → Store → Res D} {a b : C} {σ : Sl} {S S1 : Store} (ha : evC cf G a σ S = .ok (.bl false) S1) : evC cf G (.and a b) σ S = .ok (.bl false) S1 := by
  show (evC cf G a σ S).bind _ = _
  rw [ha]
  rfl
theorem or_tt {cf : Nat → List D → Store → Res D} {a b : C} {σ : Sl} {S S1 : Store} (ha : evC cf G a σ S = .ok (.bl true) S1) : evC cf G (.or a b) σ S = .ok (.bl true) S1 := by
  show (evC cf G a σ S).bind _ = _
  rw [ha]
  rfl
theorem ite_ev {cf : Nat → List D → Store → Res D} {t a b : C} {σ : Sl} {S S1 S2 : Store} {k : Bool} {d : D} (h : evC cf G t σ S = .ok (.bl k) S1) (h2 : evC cf G (if k then a else b) σ S1 = .ok d S2) : evC cf G (.ite t a b) σ S = .ok d S2 := by
  show (evC cf G t σ S).bind _ = _
  rw [h]
  cases k
  · exact h2
  · exact h2
theorem stc_ev {cf : Nat → List D → Store → Res D} {f : Nat} {sh : List Src} {l : Cs} {σ : Sl} {S S1 S2 : Store} {ds as : List D} {d : D} (h : evCs cf G l σ S = .ok ds S1) (hs : srcs ds sh = some as) (hc : cf f as S1 = .ok d S2) : evC cf G (.stc f sh l) σ S = .ok d S2 := by
  show (evCs cf G l σ S).bind _ = _
  rw [h]
  show (Res.of (srcs ds sh) S1).bind _ = _
  rw [hs]
  exact hc
theorem ss_end {cf : Nat → List D → Store → Res D} {s : Stm} {r : Ss} {σ : Sl} {S S1 : Store} {d : D} (h : exS cf G s σ S = .ok (.rt d) S1) : exSs cf G (.cons s r) σ S = .ok (.rt d) S1 := by
  show (exS cf G s σ S).bind _ = _
  rw [h]
  rfl
/-- a comprehension over items that stand, some left out; no turn changes the store -/
theorem walk_fix {S : Store} {turn : D → Store → Res Unit} {p : D → Bool} {f : D → D} (hw : S.w ≤ S.n) : ∀ (items : List D) (k : Nat) (acc : List D), k + items.length ≤ sizeLine →
    (∀ x ∈ items, ∀ k acc, turn x (S.push (.bld k acc)) = if p x then compPut S.n (f x) (S.push (.bld k acc)) else .ok () (S.push (.bld k acc))) →
    ∃ k', walkFix turn items (S.push (.bld k acc)) = .ok () (S.push (.bld k' (((items.filter p).map f).reverse ++ acc)))
  | [], k, acc, _, _ => ⟨k, rfl⟩
  | x :: r, k, acc, hl, h => by
    have hl : k + (r.length + 1) ≤ sizeLine := hl
    show ∃ k', (turn x (S.push (.bld k acc))).bind _ = _
    rw [h x (List.mem_cons_self ..) k acc]
    by_cases hp : p x
    · rw [if_pos hp]
      have e3 : compPut S.n (f x) (S.push (.bld k acc)) = .ok () (S.push (.bld (k + 1) (f x :: acc))) := by
        unfold compPut
        rw [Store.get_push]
        dsimp only
        rw [show Nat.blt k sizeLine = true from Nat.ble_eq_true_of_le (show k + 1 ≤ sizeLine by omega), if_pos rfl, Store.push_set rfl hw]
      rw [e3]
      obtain ⟨k', e⟩ := walk_fix hw r (k + 1) (f x :: acc) (by omega) (fun y hy => h y (List.mem_cons_of_mem _ hy))
      refine ⟨k', e.trans ?_⟩
      rw [List.filter_cons_of_pos hp]
      simp
    · rw [if_neg hp]
      obtain ⟨k', e⟩ := walk_fix hw r k acc (by omega) (fun y hy => h y (List.mem_cons_of_mem _ hy))
      refine ⟨k', e.trans ?_⟩
      rw [List.filter_cons_of_neg hp]
theorem comp_fix {cf : Nat → List D → Store → Res D} {S0 S : Store} {items : List D} {p : D → Bool} {f : D → D} {it : Iter} {tg : Nat} {own : List Nat} {ifs : Cs} {elt : C} {σ : Sl} (hw : S.w ≤ S.n) (hl : items.length ≤ sizeLine)
    (hi : evIt cf G it σ S0 = .ok (.fix items) S) (hp : ∀ x ∈ items, ∀ S', evIfs cf G ifs ((wipeD σ own).set tg (some x)) S' = .ok (p x) S') (he : ∀ x ∈ items, ∀ S', evC cf G elt ((wipeD σ own).set tg (some x)) S' = .ok (f x) S') :
    evC cf G (.comp it [tg] true own ifs elt) σ S0 = .ok (.ref S.n) (S.push (.lst true ((items.filter p).map f))) := by
  show (evIt cf G it σ S0).bind _ = _
  rw [hi]
  show ((walkFix _ items (S.push (.bld 0 []))).nox.bind _) = _
  obtain ⟨k', e⟩ := walk_fix (turn := fun x S2 => (Res.of (bindT S2 true [tg] (wipeD σ own) x) S2).bind fun σ2 S3 => (evIfs cf G ifs σ2 S3).bind fun k S4 => if k then (evC cf G elt σ2 S4).bind fun y S5 => compPut S.n y S5 else .ok () S4) (p := p) (f := f) hw items 0 [] (by omega) (fun x hx k acc => by
    show (evIfs cf G ifs ((wipeD σ own).set tg (some x)) (S.push (.bld k acc))).bind _ = _
    rw [hp x hx]
    show (if p x = true then (evC cf G elt ((wipeD σ own).set tg (some x)) (S.push (.bld k acc))).bind _ else _) = _
    rw [he x hx]
    rfl)
  rw [e]
  show compEnd S.n (S.push _) = _
  unfold compEnd
  rw [Store.get_push]
  dsimp only
  rw [List.append_nil, List.reverse_reverse, Store.push_set rfl hw]
/-- .. without a condition -/
theorem comp_fixA {cf : Nat → List D → Store → Res D} {S0 S : Store} {items : List D} {f : D → D} {it : Iter} {tg : Nat} {own : List Nat} {elt : C} {σ : Sl} (hw : S.w ≤ S.n) (hl : items.length ≤ sizeLine)
    (hi : evIt cf G it σ S0 = .ok (.fix items) S) (he : ∀ x ∈ items, ∀ S', evC cf G elt ((wipeD σ own).set tg (some x)) S' = .ok (f x) S') :
    evC cf G (.comp it [tg] true own .nil elt) σ S0 = .ok (.ref S.n) (S.push (.lst true (items.map f))) := by
  have h := comp_fix (p := fun _ => true) (ifs := .nil) hw hl hi (fun _ _ _ => rfl) he
  rw [List.filter_eq_self.mpr (fun _ _ => rfl)] at h
  exact h
theorem range1_ev {cf : Nat → List D → Store → Res D} {a : C} {σ : Sl} {S S1 : Store} {j : Int} (h : evC cf G a σ S = .ok (.int j) S1) (hj : -(2 ^ 62) ≤ j ∧ j < 2 ^ 62) : evIt cf G (.range1 a) σ S = .ok (.fix (rangeL 0 j.toNat)) S1 := by
  show (evC cf G a σ S).bind _ = _
  rw [h]
  exact if_pos hj
theorem range2_ev {cf : Nat → List D → Store → Res D} {a b : C} {σ : Sl} {S S1 S2 : Store} {i j : Int} (h : evC cf G a σ S = .ok (.int i) S1) (h2 : evC cf G b σ S1 = .ok (.int j) S2) (hj : -(2 ^ 62) ≤ i ∧ i < 2 ^ 62 ∧ -(2 ^ 62) ≤ j ∧ j < 2 ^ 62) : evIt cf G (.range2 a b) σ S = .ok (.fix (rangeL i (j - i).toNat)) S2 := by
  show (evC cf G a σ S).bind _ = _
  rw [h]
  show (evC cf G b σ S1).bind _ = _
  rw [h2]
  exact if_pos hj
theorem seqT_ev {cf : Nat → List D → Store → Res D} {a : C} {σ : Sl} {S S1 : Store} {x : Str} (h : evC cf G a σ S = .ok (.str x) S1) : evIt cf G (.seq a) σ S = .ok (.fix (x.cps.toList.map fun c => .str ⟨#[c]⟩)) S1 := by
  show (evC cf G a σ S).bind _ = _
  rw [h]
  rfl
theorem rangeL_len : ∀ (n : Nat) (lo : Int), (rangeL lo n).length = n
  | 0, _ => rfl
  | n + 1, lo => congrArg (· + 1) (rangeL_len n (lo + 1))
/-- range(lo, lo + n) as numbers -/
def upN (lo : Nat) : Nat → List Nat
  | 0 => []
  | n + 1 => lo :: upN (lo + 1) n
theorem rangeL_map (f : D → D) (g : Nat → D) (h : ∀ k : Nat, f (.int k) = g k) : ∀ (n lo : Nat), (rangeL lo n).map f = (upN lo n).map g
  | 0, _ => rfl
  | n + 1, lo => by
    show f (.int lo) :: (rangeL ((lo : Int) + 1) n).map f = g lo :: (upN (lo + 1) n).map g
    rw [h, ← rangeL_map f g h n (lo + 1)]
    rfl
theorem scope_ev {cf : Nat → List D → Store → Res D} {c : C} {σ : Sl} {S S1 : Store} {d : D} (h : evC cf G c σ S.fr = .ok d S1) : evC cf G (.scope c) σ S = leave S d S1 := by
  show (evC cf G c σ S.fr).nox.bind _ = _
  rw [h]
  rfl
theorem for_fix {cf : Nat → List D → Store → Res D} {it : Iter} {tg : List Nat} {one : Bool} {b : Ss} {σ : Sl} {S S1 : Store} {items : List D} (hi : evIt cf G it σ S = .ok (.fix items) S1) :
    exS cf G (.for1 it tg one b) σ S = loopFix (fun x σ1 S2 => (Res.of (bindT S2 one tg σ1 x) S2).bind fun σ2 S3 => exSs cf G b σ2 S3) items σ S1 := by
  show (evIt cf G it σ S).bx σ _ = _
  rw [hi]
  rfl
/-- a list of flat values, asked for an int -/
theorem nin_ev {cf : Nat → List D → Store → Res D} {S : Store} {i : Nat} {w : Bool} {l : List D} {x : Int} (h : S.get i = some (.lst w l)) (hl : l.all flat = true) : evCmO G cf .nin (.int x) (.ref i) S = .ok (!(l.any fun y => eqF y (.int x))) S := by
  have e2 : insOf S (.ref i) = none := by
    show (match S.get i with
      | some (.ins c _) => some c
      | _ => none) = _
    rw [h]
  have e1 : insOf S (.int x) = none := rfl
  unfold evCmO
  rw [e1, e2]
  have e3 : evCm G S .nin (.int x) (.ref i) = some (!(l.any fun y => eqF y (.int x))) := by
    show (match S.get i with
      | some (.lst _ l) => if flat (.int x) && l.all flat then some (l.any fun y => eqF y (.int x)) else none
      | some (.dct _) => none
      | _ => none).map (!·) = _
    rw [h]
    dsimp only
    rw [hl]
    rfl
  show Res.of (evCm G S .nin (.int x) (.ref i)) S = _
  rw [e3]
  rfl
theorem slice_ev {cf : Nat → List D → Store → Res D} {a b : C} {σ : Sl} {S S1 S2 : Store} {i : Nat} {w : Bool} {l : List D} {k : Nat} (h : evC cf G a σ S = .ok (.ref i) S1) (hb : evC cf G b σ S1 = .ok (.int k) S2) (hg : S2.get i = some (.lst w l)) (hk : k ≤ l.length) : evC cf G (.slice a (.so b) .no) σ S = .ok (.ref S2.n) (S2.push (.lst true (l.drop k))) := by
  show (evC cf G a σ S).bind _ = _
  rw [h]
  show ((evC cf G b σ S1).bind _).bind _ = _
  rw [hb]
  show evSlice (D.ref i) (some (k : Int)) none S2 = _
  have e : cutA l (some (k : Int)) none = l.drop k := by
    have e1 : HT.sIx l.length 0 (some (k : Int)) = k := by
      show (if (k : Int) < 0 then ((k : Int) + l.length).toNat else min (k : Int).toNat l.length) = k
      rw [if_neg (by omega)]
      show min k l.length = k
      omega
    unfold cutA
    rw [e1]
    exact List.take_of_length_le (by rw [List.length_drop]; exact Nat.le_refl _)
  show (match S2.get i with
    | some (.lst _ l) => Res.ok (D.ref S2.n) (S2.push (.lst true (cutA l (some (k : Int)) none)))
    | _ => Res.stuck) = _
  rw [hg]
  dsimp only
  rw [e]
end Cd

namespace Cd
open PySem PySem.Spec PyProof.Rows L2 QD
def tyIs (ty : Ty) (tk : Tk) : Bool := match ty with
  | .own _ => false
  | .bt n => btIs n tk
/-- isinstance against a built-in type -/
theorem isi_ev {cf : Nat → List D → Store → Res D} {c : C} {σ : Sl} {S S1 : Store} {d : D} {ty : Ty} {tk : Tk} (hk : ∀ n, tk ≠ .cls n) (h : evC cf G c σ S = .ok d S1) (hd : tyD G S1 d = some ty) : evC cf G (.blt (.isi [tk]) (.cons c .nil)) σ S = .ok (.bl (tyIs ty tk)) S1 := by
  show ((evC cf G c σ S).bind fun d S1 => (evCs cf G .nil σ S1).bind fun ds S2 => .ok (d :: ds) S2).bind _ = _
  rw [h]
  have e1 : evBl G S1 (.isi [tk]) [d] = .ok (.bl (tyIs ty tk)) S1 := by
    have e2 : isTk G S1 d tk = some (tyIs ty tk) := by
      cases tk with
      | cls n => exact absurd rfl (hk n)
      | _ =>
        show (match tyD G S1 d with | some (.own _) => some false | some (.bt n) => some (btIs n _) | none => none) = _
        rw [hd]
        cases ty <;> rfl
    show Res.of ((anyTk G S1 d [tk]).map D.bl) S1 = _
    have e3 : anyTk G S1 d [tk] = some (tyIs ty tk) := by
      show (match isTk G S1 d tk with
        | some true => some true
        | some false => some false
        | none => none) = _
      rw [e2]
      cases (tyIs ty tk) <;> rfl
    rw [e3]
    rfl
  show (evBlO G cf (.isi [tk]) [d] S1).nox = _
  unfold evBlO
  dsimp only
  split
  · rw [e1]
    rfl
  · rw [e1]
    rfl
/-- a comprehension over items that stand; its turns leave the store as it is -/
theorem comp_fixP {cf : Nat → List D → Store → Res D} {S0 S : Store} {items : List D} {f : D → D} {it : Iter} {tg : Nat} {own : List Nat} {elt : C} {σ : Sl} (hw : S.w ≤ S.n) (hl : items.length ≤ sizeLine)
    (hi : evIt cf G it σ S0 = .ok (.fix items) S) (he : ∀ x ∈ items, ∀ k acc, evC cf G elt ((wipeD σ own).set tg (some x)) (S.push (.bld k acc)) = .ok (f x) (S.push (.bld k acc))) :
    evC cf G (.comp it [tg] true own .nil elt) σ S0 = .ok (.ref S.n) (S.push (.lst true (items.map f))) := by
  show (evIt cf G it σ S0).bind _ = _
  rw [hi]
  show ((walkFix _ items (S.push (.bld 0 []))).nox.bind _) = _
  obtain ⟨k', e⟩ := walk_fix (turn := fun x S2 => (Res.of (bindT S2 true [tg] (wipeD σ own) x) S2).bind fun σ2 S3 => (evIfs cf G .nil σ2 S3).bind fun k S4 => if k then (evC cf G elt σ2 S4).bind fun y S5 => compPut S.n y S5 else .ok () S4) (p := fun _ => true) (f := f) hw items 0 [] (by omega) (fun x hx k acc => by
    show (evC cf G elt ((wipeD σ own).set tg (some x)) (S.push (.bld k acc))).bind _ = _
    rw [he x hx]
    rfl)
  rw [e, List.filter_eq_self.mpr (fun _ _ => rfl)]
  show compEnd S.n (S.push _) = _
  unfold compEnd
  rw [Store.get_push]
  dsimp only
  rw [List.append_nil, List.reverse_reverse, Store.push_set rfl hw]
theorem seqU_ev {cf : Nat → List D → Store → Res D} {a : C} {σ : Sl} {S S1 : Store} {l : List D} (h : evC cf G a σ S = .ok (.tup l) S1) : evIt cf G (.seq a) σ S = .ok (.fix l) S1 := by
  show (evC cf G a σ S).bind _ = _
  rw [h]
  rfl
theorem sub_ev {cf : Nat → List D → Store → Res D} {a b : C} {σ : Sl} {S S1 S2 : Store} {i : Nat} {w : Bool} {l : List D} {j : Int} {d : D} (h : evC cf G a σ S = .ok (.ref i) S1) (hb : evC cf G b σ S1 = .ok (.int j) S2) (hg : S2.get i = some (.lst w l)) (hd : atI l j = some d) : evC cf G (.sub a b) σ S = .ok d S2 := by
  show (evC cf G a σ S).bind _ = _
  rw [h]
  show (evC cf G b σ S1).bind _ = _
  rw [hb]
  show Res.of (match S2.get i with | some (.lst _ l) => atI l j | _ => none) S2 = _
  rw [hg]
  dsimp only
  rw [hd]
  rfl
theorem bls_map : ∀ l : List Bool, bls (l.map .bl) = some l
  | [] => rfl
  | b :: r => by
    show (bls (r.map .bl)).map (b :: ·) = _
    rw [bls_map r]
    rfl
theorem all_ev {cf : Nat → List D → Store → Res D} {c : C} {σ : Sl} {S S1 : Store} {i : Nat} {w : Bool} {l : List Bool} (h : evC cf G c σ S = .ok (.ref i) S1) (hg : S1.get i = some (.lst w (l.map .bl))) : evC cf G (.blt .all (.cons c .nil)) σ S = .ok (.bl (l.all id)) S1 := by
  show ((evC cf G c σ S).bind fun d S1 => (evCs cf G .nil σ S1).bind fun ds S2 => .ok (d :: ds) S2).bind _ = _
  rw [h]
  have e2 : insOf S1 (.ref i) = none := by
    show (match S1.get i with
      | some (.ins c _) => some c
      | _ => none) = _
    rw [hg]
  show (match insOf S1 (.ref i) with
    | some c => Res.stuck
    | none => (evBl G S1 .all [.ref i]).nox).nox = _
  rw [e2]
  show (match S1.get i with | some (.lst _ l) => Res.of ((bls l).map fun (bs : List Bool) => D.bl (bs.all id)) S1 | _ => .stuck).nox.nox = _
  rw [hg]
  dsimp only
  rw [bls_map]
  rfl
theorem lenT_ev {cf : Nat → List D → Store → Res D} {c : C} {σ : Sl} {S S1 : Store} {l : List D} (h : evC cf G c σ S = .ok (.tup l) S1) : evC cf G (.blt .len (.cons c .nil)) σ S = .ok (.int l.length) S1 := by
  show ((evC cf G c σ S).bind fun d S1 => (evCs cf G .nil σ S1).bind fun ds S2 => .ok (d :: ds) S2).bind _ = _
  rw [h]
  rfl
theorem glb_ev {cf : Nat → List D → Store → Res D} {i : Nat} {σ : Sl} {S : Store} {d : D} (h : G.gv i = some d) : evC cf G (.glb i) σ S = .ok d S := by
  show Res.of (G.gv i) S = _
  rw [h]
  rfl
theorem cmp2_ev {cf : Nat → List D → Store → Res D} {a b c : C} {σ : Sl} {S S1 S2 : Store} {x y z : Int} (ha : evC cf G a σ S = .ok (.int x) S1) (hb : evC cf G b σ S1 = .ok (.int y) S2) (hc : evC cf G c σ S2 = .ok (.int z) S2) : evC cf G (.cmp2 .le .le a b c) σ S = .ok (.bl (decide (x ≤ y) && decide (y ≤ z))) S2 := by
  show (evC cf G a σ S).bind _ = _
  rw [ha]
  show (evC cf G b σ S1).bind _ = _
  rw [hb]
  show (if decide (x ≤ y) then (evC cf G c σ S2).bind _ else _) = _
  cases decide (x ≤ y)
  · rfl
  · rw [if_pos rfl, hc]
    rfl
theorem pure_call {l f : Nat} {as : List D} {S : Store} {fn : Fn} {d : D} (h : tabJ T f = some fn) (ha : as.length = fn.ar) (hr : refless d = true) {S1 : Store} (e : exSs (cN l) G fn.body (QD.start fn.k as) S.fr = .ok (.rt d) S1) (hw : S1.w = S.n) : cN (l + 1) f as S = .ok d S := by
  rw [cN, ev_call h ha]
  show (exSs (cN l) G fn.body (QD.start fn.k as) S.fr).nox.bind (endF S) = _
  rw [e]
  exact leave0 hw hr
theorem ifs_ret {cf : Nat → List D → Store → Res D} {t c : C} {σ : Sl} {S S1 S2 : Store} {d : D} {r b : Ss} (h : evC cf G t σ S = .ok (.bl true) S1) (hc : evC cf G c σ S1 = .ok d S2) : exSs cf G (.cons (.ifs t (.cons (.ret c) .nil) b) r) σ S = .ok (.rt d) S2 := ss_end ((ifs_tt h).trans (ss_ret hc))
theorem ifs_no {cf : Nat → List D → Store → Res D} {t : C} {σ : Sl} {S S1 : Store} {r a : Ss} (h : evC cf G t σ S = .ok (.bl false) S1) : exSs cf G (.cons (.ifs t a .nil) r) σ S = exSs cf G r σ S1 := ss_step ((ifs_ff h).trans rfl)
end Cd

namespace Cd
open PySem PySem.Spec PyProof.Rows L2 QD
theorem leaveE {S X : Store} {d : D} (hw : S.w ≤ S.n) (e : Ext S.fr X) : ∃ S', leave S d X = .ok d S' ∧ Ext S S' := by
  rw [leaveI]
  split
  · exact ⟨S, rfl, Ext.refl hw⟩
  · refine ⟨_, rfl, ⟨e.n, e.g, ?_⟩⟩
    show (if X.w < S.w then X.w else S.w) ≤ X.n
    have := e.w
    have h : S.n ≤ X.n := e.n
    split <;> omega
theorem out_ext {S X : Store} (hw : S.w ≤ S.n) (e : Ext S.fr X) : Ext S (S.out X) := ⟨e.n, e.g, by
  show (if X.w < S.w then X.w else S.w) ≤ X.n
  have := e.w
  have h : S.n ≤ X.n := e.n
  split <;> omega⟩
theorem ext_call {l f : Nat} {as : List D} {S : Store} {fn : Fn} {d : D} {S1 : Store} (hS : S.w ≤ S.n) (h : tabJ T f = some fn) (ha : as.length = fn.ar) (e : exSs (cN l) G fn.body (QD.start fn.k as) S.fr = .ok (.rt d) S1) (x : Ext S.fr S1) : ∃ S', cN (l + 1) f as S = .ok d S' ∧ Ext S S' := by
  obtain ⟨S', e1, x1⟩ := leaveE (d := d) hS x
  refine ⟨S', ?_, x1⟩
  rw [cN, ev_call h ha]
  show (exSs (cN l) G fn.body (QD.start fn.k as) S.fr).nox.bind (endF S) = _
  rw [e]
  exact e1
/-- .. that gives a thing made within -/
theorem ext_callR {l f : Nat} {as : List D} {S : Store} {fn : Fn} {k : Nat} {S1 : Store} (hS : S.w ≤ S.n) (h : tabJ T f = some fn) (ha : as.length = fn.ar) (e : exSs (cN l) G fn.body (QD.start fn.k as) S.fr = .ok (.rt (.ref k)) S1) (x : Ext S.fr S1) : cN (l + 1) f as S = .ok (.ref k) (S.out S1) ∧ Ext S (S.out S1) := by
  refine ⟨?_, out_ext hS x⟩
  rw [cN, ev_call h ha]
  show (exSs (cN l) G fn.body (QD.start fn.k as) S.fr).nox.bind (endF S) = _
  rw [e]
  exact leave1 rfl
theorem raise_call {l f : Nat} {as : List D} {S : Store} {fn : Fn} {c d : Nat} {σ : Sl} {S1 : Store} (hS : S.w ≤ S.n) (h : tabJ T f = some fn) (ha : as.length = fn.ar) (e : exSs (cN l) G fn.body (QD.start fn.k as) S.fr = .ok (.xc c d σ) S1) (x : Ext S.fr S1) : cN (l + 1) f as S = .ex c d (S.out S1) ∧ Ext S (S.out S1) := by
  refine ⟨?_, out_ext hS x⟩
  rw [cN, ev_call h ha]
  show (exSs (cN l) G fn.body (QD.start fn.k as) S.fr).nox.bind (endF S) = _
  rw [e]
  rfl
theorem ss_x {cf : Nat → List D → Store → Res D} {s : Stm} {r : Ss} {σ σ1 : Sl} {S S1 : Store} {c d : Nat} (h : exS cf G s σ S = .ok (.xc c d σ1) S1) : exSs cf G (.cons s r) σ S = .ok (.xc c d σ1) S1 := by
  show (exS cf G s σ S).bind _ = _
  rw [h]
  rfl
theorem ret_x {cf : Nat → List D → Store → Res D} {c : C} {σ : Sl} {S S1 : Store} {k d : Nat} (h : evC cf G c σ S = .ex k d S1) : exS cf G (.ret c) σ S = .ok (.xc k d σ) S1 := by
  show (evC cf G c σ S).bx σ _ = _
  rw [h]
  rfl
theorem asg_x {cf : Nat → List D → Store → Res D} {c : C} {i : Nat} {σ : Sl} {S S1 : Store} {k d : Nat} (h : evC cf G c σ S = .ex k d S1) : exS cf G (.asg i c) σ S = .ok (.xc k d σ) S1 := by
  show (evC cf G c σ S).bx σ _ = _
  rw [h]
  rfl
theorem cm_isN {cf : Nat → List D → Store → Res D} {S : Store} (x : D) : evCmO G cf .isN x .non S = .ok (isNon x) S := by
  unfold evCmO
  cases insOf S x <;> rfl
theorem cm_notN {cf : Nat → List D → Store → Res D} {S : Store} (x : D) : evCmO G cf .notN x .non S = .ok (!isNon x) S := by
  unfold evCmO
  cases insOf S x <;> rfl
def sVal : Str := ("value" : Str)
theorem rais_ev {cf : Nat → List D → Store → Res D} {c : Nat} {x : C} {σ : Sl} {S S1 : Store} {d : D} (h : evC cf G x σ S = .ok d S1) : exS cf G (.rais c x) σ S = .ok (.xc c S1.n σ) (S1.push (.xd c [(sVal, d)])) := by
  show (evC cf G x σ S).bx σ _ = _
  rw [h]
  rfl
theorem ifs_rais {cf : Nat → List D → Store → Res D} {t x : C} {c : Nat} {σ : Sl} {S S1 S2 : Store} {d : D} {r b : Ss} (h : evC cf G t σ S = .ok (.bl true) S1) (hx : evC cf G x σ S1 = .ok d S2) : exSs cf G (.cons (.ifs t (.cons (.rais c x) .nil) b) r) σ S = .ok (.xc c S2.n σ) (S2.push (.xd c [(sVal, d)])) := ss_x ((ifs_tt h).trans (ss_x (rais_ev hx)))
end Cd

namespace Cd
open PySem PySem.Spec PyProof.Rows L2 QD
theorem comp_onX {α : Type} {cf : Nat → List D → Store → Res D} {S0 S : Store} (xs : List α) (g : α → D) (σx : α → Sl) (p : α → Bool) (f : α → D) {it : Iter} {tg : List Nat} {one : Bool} {own : List Nat} {ifs : Cs} {elt : C} {σ : Sl} (hw : S.w ≤ S.n) (hl : xs.length ≤ sizeLine)
    (hi : evIt cf G it σ S0 = .ok (.fix (xs.map g)) S) (hb : ∀ a ∈ xs, ∀ S', bindT S' one tg (wipeD σ own) (g a) = some (σx a)) (hp : ∀ a ∈ xs, ∀ k acc, evIfs cf G ifs (σx a) (S.push (.bld k acc)) = .ok (p a) (S.push (.bld k acc))) (he : ∀ a ∈ xs, ∀ k acc, evC cf G elt (σx a) (S.push (.bld k acc)) = .ok (f a) (S.push (.bld k acc))) :
    evC cf G (.comp it tg one own ifs elt) σ S0 = .ok (.ref S.n) (S.push (.lst true ((xs.filter p).map f))) := by
  show (evIt cf G it σ S0).bind _ = _
  rw [hi]
  show ((walkFix _ (xs.map g) (S.push (.bld 0 []))).nox.bind _) = _
  have W : ∀ (ys : List α) (k : Nat) (acc : List D), (∀ a ∈ ys, a ∈ xs) → k + ys.length ≤ sizeLine → ∃ k', walkFix (fun x S2 => (Res.of (bindT S2 one tg (wipeD σ own) x) S2).bind fun σ2 S3 => (evIfs cf G ifs σ2 S3).bind fun k S4 => if k then (evC cf G elt σ2 S4).bind fun y S5 => compPut S.n y S5 else .ok () S4) (ys.map g) (S.push (.bld k acc)) = .ok () (S.push (.bld k' (((ys.filter p).map f).reverse ++ acc))) := by
    intro ys
    induction ys with
    | nil => exact fun k acc _ _ => ⟨k, rfl⟩
    | cons a r ih =>
      intro k acc hm hk
      have hk : k + (r.length + 1) ≤ sizeLine := hk
      have ha := hm a (List.mem_cons_self ..)
      show ∃ k', ((Res.of (bindT _ one tg (wipeD σ own) (g a)) _).bind _).bind _ = _
      rw [hb a ha]
      show ∃ k', ((evIfs cf G ifs (σx a) (S.push (.bld k acc))).bind _).bind _ = _
      rw [hp a ha]
      by_cases h : p a
      · show ∃ k', (if p a = true then (evC cf G elt (σx a) (S.push (.bld k acc))).bind _ else _).bind _ = _
        rw [if_pos h, he a ha]
        have e3 : compPut S.n (f a) (S.push (.bld k acc)) = .ok () (S.push (.bld (k + 1) (f a :: acc))) := by
          unfold compPut
          rw [Store.get_push]
          dsimp only
          rw [show Nat.blt k sizeLine = true from Nat.ble_eq_true_of_le (show k + 1 ≤ sizeLine by omega), if_pos rfl, Store.push_set rfl hw]
        show ∃ k', (compPut S.n (f a) (S.push (.bld k acc))).bind _ = _
        rw [e3]
        obtain ⟨k', e⟩ := ih (k + 1) (f a :: acc) (fun b hb => hm b (List.mem_cons_of_mem _ hb)) (by omega)
        refine ⟨k', e.trans ?_⟩
        rw [List.filter_cons_of_pos h]
        simp
      · show ∃ k', (if p a = true then (evC cf G elt (σx a) (S.push (.bld k acc))).bind _ else _).bind _ = _
        rw [if_neg h]
        obtain ⟨k', e⟩ := ih k acc (fun b hb => hm b (List.mem_cons_of_mem _ hb)) (by omega)
        refine ⟨k', e.trans ?_⟩
        rw [List.filter_cons_of_neg h]
  obtain ⟨k', e⟩ := W xs 0 [] (fun _ h => h) (by omega)
  rw [e]
  show compEnd S.n (S.push _) = _
  unfold compEnd
  rw [Store.get_push]
  dsimp only
  rw [List.append_nil, List.reverse_reverse, Store.push_set rfl hw]
theorem insL {S : Store} {i : Nat} {w : Bool} {l : List D} (hg : S.get i = some (.lst w l)) : insOf S (.ref i) = none := by
  show (match S.get i with
    | some (.ins c _) => some c
    | _ => none) = none
  rw [hg]
mutual
theorem eqv_refl : ∀ d : PyData, d.canLay0 = true → PyData.eqv d d = true
  | .none, _ => rfl
  | .bool b, _ => by show (b == b) = true; exact beq_self_eq_true b
  | .int i, _ => by show (i == i) = true; exact beq_self_eq_true i
  | .str x, _ => by show (x == x) = true; exact beq_self_eq_true x
  | .list l, h => eqvAll_refl l h
  | .tuple l, h => eqvAll_refl l h
  | .dict l, h => by cases h
theorem eqvAll_refl : ∀ l : List PyData, PyData.canLayAll0 l = true → PyData.eqvAll l l = true
  | [], _ => rfl
  | d :: r, h => by
    obtain ⟨h1, h2⟩ := Bool.and_eq_true_iff.mp (show (d.canLay0 && PyData.canLayAll0 r) = true from h)
    show (PyData.eqv d d && PyData.eqvAll r r) = true
    rw [eqv_refl d h1, eqvAll_refl r h2]
    rfl
end
/-- two values of the same things are not unequal -/
theorem ne_deep {cf : Nat → List D → Store → Res D} {S : Store} {x y : D} (hp : py S 64 x = py S 64 y) (he : eqI S x y = some true) (i1 : insOf S x = none) (i2 : insOf S y = none) (hf : (flat x && flat y) = false) : evCmO G cf .ne x y S = .ok false S := by
  unfold evCmO
  rw [i1, i2]
  show Res.of ((eqD S x y).map (!·)) S = _
  have e : eqD S x y = some true := by
    unfold eqD
    rw [hf, if_neg Bool.false_ne_true, ← hp]
    cases q : py S 64 x with
    | none => exact he
    | some d =>
      show (if (SeqAt.shaped d && SeqAt.shaped d) = true then some (PyData.eqv d d) else eqI S x y) = some true
      split
      · rename_i h
        have h1 : SeqAt.shaped d = true := (Bool.and_eq_true_iff.mp h).1
        have e3 : d.canLay0 = true := (Bool.and_eq_true_iff.mp (show (d.canLay0 && decide (d.depth ≤ 64)) = true from h1)).1
        rw [eqv_refl d e3]
      · exact he
  rw [e]
  rfl

/-- an exception that is a value, and what it keeps -/
def Mad (S : Store) (v : D) (c : Nat) (d : D) : Prop := ∃ r k, d = .ref r ∧ S.get r = some (.exo c (some k)) ∧ S.get k = some (.xd c [(("value" : Str), v)])
def Mads (S : Store) (v : D) : List Nat → List D → Prop
  | [], l => l = []
  | c :: r, l => ∃ d t, l = d :: t ∧ Mad S v c d ∧ Mads S v r t
theorem Mad.ext {S S' : Store} {v : D} {c : Nat} {d : D} (x : Ext S S') (h : Mad S v c d) : Mad S' v c d := by
  obtain ⟨r, k, e, g, g2⟩ := h
  exact ⟨r, k, e, x.g _ _ g, x.g _ _ g2⟩
theorem Mads.ext {S S' : Store} {v : D} (x : Ext S S') : ∀ {cs : List Nat} {ds : List D}, Mads S v cs ds → Mads S' v cs ds
  | [], _, h => h
  | c :: r, _, h => by
    obtain ⟨d, t, e, m, h⟩ := h
    exact ⟨d, t, e, m.ext x, Mads.ext x h⟩
theorem Mads.app {S : Store} {v : D} : ∀ {cs es : List Nat} {ds ts : List D}, Mads S v cs ds → Mads S v es ts → Mads S v (cs ++ es) (ds ++ ts)
  | [], _, _, _, h, k => by cases (show _ = [] from h); exact k
  | c :: r, _, _, _, h, k => by
    obtain ⟨d, t, e, m, h⟩ := h
    subst e
    exact ⟨d, _, rfl, m, Mads.app h k⟩
theorem Mads.len {S : Store} {v : D} : ∀ {cs : List Nat} {ds : List D}, Mads S v cs ds → ds.length = cs.length
  | [], _, h => by cases (show _ = [] from h); rfl
  | c :: r, _, h => by
    obtain ⟨d, t, e, m, h⟩ := h
    subst e
    rw [List.length_cons, List.length_cons, Mads.len h]
theorem Mads.get {S : Store} {v : D} : ∀ {cs : List Nat} {ds : List D} {j c : Nat}, Mads S v cs ds → cs[j]? = some c → ∃ d, ds[j]? = some d ∧ Mad S v c d
  | [], _, _, _, _, e => by simp at e
  | c :: r, _, j, c', h, e => by
    obtain ⟨d, t, q, m, h⟩ := h
    subst q
    cases j with
    | zero => simp at e; subst e; exact ⟨d, rfl, m⟩
    | succ j => exact Mads.get (j := j) h (by simpa using e)
section
variable {cf : Nat → List D → Store → Res D}
theorem mkx_ev {x : C} {σ : Sl} {S S1 : Store} {c : Nat} {v : D} (h : evC cf G x σ S = .ok v S1) : evC cf G (.mkx c x) σ S = .ok (.ref (S1.n + 1)) ((S1.push (.xd c [(("value" : Str), v)])).push (.exo c (some S1.n))) := by
  show (evC cf G x σ S).bind _ = _
  rw [h]
  rfl
theorem mkx_mad {S : Store} {c : Nat} {v : D} : Mad ((S.push (.xd c [(("value" : Str), v)])).push (.exo c (some S.n))) v c (.ref (S.n + 1)) :=
  ⟨S.n + 1, S.n, rfl, Store.get_push (S := S.push _), Store.get_push_some Store.get_push⟩
theorem mkx_ext {S : Store} (h : S.w ≤ S.n) (a b : Cell) : Ext S ((S.push a).push b) := (Ext.push h a).push' b
def mkCs (i : Nat) : List Nat → Cs
  | [] => .nil
  | c :: r => .cons (.mkx c (.var i)) (mkCs i r)
theorem mkCs_ev {i : Nat} {v : D} {σ : Sl} (hv : σ[i]? = some (some v)) : ∀ (cs : List Nat) (S : Store), S.w ≤ S.n → ∃ ds S', evCs cf G (mkCs i cs) σ S = .ok ds S' ∧ Ext S S' ∧ Mads S' v cs ds
  | [], S, h => ⟨[], S, rfl, Ext.refl h, rfl⟩
  | c :: r, S, h => by
    have e := mkx_ev (cf := cf) (c := c) (var_ev (S := S) hv)
    have x := mkx_ext h (.xd c [(("value" : Str), v)]) (.exo c (some S.n))
    obtain ⟨ds, S', e2, x2, m⟩ := mkCs_ev hv r _ x.w
    exact ⟨_, S', cs_cons e e2, x.trans x2, _, ds, rfl, mkx_mad.ext x2, m⟩
/-- found + [..] -/
theorem add_ev {i f : Nat} {es : Cs} {σ : Sl} {S S1 : Store} {l ds : List D} (hv : σ[i]? = some (some (.ref f))) (hf : S.get f = some (.lst true l)) (he : evCs cf G es σ S = .ok ds S1) (x : Ext S S1) (hl : l.length + ds.length ≤ 1000) :
    ∃ k S', evC cf G (.op .add (.var i) (.lst es)) σ S = .ok (.ref k) S' ∧ Ext S S' ∧ Ext S1 S' ∧ S'.get k = some (.lst true (l ++ ds)) := by
  have hs : (1000 : Nat) ≤ sizeLine := by decide
  have e1 := lst_ev he (show ds.length ≤ sizeLine by omega)
  have x1 := Ext.push x.w (.lst true ds)
  have g1 : (S1.push (.lst true ds)).get f = some (.lst true l) := (x.trans x1).g _ _ hf
  have g2 : (S1.push (.lst true ds)).get S1.n = some (.lst true ds) := Store.get_push
  have x2 := Ext.push x1.w (.lst true (l ++ ds))
  refine ⟨_, _, op_ev (var_ev hv) e1 ?_, (x.trans x1).trans x2, x1.trans x2, Store.get_push⟩
  have i1 := insL g1
  have i2 := insL g2
  unfold evBin
  rw [i1]
  dsimp only
  unfold evBinR
  rw [i2]
  dsimp only
  show (match (S1.push (.lst true ds)).get f, (S1.push (.lst true ds)).get S1.n with
    | some (.lst true x), some (.lst true y) => if x.length + y.length ≤ sizeLine then Res.ok (D.ref (S1.push (.lst true ds)).n) ((S1.push (.lst true ds)).push (.lst true (x ++ y))) else .stuck
    | _, _ => .stuck).nox = _
  rw [g1, g2]
  dsimp only
  rw [if_pos (by omega)]
  rfl
def chM (i j : Nat) : List (List Nat) → Ss
  | [] => .cons (.ret (.var j)) .nil
  | g :: r => .cons (.asg j (.op .add (.var j) (.lst (mkCs i g)))) (chM i j r)
theorem chM_ev {v : D} : ∀ (gs : List (List Nat)) (cs : List Nat) (f : Nat) (ds : List D) (S : Store), S.w ≤ S.n → S.get f = some (.lst true ds) → Mads S v cs ds → cs.length + gs.flatten.length ≤ 1000 →
    ∃ f' ds' S', exSs cf G (chM 0 1 gs) [some v, some (.ref f)] S = .ok (.rt (.ref f')) S' ∧ Ext S S' ∧ S'.get f' = some (.lst true ds') ∧ Mads S' v (cs ++ gs.flatten) ds'
  | [], cs, f, ds, S, h, hf, m, _ => ⟨f, ds, S, ss_ret (var_ev rfl), Ext.refl h, hf, by rw [List.flatten_nil, List.append_nil]; exact m⟩
  | g :: r, cs, f, ds, S, h, hf, m, hl => by
    obtain ⟨es, S1, e1, x1, m1⟩ := mkCs_ev (cf := cf) (i := 0) (v := v) (σ := [some v, some (.ref f)]) rfl g S h
    have l1 := m.len
    have l2 := m1.len
    rw [List.flatten_cons, List.length_append] at hl
    obtain ⟨k, S2, e2, x2, x3, g2⟩ := add_ev (cf := cf) (i := 1) (σ := [some v, some (.ref f)]) rfl hf e1 x1 (by omega)
    obtain ⟨f', ds', S', e3, x4, g4, m4⟩ := chM_ev r (cs ++ g) k (ds ++ es) S2 x2.w g2 ((m.ext x2).app (m1.ext x3)) (by rw [List.length_append]; omega)
    refine ⟨f', ds', S', ?_, x2.trans x4, g4, by rw [List.flatten_cons, ← List.append_assoc]; exact m4⟩
    show exSs cf G (.cons (.asg 1 (.op .add (.var 1) (.lst (mkCs 0 g)))) (chM 0 1 r)) _ S = _
    rw [ss_step (asg_ev e2)]
    exact e3
/-! ### isinstance -/
theorem xis_ev {o : C} {σ : Sl} {S S1 : Store} {t c : Nat} {d : D} {b : Bool} (h : evC cf G o σ S = .ok d S1) (hc : exCls S1 d = some c) (hb : xs c t = some b) : evC cf G (.xis o t) σ S = .ok (.bl b) S1 := by
  show (evC cf G o σ S).bind _ = _
  rw [h]
  show Res.of ((exCls S1 d).bind fun c => (xs c t).map D.bl) S1 = _
  rw [hc]
  show Res.of ((xs c t).map D.bl) S1 = _
  rw [hb]
  rfl
theorem Mad.cls {S : Store} {v : D} {c : Nat} {d : D} (h : Mad S v c d) : exCls S d = some c := by
  obtain ⟨r, k, rfl, g, g2⟩ := h
  show (match S.get r with
    | some (.exo c none) => some c
    | some (.exo c (some d)) => (match S.get d with
      | some (.xd _ _) => some c
      | _ => none)
    | _ => none) = _
  rw [g]
  dsimp only
  rw [g2]
def xiCs (i : Nat) : List Nat → Cs
  | [] => .nil
  | t :: r => .cons (.xis (.var i) t) (xiCs i r)
theorem xiCs_ev {i c : Nat} {e : D} {σ : Sl} {S : Store} {b : Nat → Bool} (hv : σ[i]? = some (some e)) (hc : exCls S e = some c) : ∀ (ts : List Nat), (∀ t ∈ ts, xs c t = some (b t)) → evCs cf G (xiCs i ts) σ S = .ok (ts.map fun t => .bl (b t)) S
  | [], _ => rfl
  | t :: r, h => cs_cons (xis_ev (var_ev hv) hc (h t (List.mem_cons_self ..))) (xiCs_ev hv hc r fun u hu => h u (List.mem_cons_of_mem _ hu))
theorem exCls_ext {S S' : Store} {d : D} {c : Nat} (x : Ext S S') (h : exCls S d = some c) : exCls S' d = some c := by
  obtain ⟨i, od, rfl, g, k⟩ := exCls_ok h
  show (match S'.get i with
    | some (.exo c none) => some c
    | some (.exo c (some d)) => (match S'.get d with
      | some (.xd _ _) => some c
      | _ => none)
    | _ => none) = _
  rw [x.g _ _ g]
  cases od with
  | none => rfl
  | some d =>
    obtain ⟨cc, fs, g2⟩ := k d rfl
    dsimp only
    rw [x.g _ _ g2]
def chX (i j : Nat) : List (List Nat) → Ss
  | [] => .cons (.ret (.var j)) .nil
  | g :: r => .cons (.asg j (.op .add (.var j) (.lst (xiCs i g)))) (chX i j r)
theorem chX_ev {e : D} {c : Nat} {b : Nat → Bool} : ∀ (gs : List (List Nat)) (us : List Nat) (f : Nat) (S : Store), S.w ≤ S.n → S.get f = some (.lst true (us.map fun t => .bl (b t))) → exCls S e = some c → (∀ t ∈ gs.flatten, xs c t = some (b t)) → us.length + gs.flatten.length ≤ 1000 →
    ∃ f' S', exSs cf G (chX 0 1 gs) [some e, some (.ref f)] S = .ok (.rt (.ref f')) S' ∧ Ext S S' ∧ S'.get f' = some (.lst true ((us ++ gs.flatten).map fun t => .bl (b t)))
  | [], us, f, S, h, hf, _, _, _ => ⟨f, S, ss_ret (var_ev rfl), Ext.refl h, by rw [List.flatten_nil, List.append_nil]; exact hf⟩
  | g :: r, us, f, S, h, hf, hc, hb, hl => by
    have e1 := xiCs_ev (cf := cf) (i := 0) (σ := [some e, some (.ref f)]) (b := b) rfl hc g fun t ht => hb t (by rw [List.flatten_cons]; exact List.mem_append_left _ ht)
    rw [List.flatten_cons, List.length_append] at hl
    obtain ⟨k, S2, e2, x2, x3, g2⟩ := add_ev (cf := cf) (i := 1) (σ := [some e, some (.ref f)]) rfl hf e1 (Ext.refl h) (by rw [List.length_map, List.length_map]; omega)
    rw [← List.map_append] at g2
    obtain ⟨f', S', e3, x4, g4⟩ := chX_ev r (us ++ g) k S2 x2.w g2 (exCls_ext x2 hc) (fun t ht => hb t (by rw [List.flatten_cons]; exact List.mem_append_right _ ht)) (by rw [List.length_append]; omega)
    refine ⟨f', S', ?_, x2.trans x4, by rw [List.flatten_cons, ← List.append_assoc]; exact g4⟩
    show exSs cf G (.cons (.asg 1 (.op .add (.var 1) (.lst (xiCs 0 g)))) (chX 0 1 r)) _ S = _
    rw [ss_step (asg_ev e2)]
    exact e3
end
end Cd

namespace Cd
open PySem PySem.Spec PyProof.Rows L2 QD
/-- the 41 classes, in order -/
def KL : List Nat := [1, 2, 3, 4, 5, 6, 7, 8, 9, 10, 11, 12, 13, 14, 15, 16, 17, 18, 19, 20, 21, 22, 23, 24, 25, 26, 27, 28, 29, 30, 31, 32, 33, 35, 36, 37, 38, 39, 40, 41, 42]
def RL : List Nat := [0, 900, 901, 902, 903, 34]
def g6 : List (List Nat) := [[1, 2, 3, 4, 5], [6, 7, 8, 9, 10], [11, 12, 13, 14, 15], [16, 17, 18, 19, 20], [21, 22, 23, 24, 25], [26, 27, 28, 29, 30], [31, 32, 33]]
def g4 : List (List Nat) := [[35, 36, 37, 38, 39], [40, 41, 42]]
def g3 : List (List Nat) := [[1, 2, 3], [4, 5, 6], [7, 8, 9], [10, 11, 12], [13, 14, 15], [16, 17, 18], [19, 20, 21], [22, 23, 24], [25, 26, 27], [28, 29, 30], [31, 32, 33], [35, 36, 37], [38, 39, 40], [41, 42]]
theorem c6_code : c6 = .cons (.asg 1 (.lst .nil)) (chM 0 1 g6) := by rfl
theorem c4_code : c4 = .cons (.asg 1 (.call 6 [.arg 0] (.cons (.var 0) .nil))) (chM 0 1 g4) := by rfl
theorem c3_code : c3 = .cons (.asg 1 (.lst .nil)) (chX 0 1 g3) := by rfl
theorem c2_code : c2 = .cons (.asg 1 (.lst (xiCs 0 [0, 900, 901]))) (.cons (.ret (.op .add (.var 1) (.lst (xiCs 0 [902, 903, 34])))) .nil) := by rfl
theorem xs_kinds : ∀ c ∈ KL, ∀ t ∈ KL, xs c t = some (decide (c = t)) := by decide +kernel
theorem xs_self : ∀ c ∈ KL, (xs c c).isSome = true := by decide +kernel
theorem xs_roots : ∀ c, c < 44 → ∀ t ∈ RL, xs c t = some ((xs c t).getD false) := by decide +kernel
def rB (c : Nat) : List Bool := RL.map fun t => (xs c t).getD false
theorem x_out {S S1 : Store} (hS : S.w ≤ S.n) (x : Ext S.fr S1) : Ext S1 (S.out S1) := ⟨Nat.le_refl _, fun _ _ h => h, (out_ext hS x).w⟩
theorem first_ev (l : Nat) {S : Store} (hS : S.w ≤ S.n) (v : D) : ∃ m ds S', cN (l + 1) 6 [v] S = .ok (.ref m) S' ∧ Ext S S' ∧ S'.get m = some (.lst true ds) ∧ Mads S' v g6.flatten ds := by
  have x0 := Ext.push (S := S.fr) (Nat.le_refl _) (.lst true [])
  obtain ⟨f', ds, S1, e, x, g, m⟩ := chM_ev (cf := cN l) (v := v) g6 [] S.n [] (S.fr.push (.lst true [])) x0.w Store.get_push rfl (by decide)
  have r := ext_callR (fn := ⟨1, 2, c6⟩) (f := 6) (as := [v]) (l := l) (k := f') (S1 := S1) hS rfl rfl (by
    show exSs (cN l) G c6 [some v, none] S.fr = _
    rw [c6_code, ss_step (asg_ev (lst_ev cs_nil (by decide)))]
    exact e) (x0.trans x)
  have xo := x_out hS (x0.trans x)
  exact ⟨f', ds, _, r.1, r.2, xo.g _ _ g, Mads.ext xo m⟩
theorem made_ev (l : Nat) {S : Store} (hS : S.w ≤ S.n) (v : D) : ∃ m ds S', cN (l + 2) 4 [v] S = .ok (.ref m) S' ∧ Ext S S' ∧ S'.get m = some (.lst true ds) ∧ Mads S' v KL ds := by
  obtain ⟨m0, ds0, S0, e0, x0, h0, M0⟩ := first_ev l (S := S.fr) (Nat.le_refl _) v
  obtain ⟨f', ds, S1, e, x, g, m⟩ := chM_ev (cf := cN (l + 1)) (v := v) g4 g6.flatten m0 ds0 S0 x0.w h0 M0 (by decide)
  have r := ext_callR (fn := ⟨1, 2, c4⟩) (f := 4) (as := [v]) (l := l + 1) (k := f') (S1 := S1) hS rfl rfl (by
    show exSs (cN (l + 1)) G c4 [some v, none] S.fr = _
    rw [c4_code, ss_step (asg_ev (call_ev (cs_cons (var_ev rfl) cs_nil) rfl e0))]
    exact e) (x0.trans x)
  have xo := x_out hS (x0.trans x)
  exact ⟨f', ds, _, r.1, r.2, xo.g _ _ g, Mads.ext xo m⟩
theorem kinds_ev (l : Nat) {S : Store} (hS : S.w ≤ S.n) {e : D} {c : Nat} (hc : exCls S e = some c) (hk : c ∈ KL) : ∃ m S', cN (l + 1) 3 [e] S = .ok (.ref m) S' ∧ Ext S S' ∧ S'.get m = some (.lst true (KL.map fun t => .bl (decide (c = t)))) := by
  have x0 := Ext.push (S := S.fr) (Nat.le_refl _) (.lst true [])
  obtain ⟨f', S1, e1, x, g⟩ := chX_ev (cf := cN l) (e := e) (c := c) (b := fun t => decide (c = t)) g3 [] S.n (S.fr.push (.lst true [])) x0.w Store.get_push (exCls_ext x0 hc) (xs_kinds c hk) (by decide)
  have r := ext_callR (fn := ⟨1, 2, c3⟩) (f := 3) (as := [e]) (l := l) (k := f') (S1 := S1) hS rfl rfl (by
    show exSs (cN l) G c3 [some e, none] S.fr = _
    rw [c3_code, ss_step (asg_ev (lst_ev cs_nil (by decide)))]
    exact e1) (x0.trans x)
  have xo := x_out hS (x0.trans x)
  exact ⟨f', _, r.1, r.2, xo.g _ _ g⟩
theorem roots_ev (l : Nat) {S : Store} (hS : S.w ≤ S.n) {e : D} {c : Nat} (hc : exCls S e = some c) (hk : c < 44) : ∃ m S', cN (l + 1) 2 [e] S = .ok (.ref m) S' ∧ Ext S S' ∧ S'.get m = some (.lst true ((rB c).map .bl)) := by
  have q := xs_roots c hk
  have e1 := xiCs_ev (cf := cN l) (i := 0) (σ := [some e, none]) (S := S.fr) (b := fun t => (xs c t).getD false) rfl hc [0, 900, 901] fun t ht => q t (List.mem_append_left [902, 903, 34] ht)
  have x0 := Ext.push (S := S.fr) (Nat.le_refl _) (.lst true ([0, 900, 901].map fun t => .bl ((xs c t).getD false)))
  have e2 := xiCs_ev (cf := cN l) (i := 0) (σ := [some e, some (.ref S.n)]) (b := fun t => (xs c t).getD false) rfl (exCls_ext x0 hc) [902, 903, 34] fun t ht => q t (List.mem_append_right [0, 900, 901] ht)
  obtain ⟨k, S2, e3, x2, _, g2⟩ := add_ev (cf := cN l) (i := 1) (f := S.n) (σ := [some e, some (.ref S.n)]) rfl (Store.get_push (S := S.fr)) e2 (Ext.refl x0.w) (by show 3 + 3 ≤ 1000; decide)
  have r := ext_callR (fn := ⟨1, 2, c2⟩) (f := 2) (as := [e]) (l := l) (k := k) (S1 := S2) hS rfl rfl (by
    show exSs (cN l) G c2 [some e, none] S.fr = _
    rw [c2_code, ss_step (asg_ev (lst_ev e1 (by show 3 ≤ sizeLine; decide)))]
    exact ss_ret e3) (x0.trans x2)
  have xo := x_out hS (x0.trans x2)
  exact ⟨k, _, r.1, r.2, xo.g _ _ g2⟩
/-! ### what is compared -/
theorem same_bls : ∀ bs : List Bool, sameL (bs.map .bl) (bs.map .bl) = true
  | [] => rfl
  | b :: r => by
    show ((b == b) && sameL (r.map .bl) (r.map .bl)) = true
    rw [beq_self_eq_true, same_bls r]
    rfl
theorem ne_bls {cf : Nat → List D → Store → Res D} {S : Store} {i j : Nat} {bs : List Bool} (hi : S.get i = some (.lst true (bs.map .bl))) (hj : S.get j = some (.lst true (bs.map .bl))) : evCmO G cf .ne (.ref i) (.ref j) S = .ok false S := by
  have p1 : ∀ k, S.get k = some (.lst true (bs.map .bl)) → py S 64 (.ref k) = (pyL S 63 (bs.map .bl)).map PyData.list := fun k h => by
    show (match S.get k with
      | some (.lst _ l) => (pyL S 63 l).map PyData.list
      | _ => none) = _
    rw [h]
  refine ne_deep ((p1 i hi).trans (p1 j hj).symm) ?_ (insL hi) (insL hj) rfl
  show (match S.get i, S.get j with
    | some (.lst _ l), some (.lst _ m) => if sameL l m then some true else if deepL S 50 l m then some true else none
    | _, _ => none) = some true
  rw [hi, hj]
  dsimp only
  rw [if_pos (same_bls bs)]
/-- a flat value, equal to itself -/
def Fv (v : D) : Prop := (∃ i, v = .int i) ∨ (∃ z, v = .str z) ∨ v = .non
theorem ne_fv {cf : Nat → List D → Store → Res D} {S : Store} {v : D} (h : Fv v) : evCmO G cf .ne v v S = .ok false S := by
  rcases h with ⟨i, rfl⟩ | ⟨z, rfl⟩ | rfl
  · rw [cm_ne, decide_eq_true rfl]
    rfl
  · rw [cm_neS, decide_eq_true rfl]
    rfl
  · rfl
theorem xv_ev {cf : Nat → List D → Store → Res D} {o : C} {σ : Sl} {S S1 : Store} {c : Nat} {v d : D} (h : evC cf G o σ S = .ok d S1) (m : Mad S1 v c d) (hc : (xs c c).isSome = true) : evC cf G (.xv o) σ S = .ok v S1 := by
  obtain ⟨r, k, rfl, g, g2⟩ := m
  show (evC cf G o σ S).bind _ = _
  rw [h]
  show Res.of (match S1.get r with
    | some (.exo c (some d)) => if (xs c c).isSome = true then (match S1.get d with
      | some (.xd _ fs) => fs.lookup ("value" : Str)
      | _ => none) else none
    | _ => none) S1 = _
  rw [g]
  dsimp only
  rw [if_pos hc, g2]
  rfl
theorem atI_nat {l : List D} {n : Nat} (h : n < l.length) : atI l (n : Int) = l[n]? := by
  unfold atI ixN
  rw [if_pos (by omega), if_pos (by omega)]
  rfl
/-- _law_roots(o) != [..] -/
theorem rne_ev (l : Nat) {o r : C} {σ : Sl} {S S1 : Store} {d : D} {c : Nat} (h : evC (cN (l + 1)) G o σ S = .ok d S1) (x : Ext S S1) (hc : exCls S1 d = some c) (hk : c < 44) (hr : ∀ S2, S2.w ≤ S2.n → ∃ j S3, evC (cN (l + 1)) G r σ S2 = .ok (.ref j) S3 ∧ Ext S2 S3 ∧ S3.get j = some (.lst true ((rB c).map .bl))) :
    ∃ S', evC (cN (l + 1)) G (.cmp .ne (.call 2 [.arg 0] (.cons o .nil)) r) σ S = .ok (.bl false) S' ∧ Ext S S' := by
  obtain ⟨m, S2, e2, x2, g2⟩ := roots_ev l x.w hc hk
  obtain ⟨j, S3, e3, x3, g3⟩ := hr S2 x2.w
  exact ⟨S3, cmp_ev (call_ev (cs_cons h cs_nil) rfl e2) e3 (ne_bls (x3.g _ _ g2) g3), (x.trans x2).trans x3⟩
theorem bl_list {cf : Nat → List D → Store → Res D} {σ : Sl} (bs : List Bool) : ∀ S : Store, evCs cf G (bs.foldr (fun b r => Cs.cons (.lit (.bl b)) r) .nil) σ S = .ok (bs.map .bl) S := by
  induction bs with
  | nil => intro S; rfl
  | cons b r ih => intro S; exact cs_cons lit_ev (ih S)
theorem blL_ev {cf : Nat → List D → Store → Res D} {σ : Sl} (bs : List Bool) (hl : bs.length ≤ 1000) : ∀ S : Store, S.w ≤ S.n → ∃ j S3, evC cf G (.lst (bs.foldr (fun b r => Cs.cons (.lit (.bl b)) r) .nil)) σ S = .ok (.ref j) S3 ∧ Ext S S3 ∧ S3.get j = some (.lst true (bs.map .bl)) := fun S h =>
  have hs : (1000 : Nat) ≤ sizeLine := by decide
  ⟨_, _, lst_ev (bl_list bs S) (by rw [List.length_map]; omega), Ext.push h _, Store.get_push⟩
theorem cmp2l_ev {cf : Nat → List D → Store → Res D} {a b c : C} {σ : Sl} {S : Store} {x y z : Int} (ha : evC cf G a σ S = .ok (.int x) S) (hb : evC cf G b σ S = .ok (.int y) S) (hc : evC cf G c σ S = .ok (.int z) S) : evC cf G (.cmp2 .le .lt a b c) σ S = .ok (.bl (decide (x ≤ y) && decide (y < z))) S := by
  show (evC cf G a σ S).bind _ = _
  rw [ha]
  show (evC cf G b σ S).bind _ = _
  rw [hb]
  show (if decide (x ≤ y) then (evC cf G c σ S).bind _ else _) = _
  cases decide (x ≤ y)
  · rfl
  · rw [if_pos rfl, hc]
    rfl
end Cd

namespace Cd
open PySem PySem.Spec PyProof.Rows L2 QD
def rF : Ss := .cons (.ret (.lit (.bl false))) (.nil)
def mA : C := .sub (.var 4) (.var 5)
def cC : C := .comp (.range1 (.lit (.int (41)))) [7] true [7] (.cons (.sub (.var 6) (.var 7)) (.nil)) (.var 7)
def t1 : C := .or (.cmp .ne cC (.lst (.cons (.var 5) (.nil)))) (.cmp .ne (.xv mA) (.var 3))
def rr : C := .lst (.cons (.cmp .lt (.var 5) (.lit (.int (33)))) (.cons (.cmp .lt (.var 5) (.lit (.int (33)))) (.cons (.cmp2 .le .lt (.lit (.int (33))) (.var 5) (.lit (.int (39)))) (.cons (.cmp .ge (.var 5) (.lit (.int (39)))) (.cons (.lit (.bl false)) (.cons (.cmp2 .le .lt (.lit (.int (33))) (.var 5) (.lit (.int (39)))) (.nil)))))))
def rC (o r : C) : C := .cmp .ne (.call 2 [.arg 0] (.cons o (.nil))) r
def blC (bs : List Bool) : C := .lst (bs.foldr (fun b r => Cs.cons (.lit (.bl b)) r) .nil)
def aB : Ss := .cons (.asg 6 (.call 3 [.arg 0] (.cons mA (.nil)))) (.cons (.ifs t1 rF (.nil)) (.cons (.ifs (rC mA rr) rF (.nil)) (.nil)))
def t3 : C := .or (.cmp .ne (.xv (.mkx 34 (.var 3))) (.var 3)) (rC (.mkx 34 (.var 3)) (blC [false, false, true, false, false, true]))
def t4 : C := rC (.mkx 0 (.var 3)) (blC [true, true, false, false, false, false])
def r5 : C := .op .add (.op .mul (blC [false]) (.lit (.int (4)))) (blC [true, false])
def t5 : C := .or (.cmp .ne (.xv (.mkx 0 (.var 3))) (.var 3)) (rC (.mkx0 43) r5)
def vB : Ss := .cons (.asg 4 (.call 4 [.arg 0] (.cons (.var 3) (.nil)))) (.cons (.for1 (.range1 (.lit (.int (41)))) [5] true aB) (.cons (.ifs t3 rF (.nil)) (.cons (.ifs t4 rF (.nil)) (.cons (.ifs t5 rF (.nil)) (.nil)))))
def tkC (a : C) : C := .call 1 [.arg 0, .arg 1] (.cons (.var 2) (.cons a (.nil)))
def lL : C := .lst (.cons (tkC (.op .pow (.lit (.int (10))) (.lit (.int (9))))) (.cons (.sub (.lit (.str ⟨#[97, 98, 99, 100]⟩)) (tkC (.lit (.int (4))))) (.cons (.lit (.non)) (.nil))))
def lB : Ss := .cons (.asg 2 (.call 5 [.arg 0, .arg 1] (.cons (.var 0) (.cons (.var 1) (.nil))))) (.cons (.for1 (.seq lL) [3] true vB) (.nil))
def lM : C := .blt .max2 (.cons (.lit (.int (1))) (.cons (.blt .min2 (.cons (.blt .len (.cons (.var 0) (.nil))) (.cons (.lit (.int (3))) (.nil)))) (.nil)))
theorem law_code : c0 = .cons (.for1 (.range1 lM) [1] true lB) (.cons (.ret (.lit (.bl true))) (.nil)) := by rfl
def lσ (x1 x2 x3 x4 x5 x6 x7 : Option D) : Sl := [some (.ref 0), x1, x2, x3, x4, x5, x6, x7]
theorem KL_mem {n : Nat} (h : n < 41) : ∃ c, KL[n]? = some c ∧ c ∈ KL ∧ c < 44 := by
  have e : KL[n]? = some (KL[n]'h) := List.getElem?_eq_getElem h
  have m : KL[n]'h ∈ KL := List.getElem_mem h
  have all : ∀ c ∈ KL, c < 44 := by decide +kernel
  exact ⟨_, e, m, all _ m⟩
theorem KL_fil : ∀ n, n < 41 → (List.range 41).filter (fun a => decide (KL.getD n 0 = KL.getD a 0)) = [n] := by decide +kernel
theorem KL_roots : ∀ n, n < 41 → rB (KL.getD n 0) = [decide ((n : Int) < 33), decide ((n : Int) < 33), decide ((33 : Int) ≤ n) && decide ((n : Int) < 39), decide ((39 : Int) ≤ n), false, decide ((33 : Int) ≤ n) && decide ((n : Int) < 39)] := by decide +kernel
theorem range_41 : rangeL 0 41 = (List.range 41).map fun n => D.int (n : Nat) := by rfl
section
variable {S : Store} {v : D} {mk n : Nat} {ds : List D} {x1 x2 x7 : Option D}
/-- made[at] -/
theorem mA_ev {cf : Nat → List D → Store → Res D} (hm : S.get mk = some (.lst true ds)) (M : Mads S v KL ds) (hn : n < 41) (x6 : Option D) : ∃ d c, KL[n]? = some c ∧ c ∈ KL ∧ c < 44 ∧ Mad S v c d ∧ evC cf G mA (lσ x1 x2 (some v) (some (.ref mk)) (some (.int (n : Nat))) x6 x7) S = .ok d S := by
  obtain ⟨c, e, m, l⟩ := KL_mem hn
  obtain ⟨d, e2, M2⟩ := M.get e
  have hl : n < ds.length := (List.getElem?_eq_some_iff.mp e2).1
  exact ⟨d, c, e, m, l, M2, sub_ev (var_ev rfl) (var_ev rfl) hm ((atI_nat hl).trans e2)⟩
/-- [to for to in range(41) if kinds[to]] -/
theorem cC_ev {cf : Nat → List D → Store → Res D} {k c : Nat} (hw : S.w ≤ S.n) (hk : S.get k = some (.lst true (KL.map fun t => .bl (decide (c = t))))) (hn : n < 41) (hc : KL[n]? = some c) (x3 x4 x5 : Option D) :
    evC cf G cC (lσ x1 x2 x3 x4 x5 (some (.ref k)) x7) S = .ok (.ref S.n) (S.push (.lst true ([(n : Int)].map .int))) := by
  have e := comp_onX (cf := cf) (S0 := S) (S := S) (List.range 41) (fun n => D.int (n : Nat)) (fun a => (lσ x1 x2 x3 x4 x5 (some (.ref k)) (some (.int (a : Nat))))) (fun a => decide (c = KL.getD a 0)) (fun n => D.int (n : Nat)) (it := .range1 (.lit (.int (41)))) (tg := [7]) (one := true) (own := [7]) (ifs := .cons (.sub (.var 6) (.var 7)) (.nil)) (elt := .var 7) (σ := lσ x1 x2 x3 x4 x5 (some (.ref k)) x7) hw
    (by rw [List.length_range]; decide) (by
      rw [← range_41]
      rfl) (fun a _ S' => rfl) (fun a ha k' acc => by
      have hl : a < 41 := List.mem_range.mp ha
      have hl2 : a < (KL.map fun t => D.bl (decide (c = t))).length := by rw [List.length_map]; exact hl
      have e1 : evC cf G (.sub (.var 6) (.var 7)) (lσ x1 x2 x3 x4 x5 (some (.ref k)) (some (.int (a : Nat)))) (S.push (.bld k' acc)) = .ok (.bl (decide (c = KL.getD a 0))) (S.push (.bld k' acc)) := sub_ev (var_ev rfl) (var_ev rfl) (Store.get_push_some hk) (by
        rw [atI_nat hl2, List.getElem?_map, List.getD_eq_getElem?_getD, List.getElem?_eq_getElem (show a < KL.length from hl)]
        rfl)
      show (evC cf G (.sub (.var 6) (.var 7)) _ (S.push (.bld k' acc))).bind _ = _
      rw [e1]
      show (if decide (c = KL.getD a 0) then Res.ok true (S.push (.bld k' acc)) else .ok false (S.push (.bld k' acc))) = _
      cases decide (c = KL.getD a 0) <;> rfl) (fun a _ k' acc => var_ev rfl)
  have e2 : KL.getD n 0 = c := by rw [List.getD_eq_getElem?_getD, hc]; rfl
  have e3 := KL_fil n hn
  rw [e2] at e3
  rw [e3] at e
  exact e
theorem at_step (l : Nat) (hw : S.w ≤ S.n) (hv : Fv v) (hm : S.get mk = some (.lst true ds)) (M : Mads S v KL ds) (hn : n < 41) (x6 : Option D) :
    ∃ y6 S', exSs (cN (l + 1)) G aB (lσ x1 x2 (some v) (some (.ref mk)) (some (.int (n : Nat))) x6 x7) S = .ok (.nx (lσ x1 x2 (some v) (some (.ref mk)) (some (.int (n : Nat))) y6 x7)) S' ∧ Ext S S' := by
  obtain ⟨d, c, hc, hk, hl, D1, e1⟩ := mA_ev (cf := cN (l + 1)) (x1 := x1) (x2 := x2) (x7 := x7) hm M hn x6
  have e2 : KL.getD n 0 = c := by rw [List.getD_eq_getElem?_getD, hc]; rfl
  obtain ⟨k, S2, q2, X2, g2⟩ := kinds_ev l hw D1.cls hk
  have a1 := call_ev (cf := cN (l + 1)) (f := 3) (sh := [.arg 0]) (cs_cons e1 cs_nil) rfl q2
  have c1 := cC_ev (cf := cN (l + 1)) (x1 := x1) (x2 := x2) (x7 := x7) X2.w g2 hn hc (some v) (some (.ref mk)) (some (.int (n : Nat)))
  have X3 := X2.push' (.lst true ([(n : Int)].map .int))
  have c2 := lst_ev (cf := cN (l + 1)) (S := S2.push (.lst true ([(n : Int)].map .int))) (σ := lσ x1 x2 (some v) (some (.ref mk)) (some (.int (n : Nat))) (some (.ref k)) x7) (cs_cons (var_ev (i := 5) rfl) cs_nil) (show 1 ≤ sizeLine by decide)
  have X4 := X3.push' (.lst true [.int (n : Nat)])
  have c3 := cmp_ev (o := .ne) c1 c2 (ne_izs (cf := cN (l + 1)) (ns := [(n : Int)]) (ms := [(n : Int)]) (Store.get_push_some Store.get_push) Store.get_push (show 1 ≤ 63 by decide) rfl)
  obtain ⟨d', c', hc', hk', hl', D2, e3⟩ := mA_ev (cf := cN (l + 1)) (x1 := x1) (x2 := x2) (x7 := x7) (X4.g _ _ hm) (M.ext X4) hn (some (.ref k))
  have c4 := cmp_ev (o := .ne) (xv_ev e3 D2 (xs_self c' hk')) (var_ev (i := 3) rfl) (ne_fv (cf := cN (l + 1)) hv)
  have c5 : evC (cN (l + 1)) G t1 (lσ x1 x2 (some v) (some (.ref mk)) (some (.int (n : Nat))) (some (.ref k)) x7) S2 = _ := or_ff c3 c4
  obtain ⟨S5, c6, X5⟩ : ∃ S5, evC (cN (l + 1)) G (rC mA rr) (lσ x1 x2 (some v) (some (.ref mk)) (some (.int (n : Nat))) (some (.ref k)) x7) _ = .ok (.bl false) S5 ∧ Ext _ S5 := rne_ev l (r := rr) e3 (Ext.refl X4.w) D2.cls hl' (fun S2 h2 => by
    have z : c' = c := by rw [hc] at hc'; exact (Option.some.inj hc').symm
    have w := KL_roots n hn
    rw [e2] at w
    rw [z, w]
    exact ⟨_, _, lst_ev (cs_cons (cmp_ev (var_ev rfl) lit_ev (cm_lt _ _)) (cs_cons (cmp_ev (var_ev rfl) lit_ev (cm_lt _ _)) (cs_cons (cmp2l_ev lit_ev (var_ev rfl) lit_ev) (cs_cons (cmp_ev (var_ev rfl) lit_ev (cm_ge _ _)) (cs_cons lit_ev (cs_cons (cmp2l_ev lit_ev (var_ev rfl) lit_ev) cs_nil)))))) (by show 6 ≤ sizeLine; decide), Ext.push h2 _, Store.get_push⟩)
  refine ⟨some (.ref k), S5, ?_, X4.trans X5⟩
  show exSs (cN (l + 1)) G (.cons (.asg 6 (.call 3 [.arg 0] (.cons mA (.nil)))) (.cons (.ifs t1 rF (.nil)) (.cons (.ifs (rC mA rr) rF (.nil)) (.nil)))) _ S = _
  rw [ss_step (asg_ev a1)]
  show exSs (cN (l + 1)) G (.cons (.ifs t1 rF (.nil)) (.cons (.ifs (rC mA rr) rF (.nil)) (.nil))) (lσ x1 x2 (some v) (some (.ref mk)) (some (.int (n : Nat))) (some (.ref k)) x7) S2 = _
  rw [ifs_no c5, ifs_no c6]
  rfl
end
end Cd

namespace Cd
open PySem PySem.Spec PyProof.Rows L2 QD
theorem rB_34 : rB 34 = [false, false, true, false, false, true] := by decide +kernel
theorem rB_0 : rB 0 = [true, true, false, false, false, false] := by decide +kernel
theorem rB_43 : rB 43 = [false, false, false, false, true, false] := by decide +kernel
theorem r5_ev {cf : Nat → List D → Store → Res D} {σ : Sl} : ∀ S : Store, S.w ≤ S.n → ∃ j S3, evC cf G r5 σ S = .ok (.ref j) S3 ∧ Ext S S3 ∧ S3.get j = some (.lst true ([false, false, false, false, true, false].map .bl)) := fun S h => by
  obtain ⟨j, S1, e1, X1, g1⟩ := blL_ev (cf := cf) (σ := σ) [false] (by decide) S h
  have e2 : evC cf G (.op .mul (blC [false]) (.lit (.int (4)))) σ S = .ok (.ref S1.n) (S1.push (.lst true ([false, false, false, false].map .bl))) := by
    refine op_ev e1 lit_ev ?_
    unfold evBin
    rw [insL g1]
    dsimp only
    unfold evBinR
    show (match S1.get j with
      | some (.lst true x) => if (0 : Int) ≤ 4 ∧ (4 : Int) < 2 ^ 62 ∧ x.length * (4 : Int).toNat ≤ sizeLine then Res.ok (D.ref S1.n) (S1.push (.lst true (List.replicate (4 : Int).toNat x).flatten)) else .stuck
      | _ => .stuck).nox = _
    rw [g1]
    dsimp only
    rw [if_pos ⟨by decide, by decide, by show 1 * 4 ≤ sizeLine; decide⟩]
    rfl
  have X2 := X1.push' (.lst true ([false, false, false, false].map .bl))
  obtain ⟨k, S3, e3, X3, g3⟩ := blL_ev (cf := cf) (σ := σ) [true, false] (by decide) _ X2.w
  have gA : S3.get S1.n = some (.lst true ([false, false, false, false].map .bl)) := X3.g _ _ Store.get_push
  refine ⟨S3.n, S3.push (.lst true ([false, false, false, false].map .bl ++ [true, false].map .bl)), op_ev e2 e3 ?_, (X2.trans X3).push' _, Store.get_push⟩
  unfold evBin
  rw [insL gA]
  dsimp only
  unfold evBinR
  rw [insL g3]
  dsimp only
  show (match S3.get S1.n, S3.get k with
    | some (.lst true x), some (.lst true y) => if x.length + y.length ≤ sizeLine then Res.ok (D.ref S3.n) (S3.push (.lst true (x ++ y))) else .stuck
    | _, _ => .stuck).nox = _
  rw [gA, g3]
  dsimp only
  rw [if_pos (show (([false, false, false, false] : List Bool).map D.bl).length + (([true, false] : List Bool).map D.bl).length ≤ sizeLine by decide)]
  rfl
section
variable {S : Store} {v : D} {x1 x2 : Option D}
/-- C(value).value != value -/
theorem own_ne {cf : Nat → List D → Store → Res D} {c : Nat} {σ : Sl} (hw : S.w ≤ S.n) (hv : Fv v) (hσ : σ[3]? = some (some v)) (hc : (xs c c).isSome = true) : ∃ S', evC cf G (.cmp .ne (.xv (.mkx c (.var 3))) (.var 3)) σ S = .ok (.bl false) S' ∧ Ext S S' :=
  ⟨_, cmp_ev (xv_ev (mkx_ev (var_ev hσ)) mkx_mad hc) (var_ev hσ) (ne_fv hv), mkx_ext hw _ _⟩
theorem own_roots (l : Nat) {c : Nat} {bs : List Bool} {σ : Sl} (hw : S.w ≤ S.n) (hσ : σ[3]? = some (some v)) (hc : c < 44) (hb : rB c = bs) (hl : bs.length ≤ 1000) : ∃ S', evC (cN (l + 1)) G (rC (.mkx c (.var 3)) (blC bs)) σ S = .ok (.bl false) S' ∧ Ext S S' := by
  subst hb
  exact rne_ev l (mkx_ev (var_ev hσ)) (mkx_ext hw _ _) (mkx_mad (v := v)).cls hc (blL_ev _ hl)
theorem value_ev (l : Nat) (hw : S.w ≤ S.n) (hv : Fv v) (x4 x5 x6 x7 : Option D) : ∃ y4 y5 y6 S', exSs (cN (l + 2)) G vB (lσ x1 x2 (some v) x4 x5 x6 x7) S = .ok (.nx (lσ x1 x2 (some v) y4 y5 y6 x7)) S' ∧ Ext S S' := by
  obtain ⟨m, ds, S1, e1, X1, g1, M1⟩ := made_ev l hw v
  have a1 := call_ev (cf := cN (l + 2)) (f := 4) (sh := [.arg 0]) (σ := lσ x1 x2 (some v) x4 x5 x6 x7) (cs_cons (var_ev (i := 3) rfl) cs_nil) rfl e1
  obtain ⟨σ', S2, e2, ⟨y5, y6, hσ⟩, X2⟩ := loop_fix (I := fun σ S' => (∃ y5 y6, σ = lσ x1 x2 (some v) (some (.ref m)) y5 y6 x7) ∧ Ext S1 S') (body := fun x σ1 S2 => (Res.of (bindT S2 true [5] σ1 x) S2).bind fun σ2 S3 => exSs (cN (l + 2)) G aB σ2 S3) (rangeL 0 41) (fun d hd σ S' ⟨⟨y5, y6, hσ⟩, X⟩ => by
    obtain ⟨k, rfl, k0, k1⟩ := mem_range _ _ hd
    obtain ⟨n, rfl⟩ := Int.eq_ofNat_of_zero_le k0
    subst hσ
    obtain ⟨z6, S'', e, X'⟩ := at_step (l + 1) (x1 := x1) (x2 := x2) (x7 := x7) X.w hv (X.g _ _ g1) (M1.ext X) (show n < 41 by omega) y6
    exact ⟨lσ x1 x2 (some v) (some (.ref m)) (some (.int (n : Nat))) z6 x7, S'', e, ⟨_, _, rfl⟩, X.trans X'⟩) (lσ x1 x2 (some v) (some (.ref m)) x5 x6 x7) S1 ⟨⟨_, _, rfl⟩, Ext.refl X1.w⟩
  subst hσ
  have f2 : exS (cN (l + 2)) G (.for1 (.range1 (.lit (.int (41)))) [5] true aB) (lσ x1 x2 (some v) (some (.ref m)) x5 x6 x7) S1 = .ok (.nx (lσ x1 x2 (some v) (some (.ref m)) y5 y6 x7)) S2 := (for_range lit_ev (by decide)).trans e2
  obtain ⟨S3, e3, X3⟩ := own_ne (cf := cN (l + 2)) (c := 34) (σ := lσ x1 x2 (some v) (some (.ref m)) y5 y6 x7) X2.w hv rfl (by decide +kernel)
  obtain ⟨S4, e4, X4⟩ := own_roots (l + 1) (c := 34) (σ := lσ x1 x2 (some v) (some (.ref m)) y5 y6 x7) X3.w rfl (by decide) rB_34 (by decide)
  have h3 : evC (cN (l + 2)) G t3 (lσ x1 x2 (some v) (some (.ref m)) y5 y6 x7) S2 = .ok (.bl false) S4 := or_ff e3 e4
  obtain ⟨S5, e5, X5⟩ := own_roots (l + 1) (c := 0) (σ := lσ x1 x2 (some v) (some (.ref m)) y5 y6 x7) X4.w rfl (by decide) rB_0 (by decide)
  have h4 : evC (cN (l + 2)) G t4 (lσ x1 x2 (some v) (some (.ref m)) y5 y6 x7) S4 = .ok (.bl false) S5 := e5
  obtain ⟨S6, e6, X6⟩ := own_ne (cf := cN (l + 2)) (c := 0) (σ := lσ x1 x2 (some v) (some (.ref m)) y5 y6 x7) X5.w hv rfl (by decide +kernel)
  have q7 : evC (cN (l + 2)) G (.mkx0 43) (lσ x1 x2 (some v) (some (.ref m)) y5 y6 x7) S6 = .ok (.ref S6.n) (S6.push (.exo 43 none)) := rfl
  have c7 : exCls (S6.push (.exo 43 none)) (.ref S6.n) = some 43 := by
    show (match (S6.push (.exo 43 none)).get S6.n with
      | some (.exo c none) => some c
      | some (.exo c (some d)) => (match (S6.push (.exo 43 none)).get d with
        | some (.xd _ _) => some c
        | _ => none)
      | _ => none) = _
    rw [Store.get_push]
  obtain ⟨S7, e7, X7⟩ := rne_ev (l + 1) (r := r5) q7 (Ext.push X6.w _) c7 (by decide) (fun S2 h2 => by rw [rB_43]; exact r5_ev S2 h2)
  have h5 : evC (cN (l + 2)) G t5 (lσ x1 x2 (some v) (some (.ref m)) y5 y6 x7) S5 = .ok (.bl false) S7 := or_ff e6 e7
  refine ⟨some (.ref m), y5, y6, S7, ?_, ((((((X1.trans X2).trans X3).trans X4).trans X5).trans X6)).trans X7⟩
  unfold vB
  rw [ss_step (asg_ev a1)]
  show exSs (cN (l + 2)) G _ (lσ x1 x2 (some v) (some (.ref m)) x5 x6 x7) S1 = _
  rw [ss_step f2, ifs_no h3, ifs_no h4, ifs_no h5]
  rfl
end
theorem chr_ev {cf : Nat → List D → Store → Res D} {b : C} {σ : Sl} {S S1 : Store} {r : Int} (h : evC cf G b σ S = .ok (.int r) S1) (h0 : 0 ≤ r) (h1 : r < 4) : ∃ z, evC cf G (.sub (.lit (.str ⟨#[97, 98, 99, 100]⟩)) b) σ S = .ok (.str z) S1 := by
  have hr : r = 0 ∨ r = 1 ∨ r = 2 ∨ r = 3 := by omega
  have e : ∀ q : Option D, evSub S1 G (.str ⟨#[97, 98, 99, 100]⟩) (.int r) = q → evC cf G (.sub (.lit (.str ⟨#[97, 98, 99, 100]⟩)) b) σ S = Res.of q S1 := fun q hq => by
    show (evC cf G b σ S).bind _ = _
    rw [h]
    show Res.of (evSub S1 G (.str ⟨#[97, 98, 99, 100]⟩) (.int r)) S1 = _
    rw [hq]
  rcases hr with rfl | rfl | rfl | rfl
  · exact ⟨_, e (some (.str ⟨#[97]⟩)) rfl⟩
  · exact ⟨_, e (some (.str ⟨#[98]⟩)) rfl⟩
  · exact ⟨_, e (some (.str ⟨#[99]⟩)) rfl⟩
  · exact ⟨_, e (some (.str ⟨#[100]⟩)) rfl⟩
theorem pow_ev {cf : Nat → List D → Store → Res D} {σ : Sl} {S : Store} : evC cf G (.op .pow (.lit (.int (10))) (.lit (.int (9)))) σ S = .ok (.int 1000000000) S := op_ev lit_ev lit_ev (vi_pow 10 9 (by decide) (by decide) (by decide))
theorem turn {S : Store} {w : Bool} {ns : List Int} (l : Nat) (hS : S.w ≤ S.n) (hz : S.get 0 = some (.lst w (ns.map .int))) {k : Int} (hk : 0 ≤ k ∧ k < 100) (x2 x3 x4 x5 x6 x7 : Option D) :
    ∃ y2 y3 y4 y5 y6 y7 S', exSs (cN (l + 2)) G lB (lσ (some (.int k)) x2 x3 x4 x5 x6 x7) S = .ok (.nx (lσ (some (.int k)) y2 y3 y4 y5 y6 y7)) S' ∧ S'.get 0 = some (.lst w (ns.map .int)) ∧ S'.w ≤ S'.n := by
  obtain ⟨a', b', e0⟩ := ev_pool (l + 1) S hS 0 w ns k hk hz
  have X1 := Ext.push hS (.lst true [.int a', .int b'])
  have hp1 : ∃ x y, (S.push (.lst true [.int a', .int b'])).get S.n = some (.lst true [.int x, .int y]) := ⟨a', b', Store.get_push⟩
  have z0 : 0 ≠ S.n := Nat.ne_of_lt (Store.lt hz)
  have a1 : exS (cN (l + 2)) G (.asg 2 (.call 5 [.arg 0, .arg 1] (.cons (.var 0) (.cons (.var 1) (.nil))))) (lσ (some (.int k)) x2 x3 x4 x5 x6 x7) S = .ok (.nx (lσ (some (.int k)) (some (.ref S.n)) x3 x4 x5 x6 x7)) (S.push (.lst true [.int a', .int b'])) :=
    asg_ev (call_ev (cs_cons (var_ev rfl) (cs_cons (var_ev rfl) cs_nil)) rfl e0)
  generalize S.push (.lst true [.int a', .int b']) = S1 at X1 hp1 a1
  have h01 := X1.g _ _ hz
  generalize S.n = p at *
  obtain ⟨r, S2, q1, P1, r0, r1⟩ := ev_takeP (l + 1) S1 X1.w p hp1 1000000000 (by decide) (by decide)
  obtain ⟨s, S3, q2, P2, s0, s1⟩ := ev_takeP (l + 1) S2 P1.w p P1.pl 4 (by decide) (by decide)
  have c1 : evC (cN (l + 2)) G (tkC (.op .pow (.lit (.int (10))) (.lit (.int (9))))) (lσ (some (.int k)) (some (.ref p)) x3 x4 x5 x6 x7) S1 = .ok (.int r) S2 := call_ev (cs_cons (var_ev rfl) (cs_cons pow_ev cs_nil)) rfl q1
  have c2 : evC (cN (l + 2)) G (tkC (.lit (.int (4)))) (lσ (some (.int k)) (some (.ref p)) x3 x4 x5 x6 x7) S2 = .ok (.int s) S3 := call_ev (cs_cons (var_ev rfl) (cs_cons lit_ev cs_nil)) rfl q2
  obtain ⟨z, c3⟩ := chr_ev c2 s0 s1
  have c4 : evC (cN (l + 2)) G lL (lσ (some (.int k)) (some (.ref p)) x3 x4 x5 x6 x7) S1 = .ok (.ref S3.n) (S3.push (.lst true [.int r, .str z, .non])) := lst_ev (cs_cons c1 (cs_cons c3 (cs_cons lit_ev cs_nil))) (by show 3 ≤ sizeLine; decide)
  have P3 := (P1.trans P2).ext (Ext.push P2.w (.lst true [.int r, .str z, .non]))
  have gt : (S3.push (.lst true [.int r, .str z, .non])).get S3.n = some (.lst true [.int r, .str z, .non]) := Store.get_push
  generalize S3.n = t at *
  generalize S3.push (.lst true [.int r, .str z, .non]) = S4 at P3 gt c4
  obtain ⟨σ', S5, e5, ⟨y3, y4, y5, y6, hσ⟩, X5⟩ := loop_live (I := fun σ S' => (∃ y3 y4 y5 y6, σ = lσ (some (.int k)) (some (.ref p)) y3 y4 y5 y6 x7) ∧ Ext S4 S') (body := fun x σ1 S2 => (Res.of (bindT S2 true [3] σ1 x) S2).bind fun σ2 S3 => exSs (cN (l + 2)) G vB σ2 S3) (t := t) (w := true) (items := [.int r, .str z, .non]) (fun σ S' h => h.2.g _ _ gt) (fun x hx σ S' ⟨⟨y3, y4, y5, y6, hσ⟩, X⟩ => by
    have hv : Fv x := by
      rcases List.mem_cons.mp hx with rfl | hx
      · exact .inl ⟨_, rfl⟩
      · rcases List.mem_cons.mp hx with rfl | hx
        · exact .inr (.inl ⟨_, rfl⟩)
        · rcases List.mem_cons.mp hx with rfl | hx
          · exact .inr (.inr rfl)
          · cases hx
    subst hσ
    obtain ⟨z4, z5, z6, S'', e, X'⟩ := value_ev l (x1 := some (.int k)) (x2 := some (.ref p)) X.w hv y4 y5 y6 x7
    exact ⟨_, S'', e, ⟨_, _, _, _, rfl⟩, X.trans X'⟩) 3 0 (lσ (some (.int k)) (some (.ref p)) x3 x4 x5 x6 x7) S4 rfl ⟨⟨_, _, _, _, rfl⟩, Ext.refl P3.w⟩
  subst hσ
  have PF := P3.ext X5
  refine ⟨some (.ref p), y3, y4, y5, y6, x7, S5, ?_, PF.g _ _ z0 h01, PF.w⟩
  unfold lB
  rw [ss_step a1, ss_step ((for_live c4 gt).trans e5)]
  rfl
theorem law_ev (b : Bool) (ns : List Int) : okT (callN G (tabJ T) 4 0 [.ref 0] ⟨1, [.lst b (ns.map .int)], 0⟩) = true := by
  rw [ev_call (fn := ⟨1, 8, c0⟩) rfl rfl]
  let S : Store := (⟨1, [.lst b (ns.map .int)], 0⟩ : Store).fr
  have hS : S.w ≤ S.n := Nat.le_refl _
  have h0 : S.get 0 = some (.lst b (ns.map .int)) := rfl
  have hj : ∃ j : Int, evC (cN 3) G lM (lσ none none none none none none none) S = .ok (.int j) S ∧ 0 ≤ j ∧ j < 100 := by
    have el : evC (cN 3) G (.blt .len (.cons (.var 0) .nil)) (lσ none none none none none none none) S = .ok (.int (ns.map D.int).length) S := by
      show ((evC (cN 3) G (.var 0) (lσ none none none none none none none) S).bind fun d S1 => (evCs (cN 3) G .nil _ S1).bind fun ds S2 => .ok (d :: ds) S2).bind _ = _
      rfl
    obtain ⟨L, hL⟩ : ∃ L : Int, L = (ns.map D.int).length := ⟨_, rfl⟩
    have hL0 : 0 ≤ L := by omega
    rw [← hL] at el
    have e4 : evC (cN 3) G (.blt .min2 (.cons (.blt .len (.cons (.var 0) .nil)) (.cons (.lit (.int (3))) .nil))) (lσ none none none none none none none) S = .ok (.int (if 3 < L then 3 else L)) S := by
      show (evCs (cN 3) G _ _ S).bind _ = _
      rw [cs_cons el (cs_cons lit_ev cs_nil)]
      rfl
    refine ⟨if (if 3 < L then 3 else L) > 1 then (if 3 < L then 3 else L) else 1, ?_, ?_, ?_⟩
    · show (evCs (cN 3) G _ _ S).bind _ = _
      rw [cs_cons lit_ev (cs_cons e4 cs_nil)]
      rfl
    · split <;> (try split) <;> omega
    · split <;> (try split) <;> omega
  obtain ⟨j, ej, j0, j1⟩ := hj
  obtain ⟨σ', S', e, _⟩ := loop_fix (I := fun σ S' => (∃ x1 x2 x3 x4 x5 x6 x7, σ = lσ x1 x2 x3 x4 x5 x6 x7) ∧ S'.get 0 = some (.lst b (ns.map .int)) ∧ S'.w ≤ S'.n) (body := fun x σ1 S2 => (Res.of (bindT S2 true [1] σ1 x) S2).bind fun σ2 S3 => exSs (cN 3) G lB σ2 S3) (rangeL 0 j.toNat) (fun d hd σ S' ⟨⟨x1, x2, x3, x4, x5, x6, x7, hσ⟩, q0, qw⟩ => by
    obtain ⟨k, rfl, k0, k1⟩ := mem_range _ _ hd
    subst hσ
    obtain ⟨z2, z3, z4, z5, z6, z7, S'', e, g, w'⟩ := turn (l := 1) qw q0 (k := k) ⟨k0, by omega⟩ x2 x3 x4 x5 x6 x7
    exact ⟨lσ (some (.int k)) z2 z3 z4 z5 z6 z7, S'', e, ⟨_, _, _, _, _, _, _, rfl⟩, g, w'⟩) (lσ none none none none none none none) S ⟨⟨_, _, _, _, _, _, _, rfl⟩, h0, hS⟩
  show okT ((exSs (cN 3) G c0 (lσ none none none none none none none) S).nox.bind _) = true
  rw [law_code, ss_step ((for_range ej (by omega)).trans e), ss_ret lit_ev]
  show okT (leave _ (.bl true) S') = true
  rw [leaveI]
  split <;> rfl
end Cd

namespace Cd
open PySem PySem.Spec PyProof.Rows L2 QD
theorem sp_cell {K : PySem.W.Frag} {L : Pl} {lv : Nat} {H : Hp} {a : Addr} {ns : List Int} {b : Bool} (ht : ∀ t ∈ L.tbs, H t.1 = some (.tbl #[])) (hc : CellOk K L H (fun _ => a) 1 a (.lst b (ns.map .int))) (e : okT (callN G (tabJ T) lv 0 [.ref 0] ⟨1, [.lst b (ns.map .int)], 0⟩) = true) :
    spD K L (callN G (tabJ T) lv) 0 1 [.ref a] H (fun v _ => v = .bl true) fun _ _ _ => False := by
  obtain ⟨S', e⟩ := okT_ok e
  refine ⟨fun _ => a, ⟨1, [.lst b (ns.map .int)], 0⟩, [.ref 0], rfl, ⟨fun i c h => ?_, fun i j c d h1 h2 m1 m2 q => ?_, fun t m => LamX.TabS.nil (ht t m), fun t m ps pos c i d h1 h2 => ?_⟩, RpL.cons ⟨Nat.lt_succ_self 0, rfl⟩ RpL.nil, Res.Good.ok e fun ρ' H' v n p => p⟩
  · have hi : i = 0 := by
      have := Store.lt h
      have h2 : i < 1 := this
      omega
    subst hi
    cases (show some (Cell.lst b (ns.map .int)) = some c from h)
    exact hc
  · have hi : i = 0 := by
      have := Store.lt h1
      have h2 : i < 1 := this
      omega
    have hj : j = 0 := by
      have := Store.lt h2
      have h2 : j < 1 := this
      omega
    rw [hi, hj]
  · rw [ht t m] at h1
    cases h1
    simp [codeAmong] at h2
theorem law_sp {K : PySem.W.Frag} {L : Pl} {lv : Nat} {H : Hp} {a : Addr} {ns : List Int} (ht : ∀ t ∈ L.tbs, H t.1 = some (.tbl #[])) (hS : SqL K H a (ns.map V.int)) (e : ∀ b : Bool, okT (callN G (tabJ T) lv 0 [.ref 0] ⟨1, [.lst b (ns.map .int)], 0⟩) = true) :
    spD K L (callN G (tabJ T) lv) 0 1 [.ref a] H (fun v _ => v = .bl true) fun _ _ _ => False := by
  have r : RpL K L H (fun _ => a) 1 (ns.map D.int) (ns.map V.int) := RpL.of_forall (f := D.int) (g := V.int) fun x _ => rfl
  rcases hS with (h | ⟨o, h⟩) | h
  · exact sp_cell (b := true) ht ⟨_, h, r⟩ (e true)
  · exact sp_cell (b := false) ht ⟨_, .inl ⟨o, h⟩, r⟩ (e false)
  · exact sp_cell (b := false) ht ⟨_, .inr h, r⟩ (e false)
theorem tbs_at {K : PySem.W.Frag} {H : Hp} (h : ∀ q ∈ csOf K (mkA K), H q.2 = some (.tbl #[])) : ∀ t ∈ (Lk K).tbs, H t.1 = some (.tbl #[]) := fun t m => by
  have e : (Lk K).tbs.map (·.1) = (csOf K (mkA K)).map (·.2) := rfl
  have m2 : t.1 ∈ (csOf K (mkA K)).map (·.2) := by
    rw [← e]
    exact List.mem_map.mpr ⟨t, m, rfl⟩
  obtain ⟨q, hq, e2⟩ := List.mem_map.mp m2
  rw [← e2]
  exact h q hq
theorem cs_hd {K : PySem.W.Frag} {h : Heap} (KX : K.In h) (e : (mkA K).all (mkrB K) = true) : ∀ q ∈ csOf K (mkA K), PySem.W.CodeHd h q.1 q.2 := fun q hq => by
  obtain ⟨f, hf, e2⟩ := List.mem_map.mp hq
  rw [← e2]
  exact PySem.W.codeHd_of_K KX (mkrB_ok (List.all_eq_true.mp e f hf)).2
end Cd
open PySem PySem.W PySem.Calls PyProof.Rows
theorem PySem.Challenge.cw_signskept_k05_exceptions_apart_holds : PySem.Challenge.rw_signskept_k05_exceptions_apart.Holds := by
  w_on; o_law
  refine HandSHeadRun.head_any (r := OpenLaw.row PySem.Challenge.rw_signskept_k05_exceptions_apart) (q := view (OpenLaw.row PySem.Challenge.rw_signskept_k05_exceptions_apart).prog [52]) (H := Cd.hk) (ob := Cd.ob) (M := 20000) (loose := Cd.names) (d := HandSHeadRun.topDef (OpenLaw.row PySem.Challenge.rw_signskept_k05_exceptions_apart).prog 52) (kwd := []) Cd.ob_eq
    (by kernel_rfl) (fun s => by kernel_rfl) Cd.run (by kernel_rfl) (by kernel_rfl) (by kernel_rfl) (by rfl) (by first | assumption | decide +kernel) (by decide +kernel) ⟨rfl, rfl, rfl, rfl, rfl, by decide +kernel⟩ ?hw ?hc
  case hw => w_witness2
  case hc =>
    refine LamX.walk_ofTsE (l := PySem.Challenge.rw_signskept_k05_exceptions_apart) (n := 63) (k := 16) (x := "script") (CX := fun w => L2.CX (PySem.Challenge.rw_signskept_k05_exceptions_apart).prog w) rfl (by decide) (by kernel_rfl) ⟨rfl, by decide, by decide⟩ ?F (fun _ _ _ _ _ ⟨_, _, _, _, _, _, _, _, _, _, _, _, z⟩ => z)
    intro w mg fa h Y G hmg0
    obtain ⟨K, KX, c, tb⟩ := Y
    have hmg : mg ("law" : PySem.Str) = some (.ref fa) := by
      have e : (HandSHeadRun.topDef (OpenLaw.row PySem.Challenge.rw_signskept_k05_exceptions_apart).prog 52).name = ("law" : PySem.Str) := by kernel_rfl
      rw [← e]
      exact hmg0
    obtain ⟨fd, F⟩ := c.def_ 0 (d := Cd.f0) rfl
    have e := hmg.symm.trans (He.glo_ok KX G (c.fact 0 (f := .glo (PySem.Str.ofString "law")) rfl))
    cases e
    have b := L2.FunD.bindsA (ps := Cd.p0) F fun _ _ _ _ _ _ us hl => match us, hl with | [_], _ => rfl
    refine ⟨K, KX, fd, QD.csOf K (Cd.mkA K), QD.spD K (Cd.Lk K) (QD.callN Cd.G (QD.tabJ Cd.T) 4) 0 1, fun p hp => (tb p hp).1, fun p hp => (tb p hp).2, Cd.cs_hd KX (Cd.mk_all c).1, fun s v => b s [v] rfl, fun H a ns hl hbits hcs hS => Cd.law_sp (Cd.tbs_at hcs) hS fun b => Cd.law_ev b ns, fun base HK HG hT => Cd.levels HK HG c hT 4 0 Cd.j0 fd rfl rfl F⟩
