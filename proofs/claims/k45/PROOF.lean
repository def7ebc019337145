import PyProof.Rows.All
import Wide.All
import OpenK.AllK
import Wide.FinOn
import PyProof.ReprReads
import PyProof.P3Statements
import PyProof.EqLayable
import HandS.ForMost
import HandS.ForExc
import HandS.Lambda
import HandS.Defaults
import HandS.TupAny
import HandS.Deep
import HandS.IsInst
import HandS.RaiseMore
import HandS.Steps
import HandS.Star
import HandS.ClsMeth
import HandS.Property
import PyProof.CallFns
import HandS.TupSets
import HandS.HeadEnd
import HandS.HeadHook1
import HandS.HeadHook2
import HandS.Ends
import HandS.FStr
import HandS.Text
import HandS.Dict
import HandS.DictComp
import HandS.TupMul
import KE.GoesMore
import PyProof.Draws
import PyProof.EnumMake
import PyProof.SliceList
import KE.KRevSl
import KE.DataMinMax
import HandS.SortKw
import HandS.Flow
import HandS.Style
import HandS.SetFor
import HandS.SortInts
import HandS.SortOrd
import KE.LtData
import HandS.Iter
import PyProof.MinMaxWalk
import KE.KIndexOf
import HandS.HeadHook4
import HandS.EndBits
import HandS.More
import HandS.OwnEq
import KE.DataFind
import HandS.GenCall
import PyProof.ForAny
import HandS.GenList
import HandS.Words
import KE.KStateDown
import HandS.Head0
import HandS.Head1
import HandS.Head2
import PyProof.Rows.StrFit
import PyProof.ReprDict
import PyProof.ReprLen
import PySem.Challenge.RW_burstlimits_k45_whole_gates_one_behind_t
section
set_option linter.all false
/-! A small language of values, heap and results, and what each construct of the program does in it. -/
namespace FL

/-- immutable values; ref: a place of the heap; scr: the script -/
inductive D where
  | non | bl (b : Bool) | int (i : Int) | str (s : List Nat) | tup (xs : List D) | ref (n : Nat)
  | scr (xs : List Int) | clo (k : Nat) (xs : List D) | exn (c : Nat) (xs : List (PySem.Str × D)) | gls (c : Nat)
  deriving Inhabited
inductive Cell where
  | lst (xs : List D) | ins (c : Nat) (fs : List (PySem.Str × D)) | dct (kvs : List (Sum Int (List Nat) × D)) | tbl (q : PySem.Str)
  deriving Inhabited
abbrev H := List Cell
abbrev Loc := List (Option D)
inductive Res (α : Type) where
  | ok (a : α) (h : H) | ex (c : Nat) (fs : List (PySem.Str × D)) (h : H) | bad
def Res.bind {α β : Type} (r : Res α) (f : α → H → Res β) : Res β := match r with
  | .ok a h => f a h
  | .ex c fs h => .ex c fs h
  | .bad => .bad
@[simp] theorem bind_ok {α β : Type} (a : α) (h : H) (f : α → H → Res β) : (Res.ok a h).bind f = f a h := rfl
@[simp] theorem bind_ex {α β : Type} (c : Nat) (fs : List (PySem.Str × D)) (h : H) (f : α → H → Res β) : (Res.ex c fs h : Res α).bind f = .ex c fs h := rfl
@[simp] theorem bind_bad {α β : Type} (f : α → H → Res β) : (Res.bad : Res α).bind f = .bad := rfl
/-- the longest list that is made -/
def LIM : Nat := 50000
/-- expressions, tests, argument lists; statements -/
abbrev E := Loc → H → Res D
abbrev T := Loc → H → Res Bool
abbrev A := Loc → H → Res (List D)
abbrev F := List D → H → Res D
inductive SR where
  | nx (l : Loc) (h : H) | rt (d : D) (h : H) | bk (l : Loc) (h : H) | ct (l : Loc) (h : H) | ex (c : Nat) (fs : List (PySem.Str × D)) (l : Loc) (h : H) | bad
abbrev S := Loc → H → SR

/-! ### expressions -/
def eVar (i : Nat) : E := fun l h => match l[i]? with
  | some (some d) => .ok d h
  | _ => .bad
def eC (d : D) : E := fun _ h => .ok d h
def eBin (f : D → D → H → Res D) (a b : E) : E := fun l h => (a l h).bind fun x h1 => (b l h1).bind fun y h2 => f x y h2
def eUn (f : D → H → Res D) (a : E) : E := fun l h => (a l h).bind fun x h1 => f x h1
def aNil : A := fun _ h => .ok [] h
def aCons (a : E) (r : A) : A := fun l h => (a l h).bind fun x h1 => (r l h1).bind fun xs h2 => .ok (x :: xs) h2
/-- a call by values -/
def eCall (f : F) (a : A) : E := fun l h => (a l h).bind fun xs h1 => f xs h1
/-- o.m(..) -/
def eMeth (f : D → F) (o : E) (a : A) : E := fun l h => (o l h).bind fun x h1 => (a l h1).bind fun xs h2 => f x xs h2
def eTup (a : A) : E := fun l h => (a l h).bind fun xs h1 => if xs.length ≤ LIM then .ok (.tup xs) h1 else .bad
def alloc (c : Cell) (h : H) : Res D := .ok (.ref h.length) (h ++ [c])
def eLst (a : A) : E := fun l h => (a l h).bind fun xs h1 => if xs.length ≤ LIM then alloc (.lst xs) h1 else .bad
def eIf (t : T) (a b : E) : E := fun l h => (t l h).bind fun c h1 => if c = true then a l h1 else b l h1
def eNot (a : E) : E := fun l h => (a l h).bind fun x h1 => match x with
  | .bl b => .ok (.bl (!b)) h1
  | _ => .bad
def eAnd (a b : E) : E := fun l h => (a l h).bind fun x h1 => match x with
  | .bl true => b l h1
  | .bl false => .ok (.bl false) h1
  | _ => .bad
def eOr (a b : E) : E := fun l h => (a l h).bind fun x h1 => match x with
  | .bl true => .ok (.bl true) h1
  | .bl false => b l h1
  | _ => .bad
/-- a < b < c -/
def eChain (f g : D → D → H → Res D) (a b c : E) : E := fun l h => (a l h).bind fun x h1 => (b l h1).bind fun y h2 => (f x y h2).bind fun r h3 => match r with
  | .bl true => (c l h3).bind fun z h4 => g y z h4
  | .bl false => .ok (.bl false) h3
  | _ => .bad

/-! ### tests -/
def truth (d : D) (h : H) : Option Bool := match d with
  | .non => some false
  | .bl b => some b
  | .int i => some (i != 0)
  | .str s => if s.length ≤ LIM then some (!s.isEmpty) else none
  | .tup xs => some (!xs.isEmpty)
  | .scr xs => some (!xs.isEmpty)
  | .ref n => match h[n]? with
    | some (.lst xs) => some (!xs.isEmpty)
    | _ => none
  | _ => none
def tTruth (a : E) : T := fun l h => (a l h).bind fun x h1 => match truth x h1 with
  | some b => .ok b h1
  | none => .bad
/-- a value that is a bool -/
def tVal (a : E) : T := fun l h => (a l h).bind fun x h1 => match x with
  | .bl b => .ok b h1
  | _ => .bad
def tAnd (a b : T) : T := fun l h => (a l h).bind fun c h1 => if c = true then b l h1 else .ok false h1
def tOr (a b : T) : T := fun l h => (a l h).bind fun c h1 => if c = true then .ok true h1 else b l h1
def tNot (a : T) : T := fun l h => (a l h).bind fun c h1 => .ok (!c) h1
def tYes : T := fun _ h => .ok true h

/-! ### statements -/
def sNext : S := fun l h => .nx l h
def sSeq (a b : S) : S := fun l h => match a l h with
  | .nx l' h' => b l' h'
  | r => r
def ofRes {α : Type} (l : Loc) (r : Res α) (k : α → H → SR) : SR := match r with
  | .ok a h => k a h
  | .ex c fs h => .ex c fs l h
  | .bad => .bad
def sDrop (a : E) : S := fun l h => ofRes l (a l h) fun _ h' => .nx l h'
def sRet (a : E) : S := fun l h => ofRes l (a l h) fun d h' => .rt d h'
def sRetN : S := fun _ h => .rt .non h
def sBreak : S := fun l h => .bk l h
def sCont : S := fun l h => .ct l h
def sNever : S := fun _ _ => .bad
def sIf (t : T) (a b : S) : S := fun l h => ofRes l (t l h) fun c h' => if c = true then a l h' else b l h'
/-- targets -/
abbrev G := D → Loc → H → Option (Loc × H)
abbrev Gs := List D → Loc → H → Option (Loc × H)
def gName (i : Nat) : G := fun d l h => some (l.set i (some d), h)
def gNil : Gs := fun ds l h => match ds with
  | [] => some (l, h)
  | _ => none
def gCons (g : G) (r : Gs) : Gs := fun ds l h => match ds with
  | d :: ds => (match g d l h with
    | some (l', h') => r ds l' h'
    | none => none)
  | [] => none
def gTup (n : Nat) (g : Gs) : G := fun d l h => match d with
  | .tup xs => if xs.length = n then g xs l h else none
  | _ => none
/-- o[i] = d of a list -/
def setAt (o i d : D) (h : H) : Option H := match o, i with
  | .ref n, .int k => (match h[n]? with
    | some (.lst xs) => if 0 ≤ k ∧ k < xs.length then some (h.set n (.lst (xs.set k.toNat d))) else none
    | _ => none)
  | _, _ => none
def gSub (o i : E) : G := fun d l h => match o l h with
  | .ok x h1 => (match i l h1 with
    | .ok k h2 => (match setAt x k d h2 with
      | some h3 => some (l, h3)
      | none => none)
    | _ => none)
  | _ => none
def sAsg (a : E) (g : G) : S := fun l h => ofRes l (a l h) fun d h' => match g d l h' with
  | some (l2, h2) => .nx l2 h2
  | none => .bad
/-- a, b = x, y (two plain local names) -/
def sPar (i j : Nat) (a : A) : S := fun l h => ofRes l (a l h) fun ds h' => match ds with
  | [x, y] => .nx ((l.set i (some x)).set j (some y)) h'
  | _ => .bad

/-! ### loops -/
/-- what is walked: values that stand, or a list as it stands at each turn -/
inductive It where
  | snap (xs : List D) | live (n : Nat) | dyn (f : H → Option (List D)) (k : Nat)
abbrev W := Loc → H → Res It
def turnS (g : G) (b : S) (d : D) : S := fun l h => match g d l h with
  | some (l1, h1) => b l1 h1
  | none => .bad
def loopS (g : G) (b : S) : List D → S
  | [] => sNext
  | d :: ds => fun l h => match turnS g b d l h with
    | .nx l2 h2 => loopS g b ds l2 h2
    | .ct l2 h2 => loopS g b ds l2 h2
    | .bk l2 h2 => .nx l2 h2
    | r => r
def loopL (g : G) (b : S) (n : Nat) : Nat → Nat → S
  | 0, _ => sNever
  | f + 1, i => fun l h => match h[n]? with
    | some (.lst xs) => (match xs[i]? with
      | none => .nx l h
      | some d => match turnS g b d l h with
        | .nx l2 h2 => loopL g b n f (i + 1) l2 h2
        | .ct l2 h2 => loopL g b n f (i + 1) l2 h2
        | .bk l2 h2 => .nx l2 h2
        | r => r)
    | _ => .bad
/-- .. of what is reckoned anew at each turn -/
def loopD (g : G) (b : S) (f : H → Option (List D)) : Nat → Nat → S
  | 0, _ => sNever
  | k + 1, i => fun l h => match f h with
    | some xs => (match xs[i]? with
      | none => .nx l h
      | some d => match turnS g b d l h with
        | .nx l2 h2 => loopD g b f k (i + 1) l2 h2
        | .ct l2 h2 => loopD g b f k (i + 1) l2 h2
        | .bk l2 h2 => .nx l2 h2
        | r => r)
    | none => .bad
def lenAt (h : H) (n : Nat) : Nat := match h[n]? with
  | some (.lst xs) => xs.length
  | _ => 0
def sFor (w : W) (g : G) (b : S) : S := fun l h => ofRes l (w l h) fun it h' => match it with
  | .snap xs => loopS g b xs l h'
  | .live n => loopL g b n (lenAt h' n + 1) 0 l h'
  | .dyn f k => loopD g b f k 0 l h'
def wSeq (a : E) : W := fun l h => (a l h).bind fun d h1 => match d with
  | .tup xs => .ok (.snap xs) h1
  | .scr xs => .ok (.snap (xs.map .int)) h1
  | .ref n => (match h1[n]? with
    | some (.lst _) => .ok (.live n) h1
    | _ => .bad)
  | _ => .bad
/-- a tuple only, a list only -/
def wTup (a : E) : W := fun l h => (a l h).bind fun d h1 => match d with
  | .tup xs => .ok (.snap xs) h1
  | _ => .bad
def wLst (a : E) : W := fun l h => (a l h).bind fun d h1 => match d with
  | .scr xs => .ok (.snap (xs.map .int)) h1
  | .ref n => (match h1[n]? with
    | some (.lst _) => .ok (.live n) h1
    | _ => .bad)
  | _ => .bad
def rng (lo hi : Int) : List D := (List.range (hi - lo).toNat).map fun (i : Nat) => D.int (lo + (i : Int))
def wRng1 (a : A) : W := fun l h => (a l h).bind fun ds h1 => match ds with
  | [.int j] => if -LIM ≤ j ∧ j ≤ LIM then .ok (.snap (rng 0 j)) h1 else .bad
  | _ => .bad
def wRng2 (a : A) : W := fun l h => (a l h).bind fun ds h1 => match ds with
  | [.int i, .int j] => if -LIM ≤ i ∧ i ≤ LIM ∧ -LIM ≤ j ∧ j ≤ LIM then .ok (.snap (rng i j)) h1 else .bad
  | _ => .bad

/-! ### comprehensions: no exception leaves one -/
def wipe (l : Loc) : List Nat → Loc
  | [] => l
  | v :: vs => (wipe l vs).set v none
def lcTurn (g : G) (t : T) (e : E) (l : Loc) (d : D) (acc : List D) (h : H) : Res (List D) := match g d l h with
  | some (l1, h1) => (match t l1 h1 with
    | .ok true h2 => (match e l1 h2 with
      | .ok y h3 => if acc.length < LIM then .ok (acc ++ [y]) h3 else .bad
      | _ => .bad)
    | .ok false h2 => .ok acc h2
    | _ => .bad)
  | none => .bad
def lcS (g : G) (t : T) (e : E) (l : Loc) : List D → List D → H → Res (List D)
  | [], acc, h => .ok acc h
  | d :: ds, acc, h => match lcTurn g t e l d acc h with
    | .ok acc' h' => lcS g t e l ds acc' h'
    | _ => .bad
def lcL (g : G) (t : T) (e : E) (l : Loc) (n : Nat) : Nat → Nat → List D → H → Res (List D)
  | 0, _, _, _ => .bad
  | f + 1, i, acc, h => match h[n]? with
    | some (.lst xs) => (match xs[i]? with
      | none => .ok acc h
      | some d => match lcTurn g t e l d acc h with
        | .ok acc' h' => lcL g t e l n f (i + 1) acc' h'
        | _ => .bad)
    | _ => .bad
def lcD (g : G) (t : T) (e : E) (l : Loc) (f : H → Option (List D)) : Nat → Nat → List D → H → Res (List D)
  | 0, _, _, _ => .bad
  | k + 1, i, acc, h => match f h with
    | some xs => (match xs[i]? with
      | none => .ok acc h
      | some d => match lcTurn g t e l d acc h with
        | .ok acc' h' => lcD g t e l f k (i + 1) acc' h'
        | _ => .bad)
    | none => .bad
def eComp (w : W) (g : G) (t : T) (e : E) (vs : List Nat) : E := fun l h => (w l h).bind fun it h1 =>
  (match it with
  | .snap xs => lcS g t e (wipe l vs) xs [] h1
  | .live n => lcL g t e (wipe l vs) n (lenAt h1 n + 1) 0 [] h1
  | .dyn f k => lcD g t e (wipe l vs) f k 0 [] h1).bind fun acc h2 => alloc (.lst acc) h2

/-! ### defs -/
def start (n : Nat) (ds : List D) : Loc := ds.map some ++ List.replicate (n - ds.length) none
/-- a def of n names in all and k parameters -/
def fn (n k : Nat) (b : S) : F := fun ds h => if ds.length = k then (match b (start n ds) h with
  | .nx _ h' => .ok .non h'
  | .rt d h' => .ok d h'
  | .ex c fs _ h' => .ex c fs h'
  | _ => .bad) else .bad
end FL

end

section
set_option Elab.async false
set_option linter.all false
set_option maxRecDepth 100000
set_option maxHeartbeats 1000000
namespace FL
open PySem
open L2 (V Hp HO VK XK St TE TT TA TS TG TGs TI Ends PE PT PW PA PS PSs PG PGs PI Cx Inv SqL SqT Rd upd upd_same upd_ne WX)

/-! ### values and heaps on both sides -/
/-- the written part, where each class stands -/
structure Pm where
  K : PySem.W.Frag
  ca : Nat → Addr
  /-- the table of code objects of the lambdas so called -/
  tb : PySem.Str → Addr := fun _ => 0
  ts : List PySem.Str := []
/-- the script: locked, or the module's own -/
def ScrAt (K : PySem.W.Frag) (X : Hp) (a : Addr) (vs : List V) : Prop := (∃ o, X a = some (.frz o (.lst vs))) ∨ SqL K (fun _ => none) a vs
mutual
inductive RV (K : PySem.W.Frag) (X : Hp) (r : List Addr) : D → V → Prop
  | non : RV K X r .non .non
  | bl (b : Bool) : RV K X r (.bl b) (.bl b)
  | int (i : Int) : RV K X r (.int i) (.int i)
  | str (x : Str) : RV K X r (.str x.cps.toList) (.str x)
  | tup {a : Addr} {vs : List V} {ds : List D} : SqT K X a vs → RVs K X r ds vs → RV K X r (.tup ds) (.ref a)
  | ref {n : Nat} {a : Addr} : r[n]? = some a → RV K X r (.ref n) (.ref a)
  | scr {a : Addr} {xs : List Int} : ScrAt K X a (xs.map V.int) → RV K X r (.scr xs) (.ref a)
  | gls (a : Nat) : RV K X r (.gls a) (.ref a)
  | ftup {a : Addr} {o : Obj} {vs : List V} {ds : List D} : X a = some (.frz o (.tup vs)) → o.cls = .type "tuple" → o.dict = none → RVs K X r ds vs → RV K X r (.clo 0 ds) (.ref a)
inductive RVs (K : PySem.W.Frag) (X : Hp) (r : List Addr) : List D → List V → Prop
  | nil : RVs K X r [] []
  | cons {d : D} {v : V} {ds : List D} {vs : List V} : RV K X r d v → RVs K X r ds vs → RVs K X r (d :: ds) (v :: vs)
end
def names (fs : List (PySem.Str × D)) : List Str := fs.map fun p => p.1
def vals (fs : List (PySem.Str × D)) : List D := fs.map fun p => p.2
def keyOf : Sum Int (List Nat) → L2.Key
  | .inl i => .inl i
  | .inr s => .inr ⟨s.toArray⟩
/-- what isinstance and the like ask of an own class whose objects are made -/
structure InsOk (K : PySem.W.Frag) (C : Addr) : Prop where
  cl : L2.Cls K C
  ha : PySem.W.findIn K (.ref C) "__class__" = some (some (.builtin "object.__class__"))
  hn : PySem.W.specialIn K (.builtin "object.__class__") "__get__" = some (some (.builtin "getset_descriptor.__get__"))
  ht : PySem.W.takesIn K (.builtin "object.__class__") = some true
  hm : PySem.W.mroIn K C (.type "object") = some true
  ty : ∀ T ∈ ["int", "bool", "tuple", "list", "str"], PySem.W.kitOne K (.ref C) (.type T) = some false
/-- a dict, or one that is locked -/
def DkA (X : Hp) (a : Addr) (ws : List (L2.Key × V)) : Prop := X a = some (.dK ws) ∨ ∃ o, X a = some (.frz o (.dK ws))
theorem DkA.upd {X : Hp} {p a : Addr} {o : HO} {ws : List (L2.Key × V)} (ne : a ≠ p) (q : DkA X a ws) : DkA (L2.upd X p o) a ws := q.imp (fun z => by rw [L2.upd_ne ne]; exact z) fun ⟨ob, z⟩ => ⟨ob, by rw [L2.upd_ne ne]; exact z⟩
theorem DkA.to {X X' : Hp} {a : Addr} {ws : List (L2.Key × V)} (q : DkA X a ws) (f : ∀ u, X a = some u → (∀ ps, u ≠ .tbl ps) → (∀ φ, u ≠ .ext φ) → X' a = some u) : DkA X' a ws := q.imp (fun z => f _ z (fun _ z => nomatch z) fun _ z => nomatch z) fun ⟨ob, z⟩ => ⟨ob, f _ z (fun _ z => nomatch z) fun _ z => nomatch z⟩
def CR (P : Pm) (X : Hp) (r : List Addr) (a : Addr) : Cell → Prop
  | .lst xs => ∃ vs, X a = some (.lst vs) ∧ RVs P.K X r xs vs
  | .dct kvs => ∃ vs, DkA X a ((kvs.map fun p => keyOf p.1).zip vs) ∧ RVs P.K X r (kvs.map fun p => p.2) vs
  | .ins c fs => ∃ dx vs, X a = some (.ins (P.ca c) dx ((names fs).zip vs)) ∧ X dx = some (.own a) ∧ RVs P.K X r (vals fs) vs ∧ InsOk P.K (P.ca c)
  | .tbl q => (q ∈ P.ts ∧ a = P.tb q) ∧ LamX.TabS X a q
structure HR (P : Pm) (r : List Addr) (h : H) (X : Hp) : Prop where
  len : r.length = h.length
  nd : r.Nodup
  cell : ∀ (n : Nat) (c : Cell) (a : Addr), h[n]? = some c → r[n]? = some a → CR P X r a c
/-- from one state to a later one -/
structure Stp (r : List Addr) (X : Hp) (r' : List Addr) (X' : Hp) : Prop where
  pre : ∃ t, r' = r ++ t
  new : ∀ a ∈ r', a ∉ r → ∀ u, X a = some u → ∃ ps, u = .tbl ps
  kp : ∀ a u, X a = some u → a ∉ r → (∀ ps, u ≠ .tbl ps) → X' a = some u
def Own (r : List Addr) (X : Hp) : Prop := ∀ a ∈ r, (∃ vs, X a = some (.lst vs)) ∨ (∃ kv, X a = some (.dK kv)) ∨ (∃ C dx fs, X a = some (.ins C dx fs)) ∨ (∃ ps, X a = some (.tbl ps)) ∨ ∃ ob kv, X a = some (.frz ob (.dK kv))
section
variable {P : Pm} {K : PySem.W.Frag} {r r1 r2 : List Addr} {X X1 X2 : Hp} {h h1 : H} {d : D} {v : V} {ds : List D} {vs : List V}
theorem HR.own (R : HR P r h X) : Own r X := fun a ha => by
  obtain ⟨n, hn, e⟩ := List.getElem_of_mem ha
  have hn' : n < h.length := by rw [← R.len]; exact hn
  have q := R.cell n h[n] a (List.getElem?_eq_getElem hn') (by rw [List.getElem?_eq_getElem hn, e])
  cases e2 : h[n] with
  | lst xs =>
    rw [e2] at q
    obtain ⟨vs, q, _⟩ := q
    exact .inl ⟨vs, q⟩
  | dct kvs =>
    rw [e2] at q
    obtain ⟨vs, q, _⟩ := q
    rcases q with q | ⟨ob, q⟩
    · exact .inr (.inl ⟨_, q⟩)
    · exact .inr (.inr (.inr (.inr ⟨_, _, q⟩)))
  | ins c fs =>
    rw [e2] at q
    obtain ⟨dx, vs, q, _⟩ := q
    exact .inr (.inr (.inl ⟨_, _, _, q⟩))
  | tbl t =>
    rw [e2] at q
    obtain ⟨_, ps, q, _⟩ := q
    exact .inr (.inr (.inr (.inl ⟨_, q⟩)))
theorem Stp.refl : Stp r X r X := ⟨⟨[], by simp⟩, fun a h1 h2 => absurd h1 h2, fun a u e _ _ => e⟩
theorem Stp.trans (s : Stp r X r1 X1) (t : Stp r1 X1 r2 X2) : Stp r X r2 X2 := by
  obtain ⟨⟨t1, e1⟩, n1, k1⟩ := s
  obtain ⟨⟨t2, e2⟩, n2, k2⟩ := t
  have keep : ∀ a u, X a = some u → a ∉ r → (∀ ps, u ≠ .tbl ps) → a ∉ r1 := fun a u e hn ht hm => by
    obtain ⟨ps, z⟩ := n1 a hm hn u e
    exact ht ps z
  refine ⟨⟨t1 ++ t2, by rw [e2, e1, List.append_assoc]⟩, fun a hm hn u q => ?_, fun a u e hn ht => k2 a u (k1 a u e hn ht) (keep a u e hn ht) ht⟩
  by_cases ht : ∃ ps, u = .tbl ps
  · exact ht
  · have ht2 : ∀ ps, u ≠ .tbl ps := fun ps z => ht ⟨ps, z⟩
    exact n2 a hm (keep a u q hn ht2) u (k1 a u q hn ht2)
theorem Stp.sqT (s : Stp r X r1 X1) (o : Own r X) {a : Addr} (q : SqT K X a vs) : SqT K X1 a vs := by
  have no : ∀ u, X a = some u → (∀ vs, u ≠ .lst vs) → (∀ kv, u ≠ .dK kv) → (∀ C dx fs, u ≠ .ins C dx fs) → (∀ ps, u ≠ .tbl ps) → (∀ ob kv, u ≠ .frz ob (.dK kv)) → a ∉ r := fun u e h1 h2 h3 h4 h5 hm => by
    rcases o a hm with ⟨w, z⟩ | ⟨w, z⟩ | ⟨C, dx, fs, z⟩ | ⟨w, z⟩ | ⟨w, kv0, z⟩ <;> rw [e] at z <;> cases z
    · exact h1 _ rfl
    · exact h2 _ rfl
    · exact h3 _ _ _ rfl
    · exact h4 _ rfl
    · exact h5 _ _ rfl
  rcases q with (q | ⟨ob, q⟩) | q
  · exact .inl (.inl (s.kp _ _ q (no _ q (fun _ z => by cases z) (fun _ z => by cases z) (fun _ _ _ z => by cases z) (fun _ z => by cases z) fun _ _ z => by cases z) fun _ z => by cases z))
  · exact .inl (.inr ⟨ob, s.kp _ _ q (no _ q (fun _ z => by cases z) (fun _ z => by cases z) (fun _ _ _ z => by cases z) (fun _ z => by cases z) fun _ _ z => by cases z) fun _ z => by cases z⟩)
  · exact .inr q
theorem ScrAt.sq {a : Addr} (q : ScrAt K X a vs) : SqL K X a vs := by
  rcases q with ⟨o, q⟩ | (q | ⟨o, q⟩) | q
  · exact .inl (.inr ⟨o, q⟩)
  · cases q
  · cases q
  · exact .inr q
theorem Stp.scr (s : Stp r X r1 X1) (o : Own r X) {a : Addr} (q : ScrAt K X a vs) : ScrAt K X1 a vs := by
  rcases q with ⟨ob, q⟩ | q
  · refine .inl ⟨ob, s.kp _ _ q (fun hm => ?_) fun _ z => by cases z⟩
    rcases o a hm with ⟨w, z⟩ | ⟨w, z⟩ | ⟨C, dx, fs, z⟩ | ⟨w, z⟩ | ⟨w, kv0, z⟩ <;> rw [q] at z <;> cases z
  · exact .inr q
theorem Stp.frz (s : Stp r X r1 X1) (o : Own r X) {a : Addr} {ob : Obj} {u : HO} (q : X a = some (.frz ob u)) (hu : ∀ kv, u ≠ .dK kv) : X1 a = some (.frz ob u) := s.kp _ _ q (fun hm => by
  rcases o a hm with ⟨w, z⟩ | ⟨w, z⟩ | ⟨C, dx, fs, z⟩ | ⟨w, z⟩ | ⟨w, kv0, z⟩ <;> rw [q] at z <;> cases z
  exact hu _ rfl) fun _ z => by cases z
theorem RV.mono (s : Stp r X r1 X1) (o : Own r X) (q : RV K X r d v) : RV K X1 r1 d v := by
  induction q using RV.rec (motive_2 := fun ds vs _ => RVs K X1 r1 ds vs) with
  | non => exact .non
  | bl b => exact .bl b
  | int i => exact .int i
  | str x => exact .str x
  | tup q _ ih => exact .tup (s.sqT o q) ih
  | ref q =>
    obtain ⟨t, e⟩ := s.pre
    refine .ref ?_
    rw [e, List.getElem?_append_left (List.getElem?_eq_some_iff.mp q).1]
    exact q
  | scr q => exact .scr (s.scr o q)
  | gls a => exact .gls a
  | ftup q c d _ ih => exact .ftup (s.frz o q (fun _ z => by cases z)) c d ih
  | nil => exact .nil
  | cons _ _ h1 h2 => exact .cons h1 h2
theorem RVs.mono (s : Stp r X r1 X1) (o : Own r X) : ∀ {ds : List D} {vs : List V}, RVs K X r ds vs → RVs K X1 r1 ds vs
  | _, _, .nil => .nil
  | _, _, .cons h1 h2 => .cons (h1.mono s o) (RVs.mono s o h2)
theorem RVs.length : ∀ {ds : List D} {vs : List V}, RVs K X r ds vs → ds.length = vs.length
  | _, _, .nil => rfl
  | _, _, .cons _ h => congrArg (· + 1) (RVs.length h)
theorem RVs.get : ∀ {ds : List D} {vs : List V} {i : Nat} {d : D}, RVs K X r ds vs → ds[i]? = some d → ∃ v, vs[i]? = some v ∧ RV K X r d v
  | _, _, 0, _, .cons h _, e => by
    simp at e
    subst e
    exact ⟨_, rfl, h⟩
  | _, _, i + 1, _, .cons _ h, e => by
    obtain ⟨v, h1, h2⟩ := RVs.get (i := i) h (by simpa using e)
    exact ⟨v, by simpa using h1, h2⟩
theorem RVs.append : ∀ {ds es : List D} {vs ws : List V}, RVs K X r ds vs → RVs K X r es ws → RVs K X r (ds ++ es) (vs ++ ws)
  | _, _, _, _, .nil, h => h
  | _, _, _, _, .cons a b, h => .cons a (RVs.append b h)
theorem RVs.set {d : D} {v : V} (q : RV K X r d v) : ∀ {ds : List D} {vs : List V} (i : Nat), RVs K X r ds vs → RVs K X r (ds.set i d) (vs.set i v)
  | _, _, _, .nil => .nil
  | _, _, 0, .cons _ h => .cons q h
  | _, _, i + 1, .cons a h => .cons a (RVs.set q i h)
theorem RVs.take : ∀ {ds : List D} {vs : List V} (n : Nat), RVs K X r ds vs → RVs K X r (ds.take n) (vs.take n)
  | _, _, 0, _ => .nil
  | _, _, _ + 1, .nil => .nil
  | _, _, n + 1, .cons a h => .cons a (RVs.take n h)
theorem RVs.drop : ∀ {ds : List D} {vs : List V} (n : Nat), RVs K X r ds vs → RVs K X r (ds.drop n) (vs.drop n)
  | _, _, 0, h => h
  | _, _, _ + 1, .nil => .nil
  | _, _, n + 1, .cons _ h => RVs.drop n h
theorem RVs.back : ∀ {ds : List D} {vs : List V} {i : Nat} {v : V}, RVs K X r ds vs → vs[i]? = some v → ∃ d, ds[i]? = some d ∧ RV K X r d v
  | _, _, 0, _, .cons h _, e => by
    simp at e
    subst e
    exact ⟨_, rfl, h⟩
  | _, _, i + 1, _, .cons _ h, e => by
    obtain ⟨v, h1, h2⟩ := RVs.back (i := i) h (by simpa using e)
    exact ⟨v, by simpa using h1, h2⟩
theorem CR.mono (s : Stp r X r1 X1) (o : Own r X) {a : Addr} {c : Cell} (q : CR P X r a c) (e : X1 a = X a) : CR P X1 r1 a c := by
  cases c with
  | lst xs =>
    obtain ⟨vs, q1, q2⟩ := q
    exact ⟨vs, e.trans q1, q2.mono s o⟩
  | dct kvs =>
    obtain ⟨vs, q1, q2⟩ := q
    exact ⟨vs, q1.imp (fun z => e.trans z) (fun ⟨ob, z⟩ => ⟨ob, e.trans z⟩), q2.mono s o⟩
  | ins c fs =>
    obtain ⟨dx, vs, q1, q2, q3, q4⟩ := q
    refine ⟨dx, vs, e.trans q1, s.kp _ _ q2 (fun hm => ?_) (fun _ z => by cases z), q3.mono s o, q4⟩
    rcases o dx hm with ⟨w, z⟩ | ⟨w, z⟩ | ⟨C, dx, fs, z⟩ | ⟨w, z⟩ | ⟨w, kv0, z⟩ <;> rw [q2] at z <;> cases z
  | tbl t =>
    obtain ⟨h0, ps, h1, h2, h3⟩ := q
    refine ⟨h0, ps, e.trans h1, h2, fun pos cv hc => ?_⟩
    obtain ⟨c, e1, e2⟩ := h3 pos cv hc
    refine ⟨c, e1, s.kp _ _ e2 (fun hm => ?_) fun _ z => by unfold LamX.CodeO at z; cases z⟩
    rcases o c hm with ⟨w, z⟩ | ⟨w, z⟩ | ⟨C, dx, fs, z⟩ | ⟨w, z⟩ | ⟨w, kv0, z⟩ <;> rw [e2] at z <;> unfold LamX.CodeO at z <;> cases z
end

/-! ### slots -/
def SL (K : PySem.W.Frag) (X : Hp) (r : List Addr) (l : Loc) (σ : St) : Prop := l.length = σ.length ∧ ∀ (i : Nat) (d : D), l[i]? = some (some d) → ∃ v, σ[i]? = some (some v) ∧ RV K X r d v
section
variable {P : Pm} {K : PySem.W.Frag} {r r1 r2 : List Addr} {X X1 X2 : Hp} {h h1 : H} {d : D} {v : V} {ds : List D} {vs : List V} {l : Loc} {σ : St}
theorem SL.mono (s : Stp r X r1 X1) (o : Own r X) (q : SL K X r l σ) : SL K X1 r1 l σ := ⟨q.1, fun i d e => by
  obtain ⟨v, h1, h2⟩ := q.2 i d e
  exact ⟨v, h1, h2.mono s o⟩⟩
theorem SL.set (q : SL K X r l σ) (i : Nat) (hd : RV K X r d v) : SL K X r (l.set i (some d)) (σ.set i (some v)) := by
  refine ⟨by rw [List.length_set, List.length_set]; exact q.1, fun j d' e => ?_⟩
  by_cases hj : i = j
  · subst hj
    by_cases hi : i < l.length
    · rw [List.getElem?_set_self hi] at e
      cases e
      exact ⟨v, List.getElem?_set_self (by rw [← q.1]; exact hi), hd⟩
    · rw [List.getElem?_eq_none (by rw [List.length_set]; omega)] at e
      cases e
  · rw [List.getElem?_set_ne hj] at e
    obtain ⟨v', h1, h2⟩ := q.2 j d' e
    exact ⟨v', by rw [List.getElem?_set_ne hj]; exact h1, h2⟩
theorem SL.unset (q : SL K X r l σ) (i : Nat) : SL K X r (l.set i none) (σ.set i none) := by
  refine ⟨by rw [List.length_set, List.length_set]; exact q.1, fun j d' e => ?_⟩
  by_cases hj : i = j
  · subst hj
    by_cases hi : i < l.length
    · rw [List.getElem?_set_self hi] at e
      cases e
    · rw [List.getElem?_eq_none (by rw [List.length_set]; omega)] at e
      cases e
  · rw [List.getElem?_set_ne hj] at e
    obtain ⟨v', h1, h2⟩ := q.2 j d' e
    exact ⟨v', by rw [List.getElem?_set_ne hj]; exact h1, h2⟩
theorem SL.wipe (q : SL K X r l σ) : ∀ vs : List Nat, SL K X r (FL.wipe l vs) (L2.wipe σ vs)
  | [] => q
  | v :: vs => (SL.wipe q vs).unset v
end

/-! ### the readings -/
/-- an exception of ours: its class, its fields -/
def RX (P : Pm) (X : Hp) (r : List Addr) (c : Nat) (fs : List (PySem.Str × D)) (cls : Value) (dd : Option Addr) : Prop :=
  cls = .ref (P.ca c) ∧ ((fs = [] ∧ dd = none) ∨ (fs ≠ [] ∧ ∃ d vs, dd = some d ∧ X d = some (.xd ((names fs).zip vs)) ∧ RVs P.K X r (vals fs) vs))
abbrev Rel (α β : Type) := Pm → Hp → List Addr → α → β → Prop
def relE : Rel D V := fun P X r d v => RV P.K X r d v
def relT : Rel Bool Bool := fun _ _ _ b c => b = c
def relA : Rel (List D) (List V) := fun P X r ds vs => RVs P.K X r ds vs
/-- what is wanted of a result -/
def End {α β : Type} (R : Rel α β) (P : Pm) (w : WX) (r : List Addr) (X : Hp) (σ : St) (z : Res α) (Q : β → Hp → Prop) : Prop := match z with
  | .ok a h' => ∀ r' X' b, Stp r X r' X' → HR P r' h' X' → R P X' r' a b → Q b X'
  | .ex c fs h' => ∀ r' X' cls dd, Stp r X r' X' → HR P r' h' X' → RX P X' r' c fs cls dd → w cls dd σ X'
  | .bad => False
/-- k over operands that have come -/
def tK {α β : Type} (R : Rel α β) (P : Pm) (w : WX) (k : List D → Loc → H → Res α) (vs : List V) : St → Hp → (β → Hp → Prop) → Prop := fun σ X Q =>
  ∃ r h l ds, HR P r h X ∧ SL P.K X r l σ ∧ RVs P.K X r ds vs ∧ End R P w r X σ (k ds l h) Q
def tE (P : Pm) (w : WX) (m : E) : TE := tK relE P w (fun _ => m) []
def tT (P : Pm) (w : WX) (m : T) : TT := tK relT P w (fun _ => m) []
def tA (P : Pm) (w : WX) (m : A) : TA := tK relA P w (fun _ => m) []
section
variable {P : Pm} {w : WX} {r r1 : List Addr} {X X1 : Hp} {h : H} {σ : St} {α β γ δ : Type} {R : Rel α β} {R2 : Rel γ δ}
theorem End.step {z : Res α} {Q : β → Hp → Prop} (s : Stp r X r1 X1) (e : End R P w r X σ z Q) : End R P w r1 X1 σ z Q := by
  cases z with
  | ok a h' => exact fun r' X' b s' => e r' X' b (s.trans s')
  | ex c fs h' => exact fun r' X' cls dd s' => e r' X' cls dd (s.trans s')
  | bad => exact e
theorem End.mono {z : Res α} {Q Q' : β → Hp → Prop} (f : ∀ b X', Q b X' → Q' b X') (e : End R P w r X σ z Q) : End R P w r X σ z Q' := by
  cases z with
  | ok a h' => exact fun r' X' b s hr ha => f b X' (e r' X' b s hr ha)
  | ex c fs h' => exact e
  | bad => exact e
/-- a part is reckoned, then the rest with it -/
theorem End.bind {R0 : Rel γ δ} {z : Res γ} {k : γ → H → Res α} {Q : β → Hp → Prop} (e : End R P w r X σ (z.bind k) Q) :
    End R0 P w r X σ z fun b X1 => ∃ r1 h1 a, Stp r X r1 X1 ∧ HR P r1 h1 X1 ∧ R0 P X1 r1 a b ∧ End R P w r1 X1 σ (k a h1) Q := by
  cases z with
  | ok a h' => exact fun r' X' b s hr ha => ⟨r', h', a, s, hr, ha, End.step s e⟩
  | ex c fs h' => exact e
  | bad => exact e
/-- an expression's value becomes an operand -/
theorem bindE {m : E} {k : D → List D → Loc → H → Res α} {vs : List V} {Q : β → Hp → Prop} (e : tK R P w (fun ds l h => (m l h).bind fun a h1 => k a ds l h1) vs σ X Q) :
    tE P w m σ X fun v X1 => tK R P w (fun ds => match ds with
      | d :: ds => k d ds
      | [] => fun _ _ => .bad) (v :: vs) σ X1 Q := by
  obtain ⟨r, h, l, ds, a1, a2, a3, a4⟩ := e
  exact ⟨r, h, l, [], a1, a2, .nil, End.mono (fun b X1 ⟨r1, h1, a, s, b1, b2, b3⟩ => ⟨r1, h1, l, a :: ds, b1, a2.mono s a1.own, .cons b2 (a3.mono s a1.own), b3⟩) (End.bind (R0 := relE) a4)⟩
theorem bindT {m : T} {k : Bool → List D → Loc → H → Res α} {vs : List V} {Q : β → Hp → Prop} (e : tK R P w (fun ds l h => (m l h).bind fun a h1 => k a ds l h1) vs σ X Q) :
    tT P w m σ X fun c X1 => tK R P w (k c) vs σ X1 Q := by
  obtain ⟨r, h, l, ds, a1, a2, a3, a4⟩ := e
  exact ⟨r, h, l, [], a1, a2, .nil, End.mono (fun b X1 ⟨r1, h1, a, s, b1, b2, b3⟩ => ⟨r1, h1, l, ds, b1, a2.mono s a1.own, a3.mono s a1.own, by rw [← show a = b from b2]; exact b3⟩) (End.bind (R0 := relT) a4)⟩
/-- an argument list becomes operands -/
def tKA {α β : Type} (R : Rel α β) (P : Pm) (w : WX) (k : List D → List D → Loc → H → Res α) (ys vs : List V) : St → Hp → (β → Hp → Prop) → Prop := fun σ X Q =>
  ∃ r h l xs ds, HR P r h X ∧ SL P.K X r l σ ∧ RVs P.K X r xs ys ∧ RVs P.K X r ds vs ∧ End R P w r X σ (k xs ds l h) Q
theorem bindA {m : A} {k : List D → List D → Loc → H → Res α} {vs : List V} {Q : β → Hp → Prop} (e : tK R P w (fun ds l h => (m l h).bind fun a h1 => k a ds l h1) vs σ X Q) :
    tA P w m σ X fun ys X1 => tKA R P w k ys vs σ X1 Q := by
  obtain ⟨r, h, l, ds, a1, a2, a3, a4⟩ := e
  exact ⟨r, h, l, [], a1, a2, .nil, End.mono (fun b X1 ⟨r1, h1, a, s, b1, b2, b3⟩ => ⟨r1, h1, l, a, ds, b1, a2.mono s a1.own, b2, a3.mono s a1.own, b3⟩) (End.bind (R0 := relA) a4)⟩
end
/-! ### a weaker reading -/
section
variable {C : Cx}
theorem peW {e : Expr} {t t' : TE} (p : PE C e t) (f : ∀ σ X Q, t' σ X Q → t σ X Q) : PE C e t' := ⟨fun pins s σ H Q I h => p.run pins s σ H Q I (f σ H Q h)⟩
theorem ptW {e : Expr} {t t' : TT} (p : PT C e t) (f : ∀ σ X Q, t' σ X Q → t σ X Q) : PT C e t' := ⟨fun pins s σ H Q I h => p.run pins s σ H Q I (f σ H Q h)⟩
theorem pwW {e : Expr} {t t' : TT} (p : PW C e t) (f : ∀ σ X Q, t' σ X Q → t σ X Q) : PW C e t' := ⟨fun wh pins s σ H Q I h => p.run wh pins s σ H Q I (f σ H Q h)⟩
theorem paW {e : List Expr} {t t' : TA} (p : PA C e t) (f : ∀ σ X Q, t' σ X Q → t σ X Q) : PA C e t' := ⟨fun pos pins s σ H Q I h => p.run pos pins s σ H Q I (f σ H Q h)⟩
theorem psW {e : Stmt} {t t' : TS} (p : PS C e t) (f : ∀ D σ X, t' D σ X → t D σ X) : PS C e t' := ⟨fun pins s σ H D I h => p.run pins s σ H D I (f D σ H h)⟩
theorem pssW {e : List Stmt} {t t' : TS} (p : PSs C e t) (f : ∀ D σ X, t' D σ X → t D σ X) : PSs C e t' := ⟨fun pins s σ H D I h => p.run pins s σ H D I (f D σ H h)⟩
end

/-! ### expressions -/
/-- functions on values: what is asked of a rule for them -/
def r2 (P : Pm) (f : D → D → H → Res D) : L2.R2 := fun x y X Q => ∃ r h a b, HR P r h X ∧ RV P.K X r a x ∧ RV P.K X r b y ∧ End relE P (fun _ _ _ _ => False) r X [] (f a b h) Q
def r1 (P : Pm) (f : D → H → Res D) : V → Hp → VK → Prop := fun x X Q => ∃ r h a, HR P r h X ∧ RV P.K X r a x ∧ End relE P (fun _ _ _ _ => False) r X [] (f a h) Q
def rN (P : Pm) (f : F) : List V → Hp → VK → Prop := fun vs X Q => ∃ r h ds, HR P r h X ∧ RVs P.K X r ds vs ∧ End relE P (fun _ _ _ _ => False) r X [] (f ds h) Q
/-- values alone raise nothing -/
class Calm2 (f : D → D → H → Res D) : Prop where
  no : ∀ a b h c fs h', f a b h ≠ .ex c fs h'
class Calm1 (f : D → H → Res D) : Prop where
  no : ∀ a h c fs h', f a h ≠ .ex c fs h'
class CalmN (f : F) : Prop where
  no : ∀ a h c fs h', f a h ≠ .ex c fs h'
theorem End.calm {α β : Type} {R : Rel α β} {P : Pm} {w w' : WX} {r : List Addr} {X : Hp} {σ σ' : St} {z : Res α} {Q : β → Hp → Prop} (n : ∀ c fs h', z ≠ .ex c fs h') (e : End R P w r X σ z Q) : End R P w' r X σ' z Q := by
  cases z with
  | ok a h' => exact e
  | ex c fs h' => exact absurd rfl (n _ _ _)
  | bad => exact e
section
variable {C : Cx} {P : Pm} {w : WX} {a b c : Expr} {pos : Pos} {ma mb mc : E} {as : List Expr} {mas : A}
theorem xVar {i : Nat} {e : Expr} (h : PE C e (L2.tVar i)) : PE C e (tE P w (eVar i)) := peW h fun σ X Q ⟨r, h, l, ds, a1, a2, a3, a4⟩ => by
  have a4 : End relE P w r X σ (eVar i l h) Q := a4
  unfold eVar at a4
  cases q : l[i]? with
  | none =>
    rw [q] at a4
    exact a4.elim
  | some o =>
    cases o with
    | none =>
      rw [q] at a4
      exact a4.elim
    | some d =>
      rw [q] at a4
      obtain ⟨v, e1, e2⟩ := a2.2 i d q
      exact ⟨v, e1, a4 r X v .refl a1 e2⟩
theorem xC {d : D} {v : V} {e : Expr} (h : PE C e (L2.tC v)) (hv : ∀ (K : PySem.W.Frag) X r, RV K X r d v) : PE C e (tE P w (eC d)) := peW h fun σ X Q ⟨r, h, l, ds, a1, a2, a3, a4⟩ =>
  a4 r X v .refl a1 (hv _ _ _)
theorem wBin {f : D → D → H → Res D} [cf : Calm2 f] {σ : St} {X : Hp} {Q : VK} (e : tE P w (eBin f ma mb) σ X Q) : L2.tOp (r2 P f) (tE P w ma) (tE P w mb) σ X Q := by
  have e1 := bindE (R := relE) (m := ma) (k := fun x _ l h => (mb l h).bind fun y h2 => f x y h2) e
  obtain ⟨r, h, l, ds, a1, a2, a3, a4⟩ := e1
  refine ⟨r, h, l, ds, a1, a2, a3, End.mono (fun x X1 q => ?_) a4⟩
  obtain ⟨r, h, l, ds, a1, a2, a3, a4⟩ := q
  cases a3 with
  | cons b1 b2 =>
    cases b2
    refine ⟨r, h, l, [], a1, a2, .nil, End.mono (fun y X2 ⟨r1, h1, z, s, c1, c2, c3⟩ => ?_) (End.bind (R0 := relE) a4)⟩
    exact ⟨r1, h1, _, z, c1, b1.mono s a1.own, c2, End.calm (cf.no _ _ _) c3⟩
theorem xBin {f : D → D → H → Res D} [Calm2 f] {op : Operator} (ho : L2.OpR C (binaryOp op) (r2 P f)) (ha : PE C a (tE P w ma)) (hb : PE C b (tE P w mb)) : PE C (.BinOp a op b pos) (tE P w (eBin f ma mb)) :=
  peW (L2.pe_op ho ha hb) fun _ _ _ e => wBin e
theorem xCmp {f : D → D → H → Res D} [Calm2 f] {op : CmpOp} (ho : L2.OpR C (compareOp op) (r2 P f)) (ha : PE C a (tE P w ma)) (hb : PE C b (tE P w mb)) (hm : behindInMarks op b = false) : PE C (.Compare a [op] [b] pos) (tE P w (eBin f ma mb)) :=
  peW (L2.pe_cmpR ho ha hb hm) fun _ _ _ e => wBin e
theorem wUn {f : D → H → Res D} [cf : Calm1 f] {σ : St} {X : Hp} {Q : VK} (e : tE P w (eUn f ma) σ X Q) : L2.tUn (r1 P f) (tE P w ma) σ X Q := by
  obtain ⟨r, h, l, ds, a1, a2, a3, a4⟩ := bindE (R := relE) (m := ma) (k := fun x _ l h => f x h) e
  refine ⟨r, h, l, ds, a1, a2, a3, End.mono (fun x X1 q => ?_) a4⟩
  obtain ⟨r, h, l, ds, a1, a2, a3, a4⟩ := q
  cases a3 with
  | cons b1 b2 =>
    cases b2
    exact ⟨r, h, _, a1, b1, End.calm (cf.no _ _) a4⟩
theorem xUn {f : D → H → Res D} [Calm1 f] {op : UnaryOp} (ho : L2.UnR C (unaryOp op) (r1 P f)) (ha : PE C a (tE P w ma)) : PE C (.UnaryOp op a pos) (tE P w (eUn f ma)) :=
  peW (L2.pe_un ho ha) fun _ _ _ e => wUn e
theorem xNil : PA C [] (tA P w aNil) := paW L2.pa_nil fun σ X Q ⟨r, h, l, ds, a1, a2, a3, a4⟩ => a4 r X [] .refl a1 .nil
theorem xCons (ha : PE C a (tE P w ma)) (hr : PA C as (tA P w mas)) (hs : starEach (a :: as) C.env = (false, eval a C.env) :: starEach as C.env := by rfl) : PA C (a :: as) (tA P w (aCons ma mas)) :=
  paW (L2.pa_cons ha hr hs) fun σ X Q e => by
    obtain ⟨r, h, l, ds, a1, a2, a3, a4⟩ := bindE (R := relA) (m := ma) (k := fun x _ l h => (mas l h).bind fun xs h2 => .ok (x :: xs) h2) e
    refine ⟨r, h, l, ds, a1, a2, a3, End.mono (fun x X1 q => ?_) a4⟩
    obtain ⟨r, h, l, ds, a1, a2, a3, a4⟩ := q
    cases a3 with
    | cons b1 b2 =>
      cases b2
      refine ⟨r, h, l, [], a1, a2, .nil, End.mono (fun y X2 ⟨r1, h1, z, s, c1, c2, c3⟩ => ?_) (End.bind (R0 := relA) a4)⟩
      exact c3 r1 X2 _ .refl c1 (.cons (b1.mono s a1.own) c2)
theorem wCall {f : F} [cf : CalmN f] {σ : St} {X : Hp} {Q : VK} (e : tE P w (eCall f mas) σ X Q) : L2.tCB (rN P f) (tA P w mas) σ X Q := by
  obtain ⟨r, h, l, ds, a1, a2, a3, a4⟩ := bindA (R := relE) (m := mas) (k := fun xs _ l h => f xs h) e
  refine ⟨r, h, l, ds, a1, a2, a3, End.mono (fun x X1 q => ?_) a4⟩
  obtain ⟨r, h, l, xs, ds, a1, a2, a3, a5, a4⟩ := q
  exact ⟨r, h, xs, a1, a3, End.calm (cf.no _ _) a4⟩
end
end FL

end

section
set_option Elab.async false
set_option linter.all false
set_option maxRecDepth 100000
set_option maxHeartbeats 1000000
namespace FL
open PySem
open L2 (V Hp HO VK XK St TE TT TA TS TG TGs TI Ends PE PT PW PA PS PSs PG PGs PI Cx Inv SqL SqT Rd upd upd_same upd_ne WX)

/-! ### new objects, changed ones -/
section
variable {P : Pm} {K : PySem.W.Frag} {r r1 : List Addr} {X X1 : Hp} {h h1 : H} {d : D} {v : V} {ds : List D} {vs : List V} {l : Loc} {σ : St} {p : Addr} {o : HO} {c : Cell}
theorem RV.ext (t : List Addr) (q : RV K X r d v) : RV K X (r ++ t) d v := by
  induction q using RV.rec (motive_2 := fun ds vs _ => RVs K X (r ++ t) ds vs) with
  | non => exact .non
  | bl b => exact .bl b
  | int i => exact .int i
  | str x => exact .str x
  | tup q _ ih => exact .tup q ih
  | ref q => exact .ref (by rw [List.getElem?_append_left (List.getElem?_eq_some_iff.mp q).1]; exact q)
  | scr q => exact .scr q
  | gls a => exact .gls a
  | ftup q c d _ ih => exact .ftup q c d ih
  | nil => exact .nil
  | cons _ _ h1 h2 => exact .cons h1 h2
theorem RVs.ext (t : List Addr) : ∀ {ds : List D} {vs : List V}, RVs K X r ds vs → RVs K X (r ++ t) ds vs
  | _, _, .nil => .nil
  | _, _, .cons h1 h2 => .cons (h1.ext t) (RVs.ext t h2)
theorem CR.ext (t : List Addr) (q : CR P X r p c) : CR P X (r ++ t) p c := by
  cases c with
  | lst xs =>
    obtain ⟨vs, q1, q2⟩ := q
    exact ⟨vs, q1, q2.ext t⟩
  | dct kvs =>
    obtain ⟨vs, q1, q2⟩ := q
    exact ⟨vs, q1, q2.ext t⟩
  | ins c fs =>
    obtain ⟨dx, vs, q1, q2, q3, q4⟩ := q
    exact ⟨dx, vs, q1, q2, q3.ext t, q4⟩
  | tbl s => exact q
theorem HR.out (R : HR P r h X) (hp : X p = none) : p ∉ r := fun hm => by
  rcases R.own p hm with ⟨_, z⟩ | ⟨_, z⟩ | ⟨_, _, _, z⟩ | ⟨_, z⟩ | ⟨_, _, z⟩ <;> rw [hp] at z <;> cases z
theorem Stp.fresh (hp : X p = none) : Stp r X r (upd X p o) := ⟨⟨[], by simp⟩, fun a h1 h2 => absurd h1 h2, fun a u e _ _ => by
  rw [upd_ne (fun z => by rw [z, hp] at e; cases e)]
  exact e⟩
theorem HR.same (s : Stp r X r X1) (k : ∀ a ∈ r, X1 a = X a) (R : HR P r h X) : HR P r h X1 :=
  ⟨R.len, R.nd, fun n c a e1 e2 => (R.cell n c a e1 e2).mono s R.own (k a (List.mem_of_getElem? e2))⟩
theorem HR.fresh (R : HR P r h X) (hp : X p = none) : HR P r h (upd X p o) :=
  R.same (Stp.fresh hp) fun a ha => upd_ne fun z => R.out hp (z ▸ ha)
/-- a place is added for an object that stands -/
theorem HR.push (R : HR P r h X) (hp : p ∉ r) (q : CR P X (r ++ [p]) p c) : HR P (r ++ [p]) (h ++ [c]) X := by
  refine ⟨by simp [R.len], ?_, fun n c' a e1 e2 => ?_⟩
  · rw [List.nodup_append]
    refine ⟨R.nd, by simp, fun a ha b hb z => ?_⟩
    rw [List.mem_singleton.mp hb] at z
    exact hp (z ▸ ha)
  · by_cases hn : n < h.length
    · rw [List.getElem?_append_left hn] at e1
      rw [List.getElem?_append_left (by rw [R.len]; exact hn)] at e2
      exact (R.cell n c' a e1 e2).ext [p]
    · rw [List.getElem?_append_right (by omega)] at e1
      rw [List.getElem?_append_right (by rw [R.len]; omega)] at e2
      rw [R.len] at e2
      have hz : n - h.length = 0 := by
        have := (List.getElem?_eq_some_iff.mp e1).1
        simp at this
        omega
      rw [hz] at e1 e2
      cases e1
      cases e2
      exact q
theorem HR.new (R : HR P r h X) (hp : X p = none) (q : CR P (upd X p o) (r ++ [p]) p c) : HR P (r ++ [p]) (h ++ [c]) (upd X p o) :=
  (R.fresh hp).push (R.out hp) q
theorem Stp.new' (hp : X p = none) : Stp r X (r ++ [p]) (upd X p o) := ⟨⟨[p], rfl⟩, (fun a h1 h2 => by
  rcases List.mem_append.mp h1 with z | z
  · exact absurd z h2
  · intro u e
    rw [List.mem_singleton.mp z, hp] at e
    cases e), (Stp.fresh (r := r) hp).kp⟩
theorem HR.last (R : HR P r h X) : (r ++ [p])[h.length]? = some p := by
  rw [← R.len, List.getElem?_append_right (Nat.le_refl _)]
  simp
/-- a new list -/
theorem HR.newL (R : HR P r h X) (hp : X p = none) (q : RVs P.K X r ds vs) : HR P (r ++ [p]) (h ++ [.lst ds]) (upd X p (.lst vs)) :=
  R.new hp ⟨vs, upd_same, (q.mono (Stp.fresh hp) R.own).ext _⟩
theorem RV.newT (R : HR P r h X) (hp : X p = none) (q : RVs P.K X r ds vs) : RV P.K (upd X p (.tup vs)) r (.tup ds) (.ref p) :=
  .tup (.inl (.inl upd_same)) (q.mono (Stp.fresh hp) R.own)
/-- an object is changed -/
theorem Stp.write (hp : p ∈ r) : Stp r X r (upd X p o) := ⟨⟨[], by simp⟩, fun a h1 h2 => absurd h1 h2, fun a u e hn _ => by
  rw [upd_ne fun z => hn (by rw [z]; exact hp)]
  exact e⟩
theorem HR.write {n : Nat} (R : HR P r h X) (hn : r[n]? = some p) (q : CR P (upd X p o) r p c) : HR P r (h.set n c) (upd X p o) := by
  have hm := List.mem_of_getElem? hn
  refine ⟨by rw [List.length_set]; exact R.len, R.nd, fun m c' a e1 e2 => ?_⟩
  by_cases hmn : n = m
  · subst hmn
    have hl : n < h.length := by rw [← R.len]; exact (List.getElem?_eq_some_iff.mp hn).1
    rw [List.getElem?_set_self hl] at e1
    cases e1
    rw [hn] at e2
    cases e2
    exact q
  · rw [List.getElem?_set_ne hmn] at e1
    refine (R.cell m c' a e1 e2).mono (Stp.write hm) R.own (upd_ne fun z => hmn ?_)
    obtain ⟨i1, j1⟩ := List.getElem?_eq_some_iff.mp hn
    obtain ⟨i2, j2⟩ := List.getElem?_eq_some_iff.mp e2
    exact (List.getElem_inj R.nd).mp (by rw [j1, j2, z])
theorem HR.lst {n : Nat} {xs : List D} {a : Addr} (R : HR P r h X) (e : h[n]? = some (.lst xs)) (ea : r[n]? = some a) : ∃ vs, X a = some (.lst vs) ∧ RVs P.K X r xs vs := R.cell n _ a e ea
end
theorem lim {n : Nat} (h : n ≤ LIM) : n ≤ sizeLine := Nat.le_trans h (by unfold LIM; decide)
theorem limLt {n : Nat} (h : n < LIM) : n < sizeLine := Nat.lt_of_lt_of_le h (by unfold LIM; decide)

section
variable {C : Cx} {P : Pm} {w : WX} {a b c : Expr} {pos : Pos} {ma mb mc : E} {ta tb : T} {as : List Expr} {mas : A}
theorem xTup {x1} (h : PA C as (tA P w mas)) : PE C (.Tuple as x1 pos) (tE P w (eTup mas)) := peW (L2.pe_tup h) fun σ X Q e => by
  obtain ⟨r, h, l, ds, a1, a2, a3, a4⟩ := bindA (R := relE) (m := mas) (k := fun xs _ l h => if xs.length ≤ LIM then .ok (.tup xs) h else .bad) e
  refine ⟨r, h, l, ds, a1, a2, a3, End.mono (fun xs X1 q => ?_) a4⟩
  obtain ⟨r, h, l, ys, ds, a1, a2, a3, a5, a4⟩ := q
  dsimp only at a4
  by_cases hz : ys.length ≤ LIM
  · rw [if_pos hz] at a4
    exact ⟨lim (by rw [← a3.length]; exact hz), fun p hp => a4 r _ _ (Stp.fresh hp) (a1.fresh hp) (RV.newT a1 hp a3)⟩
  · rw [if_neg hz] at a4
    exact a4.elim
theorem xLst (h : PA C as (tA P w mas)) : PE C (.List as pos) (tE P w (eLst mas)) := peW (L2.pe_lst h) fun σ X Q e => by
  obtain ⟨r, h, l, ds, a1, a2, a3, a4⟩ := bindA (R := relE) (m := mas) (k := fun xs _ l h => if xs.length ≤ LIM then alloc (.lst xs) h else .bad) e
  refine ⟨r, h, l, ds, a1, a2, a3, End.mono (fun xs X1 q => ?_) a4⟩
  obtain ⟨r, h, l, ys, ds, a1, a2, a3, a5, a4⟩ := q
  dsimp only at a4
  by_cases hz : ys.length ≤ LIM
  · rw [if_pos hz] at a4
    exact ⟨lim (by rw [← a3.length]; exact hz), fun p hp => a4 _ _ _ (Stp.new' hp) (a1.newL hp a3) (.ref a1.last)⟩
  · rw [if_neg hz] at a4
    exact a4.elim
theorem xIf {t : Expr} {mt : T} (ht : PT C t (tT P w mt)) (ha : PE C a (tE P w ma)) (hb : PE C b (tE P w mb)) : PE C (.IfExp t a b pos) (tE P w (eIf mt ma mb)) := peW (L2.pe_ifExp ht ha hb) fun σ X Q e => by
  obtain ⟨r, h, l, ds, a1, a2, a3, a4⟩ := bindT (R := relE) (m := mt) (k := fun c _ l h => if c = true then ma l h else mb l h) e
  refine ⟨r, h, l, ds, a1, a2, a3, End.mono (fun c X1 q => ?_) a4⟩
  cases c with
  | true => exact q
  | false => exact q
theorem xNot (ha : PE C a (tE P w ma)) : PE C (.UnaryOp .Not a pos) (tE P w (eNot ma)) := peW (L2.pe_not ha) fun σ X Q e => by
  obtain ⟨r, h, l, ds, a1, a2, a3, a4⟩ := bindE (R := relE) (m := ma) (k := fun x _ l h => match x with
    | .bl b => .ok (.bl (!b)) h
    | _ => .bad) e
  refine ⟨r, h, l, ds, a1, a2, a3, End.mono (fun v X1 q => ?_) a4⟩
  obtain ⟨r, h, l, ds, a1, a2, a3, a4⟩ := q
  cases a3 with
  | cons b1 b2 =>
    cases b1 with
    | bl b => exact ⟨b, rfl, a4 r _ _ .refl a1 (.bl _)⟩
    | _ => exact (show False from a4).elim
variable {rest : List Expr}
theorem xOne {op} (ha : PE C a (tE P w ma)) : PE C (.BoolOp op [a] pos) (tE P w ma) := L2.pe_one ha
theorem xAnd (ha : PE C a (tE P w ma)) (hb : PE C (.BoolOp .And (b :: rest) pos) (tE P w mb)) : PE C (.BoolOp .And (a :: b :: rest) pos) (tE P w (eAnd ma mb)) := peW (L2.pe_and ha hb) fun σ X Q e => by
  obtain ⟨r, h, l, ds, a1, a2, a3, a4⟩ := bindE (R := relE) (m := ma) (k := fun x _ l h => match x with
    | .bl true => mb l h
    | .bl false => .ok (.bl false) h
    | _ => .bad) e
  refine ⟨r, h, l, ds, a1, a2, a3, End.mono (fun v X1 q => ?_) a4⟩
  obtain ⟨r, h, l, ds, a1, a2, a3, a4⟩ := q
  cases a3 with
  | cons b1 b2 =>
    cases b1 with
    | bl b =>
      refine ⟨b, rfl, ?_⟩
      cases b with
      | true => exact ⟨r, h, l, [], a1, a2, .nil, a4⟩
      | false => exact a4 r _ _ .refl a1 (.bl _)
    | _ => exact (show False from a4).elim
theorem xOr (ha : PE C a (tE P w ma)) (hb : PE C (.BoolOp .Or (b :: rest) pos) (tE P w mb)) : PE C (.BoolOp .Or (a :: b :: rest) pos) (tE P w (eOr ma mb)) := peW (L2.pe_or ha hb) fun σ X Q e => by
  obtain ⟨r, h, l, ds, a1, a2, a3, a4⟩ := bindE (R := relE) (m := ma) (k := fun x _ l h => match x with
    | .bl true => .ok (.bl true) h
    | .bl false => mb l h
    | _ => .bad) e
  refine ⟨r, h, l, ds, a1, a2, a3, End.mono (fun v X1 q => ?_) a4⟩
  obtain ⟨r, h, l, ds, a1, a2, a3, a4⟩ := q
  cases a3 with
  | cons b1 b2 =>
    cases b1 with
    | bl b =>
      refine ⟨b, rfl, ?_⟩
      cases b with
      | false => exact ⟨r, h, l, [], a1, a2, .nil, a4⟩
      | true => exact a4 r _ _ .refl a1 (.bl _)
    | _ => exact (show False from a4).elim

/-! ### tests -/
theorem tru {r : List Addr} {X : Hp} {h : H} {d : D} {v : V} {k : Bool} (R : HR P r h X) (q : RV P.K X r d v) (e : truth d h = some k) : L2.TruV P.K v X k := by
  cases q with
  | non => cases e; rfl
  | bl b => cases e; rfl
  | int i => cases e; rfl
  | str x =>
    unfold truth at e
    dsimp only at e
    by_cases hz : x.cps.toList.length ≤ LIM
    · rw [if_pos hz] at e
      cases e
      refine ⟨lim (by simpa [Str.length] using hz), ?_⟩
      show (!x.cps.toList.isEmpty) = ((x.cps.size : Int) != 0)
      obtain ⟨⟨z⟩⟩ := x
      cases z with
      | nil => rfl
      | cons y ys => simp; omega
    · rw [if_neg hz] at e
      cases e
  | tup q1 q2 =>
    cases e
    refine .inr (.inl ⟨_, q1, ?_⟩)
    cases q2 <;> rfl
  | gls _ => cases e
  | ftup _ _ _ _ => cases e
  | ref q =>
    rename_i n a
    cases hc : h[n]? with
    | none =>
      simp only [truth, hc] at e
      cases e
    | some c =>
      cases c with
      | lst xs =>
        simp only [truth, hc] at e
        cases e
        obtain ⟨vs, q1, q2⟩ := R.cell n _ a hc q
        refine .inl ⟨vs, .inl (.inl q1), ?_⟩
        cases q2 <;> rfl
      | dct kvs =>
        simp only [truth, hc] at e
        cases e
      | ins _ _ =>
        simp only [truth, hc] at e
        cases e
      | tbl _ =>
        simp only [truth, hc] at e
        cases e
  | scr q =>
    cases e
    refine .inl ⟨_, q.sq, ?_⟩
    rename_i xs
    cases xs <;> rfl
theorem xTruth (hK : C.K = P.K) (ha : PE C a (tE P w ma)) (he : ∀ whole, isTrue a C.env whole = (do let v ← whole; standAt a.pos; holding [v] (truthy v)) := by intro _; rfl) : PT C a (tT P w (tTruth ma)) :=
  ptW (L2.pt_truth ha he) fun σ X Q e => by
    obtain ⟨r, h, l, ds, a1, a2, a3, a4⟩ := bindE (R := relT) (m := ma) (k := fun x _ l h => match truth x h with
      | some b => .ok b h
      | none => .bad) e
    refine ⟨r, h, l, ds, a1, a2, a3, End.mono (fun v X1 q => ?_) a4⟩
    obtain ⟨r, h, l, ds, a1, a2, a3, a4⟩ := q
    cases a3 with
    | cons b1 b2 =>
      have a4 : End relT P w r X1 σ (match truth _ h with
        | some b => .ok b h
        | none => .bad) Q := a4
      cases hk : truth _ h with
      | none =>
        rw [hk] at a4
        exact a4.elim
      | some k =>
        rw [hk] at a4
        exact ⟨k, by rw [hK]; exact tru a1 b1 hk, a4 r X1 k .refl a1 rfl⟩
/-- a bool as a test -/
theorem xTVal (ha : PE C a (tE P w ma)) (he : ∀ whole, isTrue a C.env whole = (do let v ← whole; standAt a.pos; holding [v] (truthy v)) := by intro _; rfl) : PT C a (tT P w (tVal ma)) :=
  ptW (L2.pt_val ha he) fun σ X Q e => by
    obtain ⟨r, h, l, ds, a1, a2, a3, a4⟩ := bindE (R := relT) (m := ma) (k := fun x _ l h => match x with
      | .bl b => .ok b h
      | _ => .bad) e
    refine ⟨r, h, l, ds, a1, a2, a3, End.mono (fun v X1 q => ?_) a4⟩
    obtain ⟨r, h, l, ds, a1, a2, a3, a4⟩ := q
    cases a3 with
    | cons b1 b2 =>
      cases b1 with
      | bl b => exact ⟨b, rfl, a4 r _ _ .refl a1 rfl⟩
      | _ => exact (show False from a4).elim
theorem xTCmp {f : D → D → H → Res D} [Calm2 f] {op : CmpOp} (ho : L2.OpR C (compareOp op) (r2 P f)) (ha : PE C a (tE P w ma)) (hb : PE C b (tE P w mb)) (hm : behindInMarks op b = false) : PT C (.Compare a [op] [b] pos) (tT P w (tVal (eBin f ma mb))) :=
  ptW (L2.pt_cmpR ho ha hb hm) fun σ X Q e => by
    obtain ⟨r, h, l, ds, a1, a2, a3, a4⟩ := bindE (R := relT) (m := eBin f ma mb) (k := fun x _ l h => match x with
      | .bl b => .ok b h
      | _ => .bad) e
    refine wBin (Q := fun x X1 => ∃ k, x = .bl k ∧ Q k X1) ⟨r, h, l, ds, a1, a2, a3, End.mono (fun v X1 q => ?_) a4⟩
    obtain ⟨r, h, l, ds, a1, a2, a3, a4⟩ := q
    cases a3 with
    | cons b1 b2 =>
      cases b1 with
      | bl b => exact ⟨b, rfl, a4 r _ _ .refl a1 rfl⟩
      | _ => exact (show False from a4).elim
theorem xTNot (ha : PT C a (tT P w ta)) : PT C (.UnaryOp .Not a pos) (tT P w (tNot ta)) := ptW (L2.pt_not ha) fun σ X Q e => by
  obtain ⟨r, h, l, ds, a1, a2, a3, a4⟩ := bindT (R := relT) (m := ta) (k := fun c _ l h => .ok (!c) h) e
  refine ⟨r, h, l, ds, a1, a2, a3, End.mono (fun c X1 q => ?_) a4⟩
  obtain ⟨r, h, l, ds, a1, a2, a3, a4⟩ := q
  exact a4 r X1 _ .refl a1 rfl
theorem xWAnd1 (ha : PT C a (tT P w ta)) : PW C (.BoolOp .And [a] pos) (tT P w ta) := L2.pw_and1 ha
theorem xWOr1 (ha : PT C a (tT P w ta)) : PW C (.BoolOp .Or [a] pos) (tT P w ta) := L2.pw_or1 ha
theorem xWAnd (ha : PT C a (tT P w ta)) (hb : PW C (.BoolOp .And (b :: rest) pos) (tT P w tb)) : PW C (.BoolOp .And (a :: b :: rest) pos) (tT P w (tAnd ta tb)) := pwW (L2.pw_and ha hb) fun σ X Q e => by
  obtain ⟨r, h, l, ds, a1, a2, a3, a4⟩ := bindT (R := relT) (m := ta) (k := fun c _ l h => if c = true then tb l h else .ok false h) e
  refine ⟨r, h, l, ds, a1, a2, a3, End.mono (fun c X1 q => ?_) a4⟩
  cases c with
  | true => exact q
  | false =>
    obtain ⟨r, h, l, ds, a1, a2, a3, a4⟩ := q
    exact a4 r X1 _ .refl a1 rfl
theorem xWOr (ha : PT C a (tT P w ta)) (hb : PW C (.BoolOp .Or (b :: rest) pos) (tT P w tb)) : PW C (.BoolOp .Or (a :: b :: rest) pos) (tT P w (tOr ta tb)) := pwW (L2.pw_or ha hb) fun σ X Q e => by
  obtain ⟨r, h, l, ds, a1, a2, a3, a4⟩ := bindT (R := relT) (m := ta) (k := fun c _ l h => if c = true then .ok true h else tb l h) e
  refine ⟨r, h, l, ds, a1, a2, a3, End.mono (fun c X1 q => ?_) a4⟩
  cases c with
  | false => exact q
  | true =>
    obtain ⟨r, h, l, ds, a1, a2, a3, a4⟩ := q
    exact a4 r X1 _ .refl a1 rfl
end

/-! ### statements -/
def EndS (P : Pm) (w : WX) (r : List Addr) (X : Hp) (z : SR) (D : Ends) : Prop := match z with
  | .nx l h' => ∀ r' X' σ, Stp r X r' X' → HR P r' h' X' → SL P.K X' r' l σ → D.nx σ X'
  | .bk l h' => ∀ r' X' σ, Stp r X r' X' → HR P r' h' X' → SL P.K X' r' l σ → D.bk σ X'
  | .ct l h' => ∀ r' X' σ, Stp r X r' X' → HR P r' h' X' → SL P.K X' r' l σ → D.ct σ X'
  | .rt d h' => ∀ r' X' v, Stp r X r' X' → HR P r' h' X' → RV P.K X' r' d v → D.rt v X'
  | .ex c fs l h' => ∀ r' X' σ cls dd, Stp r X r' X' → HR P r' h' X' → SL P.K X' r' l σ → RX P X' r' c fs cls dd → w cls dd σ X'
  | .bad => False
def tS (P : Pm) (w : WX) (m : S) : TS := fun D σ X => ∃ r h l, HR P r h X ∧ SL P.K X r l σ ∧ EndS P w r X (m l h) D
section
variable {P : Pm} {w : WX} {r r1 : List Addr} {X X1 : Hp} {h : H} {l : Loc} {σ : St} {α β : Type} {R : Rel α β} {D D' : Ends}
theorem EndS.step {z : SR} (s : Stp r X r1 X1) (e : EndS P w r X z D) : EndS P w r1 X1 z D := by
  cases z with
  | nx l h' => exact fun r' X' σ s' => e r' X' σ (s.trans s')
  | bk l h' => exact fun r' X' σ s' => e r' X' σ (s.trans s')
  | ct l h' => exact fun r' X' σ s' => e r' X' σ (s.trans s')
  | rt d h' => exact fun r' X' v s' => e r' X' v (s.trans s')
  | ex c fs l h' => exact fun r' X' σ cls dd s' => e r' X' σ cls dd (s.trans s')
  | bad => exact e
/-- what follows an expression in a statement -/
theorem EndS.ofRes {z : Res α} {k : α → H → SR} (R0 : HR P r h X) (q : SL P.K X r l σ) (e : EndS P w r X (ofRes l z k) D) :
    End R P w r X σ z fun b X1 => ∃ r1 h1 a, Stp r X r1 X1 ∧ HR P r1 h1 X1 ∧ SL P.K X1 r1 l σ ∧ R P X1 r1 a b ∧ EndS P w r1 X1 (k a h1) D := by
  cases z with
  | ok a h' => exact fun r' X' b s hr ha => ⟨r', h', a, s, hr, q.mono s R0.own, ha, EndS.step s e⟩
  | ex c fs h' => exact fun r' X' cls dd s hr hx => e r' X' σ cls dd s hr (q.mono s R0.own) hx
  | bad => exact e
theorem EndS.imp {z : SR} (hn : ∀ σ X, D.nx σ X → D'.nx σ X) (hb : ∀ σ X, D.bk σ X → D'.bk σ X) (hc : ∀ σ X, D.ct σ X → D'.ct σ X) (hr : ∀ v X, D.rt v X → D'.rt v X) (e : EndS P w r X z D) : EndS P w r X z D' := by
  cases z with
  | nx l h' => exact fun r' X' σ a b c => hn _ _ (e r' X' σ a b c)
  | bk l h' => exact fun r' X' σ a b c => hb _ _ (e r' X' σ a b c)
  | ct l h' => exact fun r' X' σ a b c => hc _ _ (e r' X' σ a b c)
  | rt d h' => exact fun r' X' v a b c => hr _ _ (e r' X' v a b c)
  | ex c fs l h' => exact e
  | bad => exact e
end
section
variable {C : Cx} {P : Pm} {w : WX} {a b c : Expr} {pos : Pos} {ma mb mc : E} {ta tb : T} {as : List Expr} {mas : A} {st : Stmt} {rest : List Stmt} {s1 s2 : S}
theorem ySeq (h1 : PS C st (tS P w s1)) (h2 : PSs C rest (tS P w s2)) : PSs C (st :: rest) (tS P w (sSeq s1 s2)) := pssW (L2.pss_cons h1 h2) fun D σ X ⟨r, h, l, a1, a2, a3⟩ => by
  refine ⟨r, h, l, a1, a2, ?_⟩
  have a3 : EndS P w r X (match s1 l h with
    | .nx l' h' => s2 l' h'
    | r => r) D := a3
  cases q : s1 l h with
  | nx l' h' =>
    rw [q] at a3
    exact fun r' X' σ' s hr hl => ⟨r', h', l', hr, hl, EndS.step s a3⟩
  | bk l h' =>
    rw [q] at a3
    exact a3
  | ct l h' =>
    rw [q] at a3
    exact a3
  | rt d h' =>
    rw [q] at a3
    exact a3
  | ex c fs l h' =>
    rw [q] at a3
    exact a3
  | bad =>
    rw [q] at a3
    exact a3
theorem yOne (h1 : PS C st (tS P w s1)) : PSs C [st] (tS P w s1) := L2.pss_one h1
theorem yNil : PSs C [] (tS P w sNext) := pssW L2.pss_nil fun D σ X ⟨r, h, l, a1, a2, a3⟩ => a3 r X σ .refl a1 a2
theorem yPass : PS C (.Pass pos) (tS P w sNext) := psW L2.ps_pass fun D σ X ⟨r, h, l, a1, a2, a3⟩ => a3 r X σ .refl a1 a2
theorem yBreak : PS C (.Break pos) (tS P w sBreak) := psW L2.ps_break fun D σ X ⟨r, h, l, a1, a2, a3⟩ => a3 r X σ .refl a1 a2
theorem yCont : PS C (.Continue pos) (tS P w sCont) := psW L2.ps_continue fun D σ X ⟨r, h, l, a1, a2, a3⟩ => a3 r X σ .refl a1 a2
theorem yDoc {x j pos'} : PS C (.Expr (.Constant (.str x) j pos) pos') (tS P w sNext) := psW L2.ps_doc fun D σ X ⟨r, h, l, a1, a2, a3⟩ => a3 r X σ .refl a1 a2
theorem yNever : PS C st (tS P w sNever) := psW L2.ps_never fun D σ X ⟨r, h, l, a1, a2, a3⟩ => a3
theorem yRetN : PS C (.Return none pos) (tS P w sRetN) := psW L2.ps_retN fun D σ X ⟨r, h, l, a1, a2, a3⟩ => a3 r X _ .refl a1 .non
theorem yRet (ha : PE C a (tE P w ma)) : PS C (.Return (some a) pos) (tS P w (sRet ma)) := psW (L2.ps_ret ha) fun D σ X ⟨r, h, l, a1, a2, a3⟩ =>
  ⟨r, h, l, [], a1, a2, .nil, End.mono (fun v X1 ⟨r1, h1, d, s, b1, b2, b3, b4⟩ => b4 r1 X1 v .refl b1 b3) (EndS.ofRes (R := relE) a1 a2 a3)⟩
theorem yDrop (ha : PE C a (tE P w ma)) (hs : swapsWith a none pos.line C.env = pure false := by rfl) : PS C (.Expr a pos) (tS P w (sDrop ma)) := psW (L2.ps_expr ha hs) fun D σ X ⟨r, h, l, a1, a2, a3⟩ =>
  ⟨r, h, l, [], a1, a2, .nil, End.mono (fun v X1 ⟨r1, h1, d, s, b1, b2, b3, b4⟩ => b4 r1 X1 σ .refl b1 b2) (EndS.ofRes (R := relE) a1 a2 a3)⟩
theorem yIf {t : Expr} {mt : T} {x y : List Stmt} (ht : PT C t (tT P w mt)) (hx : PSs C x (tS P w s1)) (hy : PSs C y (tS P w s2)) : PS C (.If t x y pos) (tS P w (sIf mt s1 s2)) := psW (L2.ps_if ht hx hy) fun D σ X ⟨r, h, l, a1, a2, a3⟩ =>
  ⟨r, h, l, [], a1, a2, .nil, End.mono (fun c X1 ⟨r1, h1, d, s, b1, b2, b3, b4⟩ => by
    have e : d = c := b3
    subst e
    cases d with
    | true => exact ⟨r1, h1, l, b1, b2, b4⟩
    | false => exact ⟨r1, h1, l, b1, b2, b4⟩) (EndS.ofRes (R := relT) a1 a2 a3)⟩

/-! ### targets -/
def tGt (P : Pm) (g : G) : TG := fun v σ X Q => ∃ r h l d, HR P r h X ∧ SL P.K X r l σ ∧ RV P.K X r d v ∧ (match g d l h with
  | some (l', h') => ∀ r' X' σ', Stp r X r' X' → HR P r' h' X' → SL P.K X' r' l' σ' → Q σ' X'
  | none => False)
def tGts (P : Pm) (g : Gs) : TGs := fun vs σ X Q => ∃ r h l ds, HR P r h X ∧ SL P.K X r l σ ∧ RVs P.K X r ds vs ∧ (match g ds l h with
  | some (l', h') => ∀ r' X' σ', Stp r X r' X' → HR P r' h' X' → SL P.K X' r' l' σ' → Q σ' X'
  | none => False)
theorem pgW {e : Expr} {t t' : TG} (p : PG C e t) (f : ∀ v σ X Q, t' v σ X Q → t v σ X Q) : PG C e t' := ⟨fun pins s σ H v u Q I rv h => p.run pins s σ H v u Q I rv (f v σ H Q h)⟩
theorem pgsW {e : List Expr} {t t' : TGs} (p : PGs C e t) (f : ∀ v σ X Q, t' v σ X Q → t v σ X Q) : PGs C e t' := ⟨fun pins s σ H v u Q I rv h => p.run pins s σ H v u Q I rv (f v σ H Q h)⟩
theorem gtName {i : Nat} {e : Expr} (hg : PG C e (L2.gName i)) : PG C e (tGt P (gName i)) := pgW hg fun v σ X Q ⟨r, h, l, d, a1, a2, a3, a4⟩ => a4 r X _ .refl a1 (a2.set i a3)
theorem gtNil : PGs C [] (tGts P gNil) := pgsW L2.pgs_nil fun vs σ X Q ⟨r, h, l, ds, a1, a2, a3, a4⟩ => by
  cases a3 with
  | nil => exact ⟨rfl, a4 r X σ .refl a1 a2⟩
  | cons _ _ => exact (show False from a4).elim
theorem gtCons {e : Expr} {es : List Expr} {g : G} {gs : Gs} (h1 : PG C e (tGt P g)) (h2 : PGs C es (tGts P gs)) (hs : (assignEach (e :: es) C.env).map (·.2) = assign e C.env :: (assignEach es C.env).map (·.2) := by rfl) :
    PGs C (e :: es) (tGts P (gCons g gs)) := pgsW (L2.pgs_cons h1 h2 hs) fun vs σ X Q ⟨r, h, l, ds, a1, a2, a3, a4⟩ => by
  cases a3 with
  | nil => exact (show False from a4).elim
  | @cons d v ds vs b1 b2 =>
    refine ⟨v, vs, rfl, r, h, l, d, a1, a2, b1, ?_⟩
    have a4 : (match (match g d l h with
      | some (l', h') => gs ds l' h'
      | none => none) with
      | some (l', h') => ∀ r' X' σ', Stp r X r' X' → HR P r' h' X' → SL P.K X' r' l' σ' → Q σ' X'
      | none => False) := a4
    cases q : g d l h with
    | none =>
      rw [q] at a4
      exact a4
    | some z =>
      obtain ⟨l', h'⟩ := z
      rw [q] at a4
      refine fun r' X' σ' s hr hl => ⟨r', h', l', ds, hr, hl, b2.mono s a1.own, ?_⟩
      revert a4
      dsimp only
      cases gs ds l' h' with
      | none => exact fun a4 => a4
      | some z => exact fun a4 r2 X2 σ2 s2 => a4 r2 X2 σ2 (s.trans s2)
theorem gtTup {es : List Expr} {k : Nat} {g : Gs} {n : Nat} (hK : C.K = P.K) (hc : C.calm = true) (h : PGs C es (tGts P g)) (hn : (assignEach es C.env).length = n := by rfl) (hst : (assignEach es C.env).findIdx? (·.1) = none := by rfl) :
    PG C (.Tuple es k pos) (tGt P (gTup n g)) := pgW (L2.pg_tup hc h hn hst) fun v σ X Q ⟨r, h, l, d, a1, a2, a3, a4⟩ => by
  cases a3 with
  | @tup a vs ds q1 q2 =>
    have a4 : (match (if ds.length = n then g ds l h else none) with
      | some (l', h') => ∀ r' X' σ', Stp r X r' X' → HR P r' h' X' → SL P.K X' r' l' σ' → Q σ' X'
      | none => False) := a4
    by_cases hl : ds.length = n
    · rw [if_pos hl] at a4
      exact ⟨a, vs, rfl, by rw [hK]; exact q1, by rw [← q2.length]; exact hl, r, h, l, ds, a1, a2, q2, a4⟩
    · rw [if_neg hl] at a4
      exact a4.elim
  | _ => exact (show False from a4).elim
theorem yAsg {tg : Expr} {g : G} (ha : PE C a (tE P w ma)) (hg : PG C tg (tGt P g)) (hs : swapsWithSole [tg] a pos.line C.env = pure false := by rfl) (hw : swappedStores [tg] a C.env = pure none := by rfl)
    (h1 : (assignEach [tg] C.env).map (·.2) = [assign tg C.env] := by rfl) : PS C (.Assign [tg] a pos) (tS P w (sAsg ma g)) := psW (L2.ps_asg ha hg hs hw h1) fun D σ X ⟨r, h, l, a1, a2, a3⟩ => by
  refine ⟨r, h, l, [], a1, a2, .nil, End.mono (fun v X1 ⟨r1, h1, d, s, b1, b2, b3, b4⟩ => ⟨r1, h1, l, d, b1, b2, b3, ?_⟩) (EndS.ofRes (R := relE) a1 a2 a3)⟩
  have b4 : EndS P w r1 X1 (match g d l h1 with
    | some (l2, h2) => .nx l2 h2
    | none => .bad) D := b4
  cases q : g d l h1 with
  | none =>
    rw [q] at b4
    exact b4
  | some z =>
    rw [q] at b4
    exact b4
theorem ySet {i : Nat} {x : Str} {pos' : Pos} (hN : C.N.Nodup) (hi : C.N[i]? = some x) (hx : L2.Loc C.env.scope x) (ha : PE C a (tE P w ma)) (hs : swapsWith a (some (.Name x pos')) pos.line C.env = pure false := by rfl)
    (hf : C.fn x = true ∨ C.env.scope.names.lookup x = some .local := by first | exact .inl rfl | exact .inr rfl | assumption) : PS C (.Assign [.Name x pos'] a pos) (tS P w (sAsg ma (gName i))) :=
  psW (L2.ps_set hN hi hx ha hs hf) fun D σ X ⟨r, h, l, a1, a2, a3⟩ =>
    ⟨r, h, l, [], a1, a2, .nil, End.mono (fun v X1 ⟨r1, h1, d, s, b1, b2, b3, b4⟩ => b4 r1 X1 _ .refl b1 (b2.set i b3)) (EndS.ofRes (R := relE) a1 a2 a3)⟩
theorem yPar {i j : Nat} {x y : Str} {px py pt : Pos} {kt k2 pt2} (hc : C.calm = true) (hN : C.N.Nodup) (hi : C.N[i]? = some x) (hj : C.N[j]? = some y) (hij : i ≠ j)
    (hx : C.env.scope.names.lookup x = some .local) (hy : C.env.scope.names.lookup y = some .local) (ha : PA C [a, b] (tA P w mas))
    (hw : swappedStores [.Tuple [.Name x px, .Name y py] kt pt] (.Tuple [a, b] k2 pt2) C.env = pure (some [x, y]))
    (hs : swapsWithSole [.Tuple [.Name x px, .Name y py] kt pt] (.Tuple [a, b] k2 pt2) pos.line C.env = pure false := by rfl) :
    PS C (.Assign [.Tuple [.Name x px, .Name y py] kt pt] (.Tuple [a, b] k2 pt2) pos) (tS P w (sPar i j mas)) :=
  psW (L2.ps_par hc hN hi hj hij hx hy ha hw hs) fun D σ X ⟨r, h, l, a1, a2, a3⟩ =>
    ⟨r, h, l, [], a1, a2, .nil, End.mono (fun vs X1 ⟨r1, h1, ds, s, b1, b2, b3, b4⟩ => by
      cases b3 with
      | nil => exact (show False from b4).elim
      | cons c1 c2 =>
        cases c2 with
        | nil => exact (show False from b4).elim
        | cons c3 c4 =>
          cases c4 with
          | cons _ _ => exact (show False from b4).elim
          | nil => exact ⟨_, _, rfl, b4 r1 X1 _ .refl b1 ((b2.set i c1).set j c3)⟩) (EndS.ofRes (R := relA) a1 a2 a3)⟩
end
end FL

end

section
set_option Elab.async false
set_option linter.all false
set_option maxRecDepth 100000
set_option maxHeartbeats 1000000
namespace FL
open PySem
open L2 (V Hp HO VK XK St TE TT TA TS TG TGs TI Ends PE PT PW PA PS PSs PG PGs PI Cx Inv SqL SqT Rd upd upd_same upd_ne WX)

/-! ### what is walked -/
def Yields (P : Pm) (J : L2.It) (xs : List D) (r' : List Addr) (X' : Hp) (h' : H) : Prop := ∀ i : Nat, (∀ d, xs[i]? = some d → J.go i X' ∧ ∀ x X'', J.yld i X' x X'' → Stp r' X' r' X'' ∧ HR P r' h' X'' ∧ RV P.K X'' r' d x) ∧ (xs[i]? = none → J.stop i X')
def relW : Rel It L2.It := fun P X r it J => match it with
  | .snap xs => ∀ r' X' h', Stp r X r' X' → HR P r' h' X' → Yields P J xs r' X' h'
  | .live n => ∀ r' X' h' xs, Stp r X r' X' → HR P r' h' X' → h'[n]? = some (.lst xs) → Yields P J xs r' X' h'
  | .dyn f _ => ∀ r' X' h' xs, Stp r X r' X' → HR P r' h' X' → f h' = some xs → Yields P J xs r' X' h'
def tW (P : Pm) (w : WX) (m : W) : TI := tK relW P w (fun _ => m) []
theorem piW {C : Cx} {tg e : Expr} {t t' : TI} (p : PI C tg e t) (f : ∀ σ X Q, t' σ X Q → t σ X Q) : PI C tg e t' := ⟨fun pins s σ H Q I h => p.run pins s σ H Q I (f σ H Q h)⟩

section
variable {P : Pm} {w : WX} {r r1 : List Addr} {X X1 : Hp} {h h1 : H} {l l1 : Loc} {σ : St} {D : Ends}
/-- one turn of a loop: g and b at an item that has come -/
theorem turn_ok {g : G} {b : S} {d : FL.D} {N : St → Hp → Prop} {x : V} (R0 : HR P r h X) (q : SL P.K X r l σ) (hd : RV P.K X r d x)
    (e : EndS P w r X (match turnS g b d l h with
      | .nx l2 h2 => .nx l2 h2
      | .ct l2 h2 => .nx l2 h2
      | z => z) { D with nx := N, bk := D.nx }) : tGt P g x σ X fun σ2 X2 => tS P w b { D with nx := N, ct := N, bk := D.nx } σ2 X2 := by
  refine ⟨r, h, l, d, R0, q, hd, ?_⟩
  unfold turnS at e
  cases hg : g d l h with
  | none =>
    rw [hg] at e
    exact e
  | some z =>
    obtain ⟨l', h'⟩ := z
    rw [hg] at e
    refine fun r' X' σ' s hr hl => ⟨r', h', l', hr, hl, ?_⟩
    have e := EndS.step s e
    revert e
    dsimp only
    cases b l' h' with
    | nx l2 h2 => exact fun e => e
    | ct l2 h2 => exact fun e => e
    | bk l2 h2 => exact fun e => e
    | rt d h2 => exact fun e => e
    | ex c fs l2 h2 => exact fun e => e
    | bad => exact fun e => e
end
section
variable {C : Cx} {P : Pm} {w : WX} {a b c : Expr} {pos : Pos} {ma mb mc : E} {ta tb : T} {as : List Expr} {mas : A}
theorem yFor {tg iter : Expr} {body : List Stmt} {m : W} {g : G} {s : S} (hp : PassesOwn (model C.prog C.w) C.A C.env C.xe) (hc : C.calm = true) (hi : PI C tg iter (tW P w m)) (hg : PG C tg (tGt P g)) (hb : PSs C body (tS P w s))
    (hs : ∀ x, foldedSetIterable iter C.env x = pure x := by intro _; rfl) : PS C (.For tg iter body [] pos) (tS P w (sFor m g s)) := psW (L2.ps_for hp hc hi hg hb hs) fun D σ X ⟨r, h, l, a1, a2, a3⟩ => by
  refine ⟨r, h, l, [], a1, a2, .nil, End.mono (fun J X1 ⟨r1, h1, it, st, b1, b2, b3, b4⟩ => ?_) (EndS.ofRes (R := relW) a1 a2 a3)⟩
  cases it with
  | snap xs =>
    refine ⟨fun i m σ' X' => m = xs.length - i ∧ i ≤ xs.length ∧ ∃ r' h' l', Stp r1 X1 r' X' ∧ HR P r' h' X' ∧ SL P.K X' r' l' σ' ∧ EndS P w r' X' (loopS g s (xs.drop i) l' h') D, ⟨xs.length, by omega, Nat.zero_le _, r1, h1, l, .refl, b1, b2, b4⟩, ?_⟩
    rintro i m σ' X' ⟨rfl, hi, r', h', l', c1, c2, c3, c4⟩
    have Y := b3 r' X' h' c1 c2 i
    by_cases hlt : i < xs.length
    · obtain ⟨Yg, Yy⟩ := Y.1 xs[i] (List.getElem?_eq_getElem hlt)
      refine .inr ⟨Yg, fun σ2 X2 => (i + 1) ≤ xs.length ∧ ∃ r' h' l', Stp r1 X1 r' X2 ∧ HR P r' h' X2 ∧ SL P.K X2 r' l' σ2 ∧ EndS P w r' X2 (loopS g s (xs.drop (i + 1)) l' h') D, fun σ2 X2 q => ⟨xs.length - (i + 1), by omega, rfl, q⟩, fun x X'' hy => ?_⟩
      obtain ⟨s2, hr2, hx⟩ := Yy x X'' hy
      refine turn_ok hr2 (c3.mono s2 c2.own) hx ?_
      rw [List.drop_eq_getElem_cons hlt] at c4
      have c5 := EndS.step s2 c4
      have cs : Stp r1 X1 r' X'' := c1.trans s2
      have c5 : EndS P w r' X'' (match turnS g s xs[i] l' h' with
        | .nx l2 h2 => loopS g s (xs.drop (i + 1)) l2 h2
        | .ct l2 h2 => loopS g s (xs.drop (i + 1)) l2 h2
        | .bk l2 h2 => .nx l2 h2
        | r => r) D := c5
      revert c5
      cases turnS g s xs[i] l' h' with
      | nx l2 h2 => exact fun e r3 X3 σ3 s3 hr3 hl3 => ⟨hlt, r3, h2, l2, cs.trans s3, hr3, hl3, EndS.step s3 e⟩
      | ct l2 h2 => exact fun e r3 X3 σ3 s3 hr3 hl3 => ⟨hlt, r3, h2, l2, cs.trans s3, hr3, hl3, EndS.step s3 e⟩
      | bk l2 h2 => exact fun e => e
      | rt d h2 => exact fun e => e
      | ex c fs l2 h2 => exact fun e => e
      | bad => exact fun e => e
    · have e : i = xs.length := by omega
      subst e
      rw [List.drop_length] at c4
      exact .inl ⟨Y.2 (List.getElem?_eq_none (Nat.le_refl _)), c4 r' X' σ' .refl c2 c3⟩
  | live n =>
    refine ⟨fun i f σ' X' => ∃ r' h' l', Stp r1 X1 r' X' ∧ HR P r' h' X' ∧ SL P.K X' r' l' σ' ∧ EndS P w r' X' (loopL g s n f i l' h') D, ⟨lenAt h1 n + 1, r1, h1, l, .refl, b1, b2, b4⟩, ?_⟩
    rintro i f σ' X' ⟨r', h', l', c1, c2, c3, c4⟩
    cases f with
    | zero => exact c4.elim
    | succ f =>
      have c4 : EndS P w r' X' (match h'[n]? with
        | some (.lst xs) => (match xs[i]? with
          | none => .nx l' h'
          | some d => match turnS g s d l' h' with
            | .nx l2 h2 => loopL g s n f (i + 1) l2 h2
            | .ct l2 h2 => loopL g s n f (i + 1) l2 h2
            | .bk l2 h2 => .nx l2 h2
            | r => r)
        | _ => .bad) D := c4
      cases hn : h'[n]? with
      | none =>
        rw [hn] at c4
        exact c4.elim
      | some cl =>
        cases cl with
        | dct _ =>
          rw [hn] at c4
          exact c4.elim
        | ins _ _ =>
          rw [hn] at c4
          exact c4.elim
        | tbl _ =>
          rw [hn] at c4
          exact c4.elim
        | lst xs =>
          rw [hn] at c4
          have Y := b3 r' X' h' xs c1 c2 hn i
          dsimp only at c4
          cases hx : xs[i]? with
          | none =>
            rw [hx] at c4
            exact .inl ⟨Y.2 hx, c4 r' X' σ' .refl c2 c3⟩
          | some d =>
            rw [hx] at c4
            obtain ⟨Yg, Yy⟩ := Y.1 d hx
            refine .inr ⟨Yg, fun σ2 X2 => ∃ r' h' l', Stp r1 X1 r' X2 ∧ HR P r' h' X2 ∧ SL P.K X2 r' l' σ2 ∧ EndS P w r' X2 (loopL g s n f (i + 1) l' h') D, fun σ2 X2 q => ⟨f, Nat.lt_succ_self _, q⟩, fun x X'' hy => ?_⟩
            obtain ⟨s2, hr2, hx⟩ := Yy x X'' hy
            refine turn_ok hr2 (c3.mono s2 c2.own) hx ?_
            have c5 := EndS.step s2 c4
            have cs : Stp r1 X1 r' X'' := c1.trans s2
            revert c5
            dsimp only
            cases turnS g s d l' h' with
            | nx l2 h2 => exact fun e r3 X3 σ3 s3 hr3 hl3 => ⟨r3, h2, l2, cs.trans s3, hr3, hl3, EndS.step s3 e⟩
            | ct l2 h2 => exact fun e r3 X3 σ3 s3 hr3 hl3 => ⟨r3, h2, l2, cs.trans s3, hr3, hl3, EndS.step s3 e⟩
            | bk l2 h2 => exact fun e => e
            | rt d h2 => exact fun e => e
            | ex c fs l2 h2 => exact fun e => e
            | bad => exact fun e => e
  | dyn u k =>
    refine ⟨fun i f σ' X' => ∃ r' h' l', Stp r1 X1 r' X' ∧ HR P r' h' X' ∧ SL P.K X' r' l' σ' ∧ EndS P w r' X' (loopD g s u f i l' h') D, ⟨k, r1, h1, l, .refl, b1, b2, b4⟩, ?_⟩
    rintro i f σ' X' ⟨r', h', l', c1, c2, c3, c4⟩
    cases f with
    | zero => exact c4.elim
    | succ f =>
      have c4 : EndS P w r' X' (match u h' with
        | some xs => (match xs[i]? with
          | none => .nx l' h'
          | some d => match turnS g s d l' h' with
            | .nx l2 h2 => loopD g s u f (i + 1) l2 h2
            | .ct l2 h2 => loopD g s u f (i + 1) l2 h2
            | .bk l2 h2 => .nx l2 h2
            | r => r)
        | none => .bad) D := c4
      cases hn : u h' with
      | none =>
        rw [hn] at c4
        exact c4.elim
      | some xs =>
          rw [hn] at c4
          have Y := b3 r' X' h' xs c1 c2 hn i
          dsimp only at c4
          cases hx : xs[i]? with
          | none =>
            rw [hx] at c4
            exact .inl ⟨Y.2 hx, c4 r' X' σ' .refl c2 c3⟩
          | some d =>
            rw [hx] at c4
            obtain ⟨Yg, Yy⟩ := Y.1 d hx
            refine .inr ⟨Yg, fun σ2 X2 => ∃ r' h' l', Stp r1 X1 r' X2 ∧ HR P r' h' X2 ∧ SL P.K X2 r' l' σ2 ∧ EndS P w r' X2 (loopD g s u f (i + 1) l' h') D, fun σ2 X2 q => ⟨f, Nat.lt_succ_self _, q⟩, fun x X'' hy => ?_⟩
            obtain ⟨s2, hr2, hx⟩ := Yy x X'' hy
            refine turn_ok hr2 (c3.mono s2 c2.own) hx ?_
            have c5 := EndS.step s2 c4
            have cs : Stp r1 X1 r' X'' := c1.trans s2
            revert c5
            dsimp only
            cases turnS g s d l' h' with
            | nx l2 h2 => exact fun e r3 X3 σ3 s3 hr3 hl3 => ⟨r3, h2, l2, cs.trans s3, hr3, hl3, EndS.step s3 e⟩
            | ct l2 h2 => exact fun e r3 X3 σ3 s3 hr3 hl3 => ⟨r3, h2, l2, cs.trans s3, hr3, hl3, EndS.step s3 e⟩
            | bk l2 h2 => exact fun e => e
            | rt d h2 => exact fun e => e
            | ex c fs l2 h2 => exact fun e => e
            | bad => exact fun e => e
end
end FL

end

section
set_option Elab.async false
set_option linter.all false
set_option maxRecDepth 100000
set_option maxHeartbeats 1000000
namespace FL
open PySem PySem.Spec PyProof.Rows
open L2 (V Hp HO VK XK St TE TT TA TS TG TGs TI Ends PE PT PW PA PS PSs PG PGs PI Cx Inv SqL SqT Rd upd upd_same upd_ne WX)

section
variable {C : Cx} {P : Pm} {w : WX} {tg a : Expr} {ma : E} {pos : Pos}
/-- a list or a tuple is walked -/
theorem piSq {l : Expr} {tl : TE} (hl : PE C l tl) : PI C tg l fun σ X R => tl σ X fun x X1 => ∃ a, x = .ref a ∧ ((∃ xs, SqL C.K X1 a xs) ∧ R (L2.Itl C.K a) X1 ∨ (∃ xs, SqT C.K X1 a xs) ∧ R (L2.Itt C.K a) X1) := ⟨fun pins s σ X R I h =>
  L2.thn (hl.run pins s σ X _ I h) fun v s1 ⟨x, X1, I1, rx, a, ex, q⟩ => by
    subst ex
    obtain rfl : v = Value.ref a := rx
    have fp : ∀ b ∈ [s1.heap.objs.size], L2.FpOk C pins X1 b := fun b hb => by
      rw [List.mem_singleton.mp hb]
      exact I1.fpOk (Nat.le_refl _) (I1.hok.fresh (Nat.le_refl _))
    rcases q with ⟨⟨xs, hq⟩, q⟩ | ⟨⟨xs, hq⟩, q⟩
    · obtain ⟨its, rv, p, hz⟩ := I1.list hq
      exact wpAny_pyIter_list p.isList ⟨_, [s1.heap.objs.size], _, _, X1, rfl, I1.kept (t' := s1.toks) (fun b o e => Heap.get?_push_of_some _ e), L2.turn_list a _, ⟨_, Heap.get?_push_size _ rfl, rfl, rfl⟩, fp, q⟩
    · obtain ⟨its, rv, p, hz⟩ := I1.tuple hq
      exact wpAny_pyIter_tuple (show s1.heap.IsTuple a its.toArray from p) ⟨_, [s1.heap.objs.size], _, _, X1, rfl, I1.kept (t' := s1.toks) (fun b o e => Heap.get?_push_of_some _ e), L2.turn_tuple a _, ⟨_, Heap.get?_push_size _ rfl, rfl, rfl⟩, fp, q⟩⟩
/-- a place of a sequence that stands -/
theorem RVs.none_of {K : PySem.W.Frag} {X : Hp} {r : List Addr} {ds : List D} {vs : List V} {i : Nat} (q : RVs K X r ds vs) (e : ds[i]? = none) : vs.length ≤ i := by
  rw [← q.length]
  exact List.getElem?_eq_none_iff.mp e

theorem yl_tup {r r' : List Addr} {X X' : Hp} {h' : H} {a : Addr} {vs : List V} {ds : List D} (o : Own r X) (q : SqT C.K X a vs) (qs : RVs P.K X r ds vs) (s : Stp r X r' X') (hr : HR P r' h' X') (hK : C.K = P.K) : Yields P (L2.Itt C.K a) ds r' X' h' := by
  rw [hK] at q ⊢
  have q' := s.sqT o q
  have qs' := qs.mono s o
  refine fun i => ⟨fun d hd => ?_, fun hd => ⟨vs, q', qs'.none_of hd⟩⟩
  obtain ⟨v, e1, e2⟩ := qs'.get hd
  refine ⟨⟨vs, v, q', e1⟩, fun x X'' hy => ?_⟩
  obtain ⟨rfl, hy⟩ := hy
  have e3 : some v = some x := e1.symm.trans (hy vs q')
  cases e3
  exact ⟨.refl, hr, e2⟩
theorem yl_lst {r' : List Addr} {X' : Hp} {h' : H} {a : Addr} {vs : List V} {ds : List D} (q : SqL C.K X' a vs) (qs : RVs P.K X' r' ds vs) (hr : HR P r' h' X') : Yields P (L2.Itl C.K a) ds r' X' h' := by
  refine fun i => ⟨fun d hd => ?_, fun hd => ⟨vs, q, qs.none_of hd⟩⟩
  obtain ⟨v, e1, e2⟩ := qs.get hd
  refine ⟨⟨vs, v, q, e1⟩, fun x X'' hy => ?_⟩
  obtain ⟨rfl, hy⟩ := hy
  have e3 : some v = some x := e1.symm.trans (hy vs q)
  cases e3
  exact ⟨.refl, hr, e2⟩
theorem RVs.ints {K : PySem.W.Frag} {X : Hp} {r : List Addr} : ∀ xs : List Int, RVs K X r (xs.map D.int) (xs.map V.int)
  | [] => .nil
  | x :: xs => .cons (.int x) (RVs.ints xs)
theorem piSeq (hK : C.K = P.K) (ha : PE C a (tE P w ma)) : PI C tg a (tW P w (wSeq ma)) := piW (piSq ha) fun σ X Q e => by
  obtain ⟨r, h, l, ds, a1, a2, a3, a4⟩ := bindE (R := relW) (m := ma) (k := fun d _ l h1 => match d with
    | .tup xs => .ok (.snap xs) h1
    | .scr xs => .ok (.snap (xs.map .int)) h1
    | .ref n => (match h1[n]? with
      | some (.lst _) => .ok (.live n) h1
      | _ => .bad)
    | _ => .bad) e
  refine ⟨r, h, l, ds, a1, a2, a3, End.mono (fun v X1 q => ?_) a4⟩
  obtain ⟨r, h, l, ds, a1, a2, a3, a4⟩ := q
  cases a3 with
  | cons b1 b2 =>
    cases b1 with
    | @tup a vs ds q1 q2 => exact ⟨a, rfl, .inr ⟨⟨vs, by rw [hK]; exact q1⟩, a4 r X1 _ .refl a1 fun r' X' h' s hr => yl_tup a1.own (by rw [hK]; exact q1) q2 s hr hK⟩⟩
    | @scr a xs q1 =>
      exact ⟨a, rfl, .inl ⟨⟨_, by rw [hK]; exact q1.sq⟩, a4 r X1 _ .refl a1 fun r' X' h' s hr => yl_lst (by rw [hK]; exact (s.scr a1.own q1).sq) (RVs.ints xs) hr⟩⟩
    | @ref n a q1 =>
      have a4 : End relW P w r X1 σ (match h[n]? with
        | some (.lst _) => .ok (.live n) h
        | _ => .bad) Q := a4
      cases hc : h[n]? with
      | none =>
        rw [hc] at a4
        exact a4.elim
      | some c =>
        cases c with
        | dct _ =>
          rw [hc] at a4
          exact a4.elim
        | ins _ _ =>
          rw [hc] at a4
          exact a4.elim
        | tbl _ =>
          rw [hc] at a4
          exact a4.elim
        | lst xs =>
          rw [hc] at a4
          obtain ⟨vs, z1, z2⟩ := a1.lst hc q1
          refine ⟨a, rfl, .inl ⟨⟨vs, .inl (.inl z1)⟩, a4 r X1 _ .refl a1 fun r' X' h' ys s hr hn => ?_⟩⟩
          have ea : r'[n]? = some a := by
            obtain ⟨t, et⟩ := s.pre
            rw [et, List.getElem?_append_left (List.getElem?_eq_some_iff.mp q1).1]
            exact q1
          obtain ⟨vs', z1', z2'⟩ := hr.lst hn ea
          exact yl_lst (.inl (.inl z1')) z2' hr
    | _ => exact (show False from a4).elim
theorem limI {i : Int} (h : i ≤ LIM) : i < 2 ^ 62 := by
  unfold LIM at h
  have : (50000 : Int) < 2 ^ 62 := by decide
  omega
theorem limI' {i : Int} (h : -(LIM : Int) ≤ i) : -(2 ^ 62) ≤ i := by
  unfold LIM at h
  have : (50000 : Int) < 2 ^ 62 := by decide
  omega
theorem yl_rng {lo hi : Int} {r' : List Addr} {X' : Hp} {h' : H} (hr : HR P r' h' X') : Yields P (L2.Itr lo (hi - lo).toNat) (rng lo hi) r' X' h' := by
  refine fun i => ⟨fun d hd => ?_, fun hd => ?_⟩
  · unfold rng at hd
    rw [List.getElem?_map] at hd
    obtain ⟨k, hk, e⟩ := Option.map_eq_some_iff.mp hd
    obtain ⟨hl, e2⟩ := List.getElem?_eq_some_iff.mp hk
    rw [List.getElem_range] at e2
    subst e2
    rw [List.length_range] at hl
    refine ⟨hl, fun x X'' hy => ?_⟩
    obtain ⟨rfl, rfl⟩ := hy
    exact ⟨.refl, hr, by rw [← e]; exact .int _⟩
  · have hl := List.getElem?_eq_none_iff.mp hd
    unfold rng at hl
    rw [List.length_map, List.length_range] at hl
    exact hl
variable {b : Expr} {mas : A}
theorem piRng1 {p : Pos} (hg : L2.Gl C "range") (hm : C.mg "range" = none) (ha : PA C [a] (tA P w mas)) (hs : starEach [a] C.env = [(false, eval a C.env)] := by rfl) : PI C tg (.Call (.Name "range" p) [a] [] pos) (tW P w (wRng1 mas)) :=
  piW (L2.pi_range1 hg hm ha hs) fun σ X Q e => by
    obtain ⟨r, h, l, ds, a1, a2, a3, a4⟩ := bindA (R := relW) (m := mas) (k := fun ds _ l h1 => match ds with
      | [.int j] => if -LIM ≤ j ∧ j ≤ LIM then .ok (.snap (rng 0 j)) h1 else .bad
      | _ => .bad) e
    refine ⟨r, h, l, ds, a1, a2, a3, End.mono (fun vs X1 q => ?_) a4⟩
    obtain ⟨r, h, l, ys, ds, a1, a2, a3, a5, a4⟩ := q
    cases a3 with
    | nil => exact (show False from a4).elim
    | cons b1 b2 =>
      cases b2 with
      | cons _ _ => cases b1 <;> exact (show False from a4).elim
      | nil =>
        cases b1 with
        | int j =>
          have a4 : End relW P w r X1 σ (if -LIM ≤ j ∧ j ≤ LIM then .ok (.snap (rng 0 j)) h else .bad) Q := a4
          by_cases hz : -LIM ≤ j ∧ j ≤ LIM
          · rw [if_pos hz] at a4
            refine ⟨j, rfl, limI' hz.1, limI hz.2, a4 r X1 _ .refl a1 fun r' X' h' s hr => ?_⟩
            have z := yl_rng (P := P) (lo := 0) (hi := j) hr
            rw [Int.sub_zero] at z
            exact z
          · rw [if_neg hz] at a4
            exact a4.elim
        | _ => exact (show False from a4).elim
theorem piRng2 {p : Pos} (hg : L2.Gl C "range") (hm : C.mg "range" = none) (ha : PA C [a, b] (tA P w mas)) (hs : starEach [a, b] C.env = [(false, eval a C.env), (false, eval b C.env)] := by rfl) (hs2 : starEach [b] C.env = [(false, eval b C.env)] := by rfl) :
    PI C tg (.Call (.Name "range" p) [a, b] [] pos) (tW P w (wRng2 mas)) :=
  piW (L2.pi_range2 hg hm ha hs hs2) fun σ X Q e => by
    obtain ⟨r, h, l, ds, a1, a2, a3, a4⟩ := bindA (R := relW) (m := mas) (k := fun ds _ l h1 => match ds with
      | [.int i, .int j] => if -LIM ≤ i ∧ i ≤ LIM ∧ -LIM ≤ j ∧ j ≤ LIM then .ok (.snap (rng i j)) h1 else .bad
      | _ => .bad) e
    refine ⟨r, h, l, ds, a1, a2, a3, End.mono (fun vs X1 q => ?_) a4⟩
    obtain ⟨r, h, l, ys, ds, a1, a2, a3, a5, a4⟩ := q
    cases a3 with
    | nil => exact (show False from a4).elim
    | cons b1 b2 =>
      cases b2 with
      | nil => cases b1 <;> exact (show False from a4).elim
      | cons b3 b4 =>
        cases b4 with
        | cons _ _ => cases b1 <;> cases b3 <;> exact (show False from a4).elim
        | nil =>
          cases b1 with
          | int i =>
            cases b3 with
            | int j =>
              have a4 : End relW P w r X1 σ (if -LIM ≤ i ∧ i ≤ LIM ∧ -LIM ≤ j ∧ j ≤ LIM then .ok (.snap (rng i j)) h else .bad) Q := a4
              by_cases hz : -LIM ≤ i ∧ i ≤ LIM ∧ -LIM ≤ j ∧ j ≤ LIM
              · rw [if_pos hz] at a4
                exact ⟨i, j, rfl, ⟨limI' hz.1, limI hz.2.1, limI' hz.2.2.1, limI hz.2.2.2⟩, a4 r X1 _ .refl a1 fun r' X' h' s hr => yl_rng (P := P) (lo := i) (hi := j) hr⟩
              · rw [if_neg hz] at a4
                exact a4.elim
            | _ => exact (show False from a4).elim
          | _ => cases b3 <;> exact (show False from a4).elim

end
end FL

end

section
set_option Elab.async false
set_option linter.all false
set_option maxRecDepth 100000
set_option maxHeartbeats 1000000
namespace FL
open PySem
open L2 (V Hp HO VK XK St TE TT TA TS TG TGs TI Ends PE PT PW PA PS PSs PG PGs PI Cx Inv SqL SqT Rd upd upd_same upd_ne WX)

/-! ### comprehensions -/
abbrev w0 : WX := fun _ _ _ _ => False
theorem wipe_set : ∀ (vs : List Nat) (σ : St) (v : Option V) (i : Nat), i ∈ vs → L2.wipe (σ.set i v) vs = L2.wipe σ vs
  | [], _, _, _, h => absurd h (by simp)
  | x :: vs, σ, v, i, h => by
    by_cases hi : i ∈ vs
    · show (L2.wipe (σ.set i v) vs).set x none = (L2.wipe σ vs).set x none
      rw [wipe_set vs σ v i hi]
    · have e : i = x := by
        rcases List.mem_cons.mp h with z | z
        · exact z
        · exact absurd z hi
      subst e
      have push : ∀ (vs : List Nat) (σ : St), i ∉ vs → L2.wipe (σ.set i v) vs = (L2.wipe σ vs).set i v := by
        intro vs
        induction vs with
        | nil => intro σ _; rfl
        | cons y ys ih =>
          intro σ hn
          show (L2.wipe (σ.set i v) ys).set y none = ((L2.wipe σ ys).set y none).set i v
          rw [ih σ (fun z => hn (List.mem_cons_of_mem _ z)), List.set_comm]
          exact fun z => hn (by rw [z]; exact List.mem_cons_self)
      show (L2.wipe (σ.set i v) vs).set i none = (L2.wipe σ vs).set i none
      rw [push vs σ hi, List.set_set]
theorem wipe_wipe (σ : St) : ∀ vs us : List Nat, (∀ i ∈ vs, i ∈ us) → L2.wipe (L2.wipe σ vs) us = L2.wipe σ us
  | [], _, _ => rfl
  | v :: vs, us, h => by
    show L2.wipe ((L2.wipe σ vs).set v none) us = L2.wipe σ us
    rw [wipe_set us _ none v (h v List.mem_cons_self), wipe_wipe σ vs us fun i hi => h i (List.mem_cons_of_mem _ hi)]
/-- a comprehension's target: it stores its own names alone -/
structure TgOk (P : Pm) (gL : TG) (g : G) (vs : List Nat) : Prop where
  same : ∀ d l h l' h', g d l h = some (l', h') → h' = h
  ok : ∀ (v : V) (σ : St) (X : Hp) (r : List Addr) (h : H) (l : Loc) (d : D) (Q : St → Hp → Prop) (l' : Loc) (h' : H), SL P.K X r l σ → RV P.K X r d v → g d l h = some (l', h') → (∀ σ', L2.wipe σ' vs = L2.wipe σ vs → SL P.K X r l' σ' → Q σ' X) → gL v σ X Q
structure TgsOk (P : Pm) (gL : TGs) (g : Gs) (vs : List Nat) : Prop where
  same : ∀ d l h l' h', g d l h = some (l', h') → h' = h
  ok : ∀ (v : List V) (σ : St) (X : Hp) (r : List Addr) (h : H) (l : Loc) (d : List D) (Q : St → Hp → Prop) (l' : Loc) (h' : H), SL P.K X r l σ → RVs P.K X r d v → g d l h = some (l', h') → (∀ σ', L2.wipe σ' vs = L2.wipe σ vs → SL P.K X r l' σ' → Q σ' X) → gL v σ X Q
section
variable {P : Pm} {vs : List Nat} {K : PySem.W.Frag}
theorem tgName {i : Nat} (hi : i ∈ vs) : TgOk P (L2.gName i) (gName i) vs := ⟨fun d l h l' h' e => by
  cases e
  rfl, fun v σ X r h l d Q l' h' a1 a2 e k => by
  cases e
  exact k _ (wipe_set vs σ _ i hi) (a1.set i a2)⟩
theorem tgNil : TgsOk P L2.gNil gNil vs := by
  refine ⟨fun d l h l' h' e => ?_, fun v σ X r h l d Q l' h' a1 a2 e k => ?_⟩
  · cases d with
    | nil =>
      cases e
      rfl
    | cons _ _ => cases e
  · cases a2 with
    | nil =>
      cases e
      exact ⟨rfl, k σ rfl a1⟩
    | cons _ _ => cases e
theorem gCons_some {g : G} {gs : Gs} {d : D} {ds : List D} {l l' : Loc} {h h' : H} (e : gCons g gs (d :: ds) l h = some (l', h')) : ∃ l1 h1, g d l h = some (l1, h1) ∧ gs ds l1 h1 = some (l', h') := by
  have e : (match g d l h with
    | some (l', h') => gs ds l' h'
    | none => none) = some (l', h') := e
  cases q : g d l h with
  | none =>
    rw [q] at e
    cases e
  | some z =>
    rw [q] at e
    exact ⟨z.1, z.2, rfl, e⟩
theorem tgCons {gL : TG} {gsL : TGs} {g : G} {gs : Gs} (a : TgOk P gL g vs) (b : TgsOk P gsL gs vs) : TgsOk P (L2.gCons gL gsL) (gCons g gs) vs := ⟨fun d l h l' h' e => by
  cases d with
  | nil => cases e
  | cons d ds =>
    obtain ⟨l1, h1, e1, e2⟩ := gCons_some e
    rw [b.same _ _ _ _ _ e2, a.same _ _ _ _ _ e1], fun v σ X r h l d Q l' h' a1 a2 e k => by
  cases a2 with
  | nil => cases e
  | @cons d v ds vs' b1 b2 =>
    obtain ⟨l1, h1, e1, e2⟩ := gCons_some e
    have eh := a.same _ _ _ _ _ e1
    subst eh
    exact ⟨v, vs', rfl, a.ok v σ X r h1 l d (fun σ' X' => gsL vs' σ' X' Q) l1 h1 a1 b1 e1 fun σ' w1 s1 => b.ok vs' σ' X r h1 l1 ds Q l' h' s1 b2 e2 fun σ2 w2 s2 => k σ2 (w2.trans w1) s2⟩⟩
theorem tgTup {gsL : TGs} {gs : Gs} {n : Nat} (b : TgsOk P gsL gs vs) : TgOk P (L2.gTup P.K n gsL) (gTup n gs) vs := by
  refine ⟨fun d l h l' h' e => ?_, fun v σ X r h l d Q l' h' a1 a2 e k => ?_⟩
  · cases d with
    | tup xs =>
      have e : (if xs.length = n then gs xs l h else none) = some (l', h') := e
      by_cases hn : xs.length = n
      · rw [if_pos hn] at e
        exact b.same _ _ _ _ _ e
      · rw [if_neg hn] at e
        cases e
    | _ => cases e
  · cases a2 with
    | @tup a ws ds q1 q2 =>
      have e : (if ds.length = n then gs ds l h else none) = some (l', h') := e
      by_cases hn : ds.length = n
      · rw [if_pos hn] at e
        exact ⟨a, ws, rfl, q1, by rw [← q2.length]; exact hn, b.ok ws σ X r h l ds Q l' h' a1 q2 e k⟩
      · rw [if_neg hn] at e
        cases e
    | _ => cases e
end
theorem res_bind_ok {α β : Type} {z : Res α} {k : α → H → Res β} {b : β} {h : H} (e : z.bind k = .ok b h) : ∃ a h1, z = .ok a h1 ∧ k a h1 = .ok b h := by
  cases z with
  | ok a h1 => exact ⟨a, h1, rfl, e⟩
  | ex c fs h1 => cases e
  | bad => cases e
section
variable {P : Pm} {w : WX} {r r1 : List Addr} {X X1 : Hp} {h h1 : H} {l l1 : Loc} {σ : St}
/-- what leans on other objects alone -/
theorem RV.map {K : PySem.W.Frag} {d : D} {v : V} (t : ∀ a vs, SqT K X a vs → SqT K X1 a vs) (s : ∀ a vs, ScrAt K X a vs → ScrAt K X1 a vs) (f : ∀ (a : Addr) (o : Obj) (u : HO), X a = some (.frz o u) → X1 a = some (.frz o u)) (q : RV K X r d v) : RV K X1 r d v := by
  induction q using RV.rec (motive_2 := fun ds vs _ => RVs K X1 r ds vs) with
  | non => exact .non
  | bl b => exact .bl b
  | int i => exact .int i
  | str x => exact .str x
  | tup q _ ih => exact .tup (t _ _ q) ih
  | ref q => exact .ref q
  | scr q => exact .scr (s _ _ q)
  | gls a => exact .gls a
  | ftup q c d _ ih => exact .ftup (f _ _ _ q) c d ih
  | nil => exact .nil
  | cons _ _ h1 h2 => exact .cons h1 h2
theorem RVs.map {K : PySem.W.Frag} (t : ∀ a vs, SqT K X a vs → SqT K X1 a vs) (s : ∀ a vs, ScrAt K X a vs → ScrAt K X1 a vs) (f : ∀ (a : Addr) (o : Obj) (u : HO), X a = some (.frz o u) → X1 a = some (.frz o u)) : ∀ {ds : List D} {vs : List V}, RVs K X r ds vs → RVs K X1 r ds vs
  | _, _, .nil => .nil
  | _, _, .cons h1 h2 => .cons (h1.map t s f) (RVs.map t s f h2)
theorem frz_upd {p a : Addr} {ws ws' : List V} {o : Obj} {u : HO} (hp : X p = some (.lst ws)) (q : X a = some (.frz o u)) : upd X p (.lst ws') a = some (.frz o u) := by rw [upd_ne (fun z => by rw [z, hp] at q; cases q)]; exact q
theorem sqT_upd {K : PySem.W.Frag} {p a : Addr} {ws ws' vs : List V} (hp : X p = some (.lst ws)) (q : SqT K X a vs) : SqT K (upd X p (.lst ws')) a vs := by
  rcases q with (q | ⟨o, q⟩) | q
  · exact .inl (.inl (by rw [upd_ne (fun z => by rw [z, hp] at q; cases q)]; exact q))
  · exact .inl (.inr ⟨o, by rw [upd_ne (fun z => by rw [z, hp] at q; cases q)]; exact q⟩)
  · exact .inr q
theorem scr_upd {K : PySem.W.Frag} {p a : Addr} {ws ws' vs : List V} (hp : X p = some (.lst ws)) (q : ScrAt K X a vs) : ScrAt K (upd X p (.lst ws')) a vs := by
  rcases q with ⟨o, q⟩ | q
  · exact .inl ⟨o, by rw [upd_ne (fun z => by rw [z, hp] at q; cases q)]; exact q⟩
  · exact .inr q
theorem HR.out_upd {p : Addr} {ws ws' : List V} (R : HR P r h X) (hp : X p = some (.lst ws)) (hn : p ∉ r) : HR P r h (upd X p (.lst ws')) := by
  refine ⟨R.len, R.nd, fun n c a e1 e2 => ?_⟩
  have ne : a ≠ p := fun z => hn (by rw [← z]; exact List.mem_of_getElem? e2)
  have q := R.cell n c a e1 e2
  have m : ∀ {ds vs}, RVs P.K X r ds vs → RVs P.K (upd X p (.lst ws')) r ds vs := fun q => q.map (fun _ _ => sqT_upd hp) (fun _ _ => scr_upd hp) (fun _ _ _ => frz_upd hp)
  cases c with
  | lst xs =>
    obtain ⟨vs, q1, q2⟩ := q
    exact ⟨vs, by rw [upd_ne ne]; exact q1, m q2⟩
  | dct kvs =>
    obtain ⟨vs, q1, q2⟩ := q
    exact ⟨vs, q1.upd ne, m q2⟩
  | ins c fs =>
    obtain ⟨dx, vs, q1, q2, q3, q4⟩ := q
    exact ⟨dx, vs, by rw [upd_ne ne]; exact q1, by rw [upd_ne (fun z => by rw [z, hp] at q2; cases q2)]; exact q2, m q3, q4⟩
  | tbl t =>
    obtain ⟨h0, ps, h1, h2, h3⟩ := q
    refine ⟨h0, ps, by rw [upd_ne ne]; exact h1, h2, fun pos cv hc => ?_⟩
    obtain ⟨c, e1, e2⟩ := h3 pos cv hc
    exact ⟨c, e1, by rw [upd_ne (fun z => by rw [z, hp] at e2; unfold LamX.CodeO at e2; cases e2)]; exact e2⟩
theorem Stp.late {r' : List Addr} {X' : Hp} {p : Addr} {o : HO} (s : Stp r X r' X') (hp : X p = none) : Stp r X r' (upd X' p o) := ⟨s.pre, s.new, fun a u e hn ht => by
  rw [upd_ne (fun z => by rw [z, hp] at e; cases e)]
  exact s.kp a u e hn ht⟩
/-- the state of a comprehension behind some turns -/
structure LcSt (P : Pm) (r0 : List Addr) (X0 : Hp) (Dl : Addr) (r : List Addr) (h : H) (acc : List D) (X : Hp) : Prop where
  st : Stp r0 X0 r X
  hr : HR P r h X
  out : Dl ∉ r
  at_ : ∃ ws, X Dl = some (.lst ws) ∧ RVs P.K X r acc ws
theorem LcSt.go {r0 : List Addr} {X0 : Hp} {Dl : Addr} {acc : List D} (L : LcSt P r0 X0 Dl r h acc X) {r' : List Addr} {X' : Hp} {h' : H} (s : Stp r X r' X') (hr : HR P r' h' X') : LcSt P r0 X0 Dl r' h' acc X' := by
  obtain ⟨ws, w1, w2⟩ := L.at_
  refine ⟨L.st.trans s, hr, fun hm => ?_, ws, s.kp _ _ w1 L.out (fun _ z => by cases z), w2.mono s L.hr.own⟩
  obtain ⟨_, z⟩ := s.new _ hm L.out _ w1
  cases z
/-- one turn of a comprehension -/
theorem lc_turn {gL : TG} {g : G} {vs : List Nat} {t : T} {e : E} {d : D} {x : V} {acc acc' : List D} {h' : H} {r0 : List Addr} {X0 : Hp} {Dl : Addr} {Nx : Hp → Prop} (tg : TgOk P gL g vs) (L : LcSt P r0 X0 Dl r h acc X) (h0 : X0 Dl = none) (q : SL P.K X r l σ) (hd : RV P.K X r d x)
    (ez : lcTurn g t e l d acc h = .ok acc' h') (k : ∀ r' X', Stp r0 X0 r' X' → LcSt P r0 X0 Dl r' h' acc' X' → Nx X') :
    gL x σ X fun σ2 X2 => L2.wipe σ2 vs = L2.wipe σ vs ∧ tT P w0 t σ2 X2 fun b X3 => if b = true then tE P w0 e σ2 X3 fun y X4 => ∃ acc, X4 Dl = some (.lst acc) ∧ acc.length < sizeLine ∧ Nx (upd X4 Dl (.lst (acc ++ [y]))) else Nx X3 := by
  unfold lcTurn at ez
  cases eg : g d l h with
  | none =>
    rw [eg] at ez
    cases ez
  | some z =>
    obtain ⟨l1, h1⟩ := z
    rw [eg] at ez
    have eh := tg.same _ _ _ _ _ eg
    subst eh
    refine tg.ok x σ X r h1 l d _ l1 h1 q hd eg fun σ' w1 s1 => ⟨w1, r, h1, l1, [], L.hr, s1, .nil, ?_⟩
    dsimp only at ez
    cases et : t l1 h1 with
    | ex _ _ _ =>
      rw [et] at ez
      cases ez
    | bad =>
      rw [et] at ez
      cases ez
    | ok b h2 =>
      rw [et] at ez
      show End relT P w0 r X σ' (t l1 h1) _
      rw [et]
      refine fun r2 X2 b' s2 hr2 eb => ?_
      have eb : b = b' := eb
      subst eb
      have L2' := L.go s2 hr2
      cases b with
      | false =>
        cases ez
        exact k _ _ L2'.st L2'
      | true =>
        refine ⟨r2, h2, l1, [], hr2, s1.mono s2 L.hr.own, .nil, ?_⟩
        dsimp only at ez
        cases ee : e l1 h2 with
        | ex _ _ _ =>
          rw [ee] at ez
          cases ez
        | bad =>
          rw [ee] at ez
          cases ez
        | ok y h3 =>
          rw [ee] at ez
          show End relE P w0 r2 X2 σ' (e l1 h2) _
          rw [ee]
          dsimp only at ez
          by_cases hz : acc.length < LIM
          · rw [if_pos hz] at ez
            cases ez
            refine fun r3 X3 v s3 hr3 hv => ?_
            have L3 := L2'.go s3 hr3
            obtain ⟨ws, a1, a2⟩ := L3.at_
            refine ⟨ws, a1, limLt (by rw [← a2.length]; exact hz), ?_⟩
            have m : ∀ {ds vs}, RVs P.K X3 r3 ds vs → RVs P.K (upd X3 Dl (.lst (ws ++ [v]))) r3 ds vs := fun q => q.map (fun _ _ => sqT_upd a1) (fun _ _ => scr_upd a1) (fun _ _ _ => frz_upd a1)
            have st := L3.st.late (o := .lst (ws ++ [v])) h0
            exact k r3 _ st ⟨st, hr3.out_upd a1 L3.out, L3.out, _, upd_same, m (a2.append (.cons hv .nil))⟩
          · rw [if_neg hz] at ez
            cases ez
/-- behind the last turn -/
theorem LcSt.fin {r0 : List Addr} {X0 : Hp} {Dl : Addr} {acc : List D} {Q : VK} (L : LcSt P r0 X0 Dl r h acc X) (h0 : X0 Dl = none) (e : End relE P w r0 X0 σ (alloc (.lst acc) h) Q) : Q (.ref Dl) X := by
  obtain ⟨ws, a1, a2⟩ := L.at_
  refine e (r ++ [Dl]) X (.ref Dl) ⟨?_, fun a h1 h2 => ?_, L.st.kp⟩ (L.hr.push L.out ⟨ws, a1, a2.ext _⟩) (.ref L.hr.last)
  · obtain ⟨t, et⟩ := L.st.pre
    exact ⟨t ++ [Dl], by rw [et, List.append_assoc]⟩
  · rcases List.mem_append.mp h1 with z | z
    · exact L.st.new a z h2
    · intro u e
      rw [List.mem_singleton.mp z, h0] at e
      cases e
end
section
variable {C : Cx} {P : Pm} {w : WX} {pos : Pos}
/-- the reading of a comprehension -/
theorem wComp {m : W} {gL : TG} {g : G} {t : T} {e : E} {vs : List Nat} {σ : St} {X : Hp} {Q : VK} (tg : TgOk P gL g vs) (q : tE P w (eComp m g t e vs) σ X Q) : L2.tLc (tW P w m) gL (tT P w0 t) (tE P w0 e) vs σ X Q := by
  obtain ⟨r, h, l, ds, a1, a2, a3, a4⟩ := q
  refine ⟨r, h, l, ds, a1, a2, a3, End.mono (fun J X1 ⟨r1, h1, it, st, b1, b2, b3⟩ => fun Dl hD => ?_) (End.bind (R0 := relW) a4)⟩
  have sl := (a2.mono st a1.own).wipe vs
  have L0 : LcSt P r1 X1 Dl r1 h1 [] (upd X1 Dl (.lst [])) := ⟨Stp.fresh hD, b1.fresh hD, b1.out hD, [], upd_same, .nil⟩
  have slot : ∀ {r' X'}, Stp r1 X1 r' X' → SL P.K X' r' (wipe l vs) (L2.wipe σ vs) := fun s => sl.mono s b1.own
  cases it with
  | snap xs =>
    refine ⟨fun i m X' => m = xs.length - i ∧ i ≤ xs.length ∧ ∃ r' h' acc, LcSt P r1 X1 Dl r' h' acc X' ∧ End relE P w r1 X1 σ ((lcS g t e (wipe l vs) (xs.drop i) acc h').bind fun acc h2 => alloc (.lst acc) h2) Q, ⟨xs.length, by omega, Nat.zero_le _, r1, h1, [], L0, b3⟩, ?_⟩
    rintro i m X' ⟨rfl, hi, r', h', acc, L, c4⟩
    have Y := b2 r' X' h' L.st L.hr i
    by_cases hlt : i < xs.length
    · obtain ⟨Yg, Yy⟩ := Y.1 xs[i] (List.getElem?_eq_getElem hlt)
      refine .inr ⟨Yg, fun X2 => (i + 1) ≤ xs.length ∧ ∃ r' h' acc, LcSt P r1 X1 Dl r' h' acc X2 ∧ End relE P w r1 X1 σ ((lcS g t e (wipe l vs) (xs.drop (i + 1)) acc h').bind fun acc h2 => alloc (.lst acc) h2) Q, fun X2 q => ⟨xs.length - (i + 1), by omega, rfl, q⟩, fun x X'' hy => ?_⟩
      obtain ⟨s2, hr2, hx⟩ := Yy x X'' hy
      have L' := L.go s2 hr2
      rw [List.drop_eq_getElem_cons hlt] at c4
      have c5 : End relE P w r1 X1 σ ((match lcTurn g t e (wipe l vs) xs[i] acc h' with
        | .ok acc' h' => lcS g t e (wipe l vs) (xs.drop (i + 1)) acc' h'
        | _ => .bad).bind fun acc h2 => alloc (.lst acc) h2) Q := c4
      cases ez : lcTurn g t e (wipe l vs) xs[i] acc h' with
      | ex _ _ _ =>
        rw [ez] at c5
        exact c5.elim
      | bad =>
        rw [ez] at c5
        exact c5.elim
      | ok acc' h2 =>
        rw [ez] at c5
        have z := lc_turn (Nx := fun X2 => (i + 1) ≤ xs.length ∧ ∃ r' h' acc, LcSt P r1 X1 Dl r' h' acc X2 ∧ End relE P w r1 X1 σ ((lcS g t e (wipe l vs) (xs.drop (i + 1)) acc h').bind fun acc h2 => alloc (.lst acc) h2) Q) tg L' hD (slot L'.st) hx ez fun r2 X2 s3 L2 => ⟨hlt, r2, h2, acc', L2, c5⟩
        rw [wipe_wipe σ vs vs fun _ h => h] at z
        exact z
    · have ei : i = xs.length := by omega
      subst ei
      rw [List.drop_length] at c4
      exact .inl ⟨Y.2 (List.getElem?_eq_none (Nat.le_refl _)), L.fin hD c4⟩
  | live n =>
    refine ⟨fun i f X' => ∃ r' h' acc, LcSt P r1 X1 Dl r' h' acc X' ∧ End relE P w r1 X1 σ ((lcL g t e (wipe l vs) n f i acc h').bind fun acc h2 => alloc (.lst acc) h2) Q, ⟨lenAt h1 n + 1, r1, h1, [], L0, b3⟩, ?_⟩
    rintro i f X' ⟨r', h', acc, L, c4⟩
    cases f with
    | zero => exact c4.elim
    | succ f =>
      have c4 : End relE P w r1 X1 σ ((match h'[n]? with
        | some (.lst xs) => (match xs[i]? with
          | none => Res.ok acc h'
          | some d => match lcTurn g t e (wipe l vs) d acc h' with
            | .ok acc' h' => lcL g t e (wipe l vs) n f (i + 1) acc' h'
            | _ => Res.bad)
        | _ => Res.bad : Res (List D)).bind fun acc h2 => alloc (.lst acc) h2) Q := c4
      cases hn : h'[n]? with
      | none =>
        rw [hn] at c4
        exact c4.elim
      | some cl =>
        cases cl with
        | dct _ =>
          rw [hn] at c4
          exact c4.elim
        | ins _ _ =>
          rw [hn] at c4
          exact c4.elim
        | tbl _ =>
          rw [hn] at c4
          exact c4.elim
        | lst xs =>
          rw [hn] at c4
          have Y := b2 r' X' h' xs L.st L.hr hn i
          dsimp only at c4
          cases hx : xs[i]? with
          | none =>
            rw [hx] at c4
            exact .inl ⟨Y.2 hx, L.fin hD c4⟩
          | some d =>
            rw [hx] at c4
            obtain ⟨Yg, Yy⟩ := Y.1 d hx
            refine .inr ⟨Yg, fun X2 => ∃ r' h' acc, LcSt P r1 X1 Dl r' h' acc X2 ∧ End relE P w r1 X1 σ ((lcL g t e (wipe l vs) n f (i + 1) acc h').bind fun acc h2 => alloc (.lst acc) h2) Q, fun X2 q => ⟨f, Nat.lt_succ_self _, q⟩, fun x X'' hy => ?_⟩
            obtain ⟨s2, hr2, hx⟩ := Yy x X'' hy
            have L' := L.go s2 hr2
            dsimp only at c4
            cases ez : lcTurn g t e (wipe l vs) d acc h' with
            | ex _ _ _ =>
              rw [ez] at c4
              exact c4.elim
            | bad =>
              rw [ez] at c4
              exact c4.elim
            | ok acc' h2 =>
              rw [ez] at c4
              have z := lc_turn (Nx := fun X2 => ∃ r' h' acc, LcSt P r1 X1 Dl r' h' acc X2 ∧ End relE P w r1 X1 σ ((lcL g t e (wipe l vs) n f (i + 1) acc h').bind fun acc h2 => alloc (.lst acc) h2) Q) tg L' hD (slot L'.st) hx ez fun r2 X2 s3 L2 => ⟨r2, h2, acc', L2, c4⟩
              rw [wipe_wipe σ vs vs fun _ h => h] at z
              exact z
  | dyn u k =>
    refine ⟨fun i f X' => ∃ r' h' acc, LcSt P r1 X1 Dl r' h' acc X' ∧ End relE P w r1 X1 σ ((lcD g t e (wipe l vs) u f i acc h').bind fun acc h2 => alloc (.lst acc) h2) Q, ⟨k, r1, h1, [], L0, b3⟩, ?_⟩
    rintro i f X' ⟨r', h', acc, L, c4⟩
    cases f with
    | zero => exact c4.elim
    | succ f =>
      have c4 : End relE P w r1 X1 σ ((match u h' with
        | some xs => (match xs[i]? with
          | none => Res.ok acc h'
          | some d => match lcTurn g t e (wipe l vs) d acc h' with
            | .ok acc' h' => lcD g t e (wipe l vs) u f (i + 1) acc' h'
            | _ => Res.bad)
        | none => Res.bad : Res (List D)).bind fun acc h2 => alloc (.lst acc) h2) Q := c4
      cases hn : u h' with
      | none =>
        rw [hn] at c4
        exact c4.elim
      | some xs =>
          rw [hn] at c4
          have Y := b2 r' X' h' xs L.st L.hr hn i
          dsimp only at c4
          cases hx : xs[i]? with
          | none =>
            rw [hx] at c4
            exact .inl ⟨Y.2 hx, L.fin hD c4⟩
          | some d =>
            rw [hx] at c4
            obtain ⟨Yg, Yy⟩ := Y.1 d hx
            refine .inr ⟨Yg, fun X2 => ∃ r' h' acc, LcSt P r1 X1 Dl r' h' acc X2 ∧ End relE P w r1 X1 σ ((lcD g t e (wipe l vs) u f (i + 1) acc h').bind fun acc h2 => alloc (.lst acc) h2) Q, fun X2 q => ⟨f, Nat.lt_succ_self _, q⟩, fun x X'' hy => ?_⟩
            obtain ⟨s2, hr2, hx⟩ := Yy x X'' hy
            have L' := L.go s2 hr2
            dsimp only at c4
            cases ez : lcTurn g t e (wipe l vs) d acc h' with
            | ex _ _ _ =>
              rw [ez] at c4
              exact c4.elim
            | bad =>
              rw [ez] at c4
              exact c4.elim
            | ok acc' h2 =>
              rw [ez] at c4
              have z := lc_turn (Nx := fun X2 => ∃ r' h' acc, LcSt P r1 X1 Dl r' h' acc X2 ∧ End relE P w r1 X1 σ ((lcD g t e (wipe l vs) u f (i + 1) acc h').bind fun acc h2 => alloc (.lst acc) h2) Q) tg L' hD (slot L'.st) hx ez fun r2 X2 s3 L2 => ⟨r2, h2, acc', L2, c4⟩
              rw [wipe_wipe σ vs vs fun _ h => h] at z
              exact z
abbrev Blk (C : Cx) (scope : Scope) (f : Cx → Prop) : Prop := ∀ (s : Shared) (X : Hp) (c : Addr) (cl : List (Str × Addr)) (fp : List Addr), f (C.blk s X scope (PySem.compEnvC scope cl c C.env) fp)
end
end FL

end

section
set_option Elab.async false
set_option linter.all false
set_option maxRecDepth 100000
set_option maxHeartbeats 1000000
namespace FL
open PySem
open L2 (V Hp HO VK XK St TE TT TA TS TG TGs TI Ends PE PT PW PA PS PSs PG PGs PI Cx Inv SqL SqT Rd upd upd_same upd_ne WX Room)

section
variable {C : Cx} {P : Pm} {w : WX} {a b c : Expr} {pos : Pos} {ma mb mc : E} {ta tb : T} {as : List Expr} {mas : A}
theorem ptsW {e : List Expr} {t t' : TT} (p : L2.PTs C e t) (f : ∀ σ X Q, t' σ X Q → t σ X Q) : L2.PTs C e t' := ⟨fun pins s σ H Q I h => p.run pins s σ H Q I (f σ H Q h)⟩
theorem xTsNil : L2.PTs C [] (tT P w tYes) := ptsW L2.pts_nil fun σ X Q ⟨r, h, l, ds, a1, a2, a3, a4⟩ => a4 r X true .refl a1 rfl
theorem xTsOne (ht : PT C a (tT P w ta)) : L2.PTs C [a] (tT P w ta) := L2.pts_one ht
theorem xComp {elt tg iter : Expr} {ifs : List Expr} {scope : Scope} {own : List (Str × Nat)} {m : W} {gL : TG} {g : G} {t : T} {e : E} (hc : C.calm = true) (hN : C.N.Nodup) (hi : PI C tg iter (tW P w m)) (ok : L2.BlkOk C.N C.env.scope scope own) (tk : TgOk P gL g (own.map (·.2)))
    (hg : Blk C scope fun C' => PG C' tg gL) (ht : Blk C scope fun C' => L2.PTs C' ifs (tT P w0 t)) (he : Blk C scope fun C' => PE C' elt (tE P w0 e)) (hs : ∀ x, foldedSetIterable iter C.env x = pure x := by intro _; rfl) :
    PE C (.ListComp elt [⟨tg, iter, ifs, 0⟩] scope pos) (tE P w (eComp m g t e (own.map (·.2)))) := peW (L2.pe_lc hc hN hi ok hg ht he hs) fun _ _ _ q => wComp tk q
theorem ySetComp {i : Nat} {y : Str} {py : Pos} {elt tg iter : Expr} {ifs : List Expr} {scope : Scope} {own : List (Str × Nat)} {spos : Pos} {m : W} {gL : TG} {g : G} {t : T} {e : E} (hc : C.calm = true) (hN : C.N.Nodup) (hy : C.N[i]? = some y) (hyl : C.env.scope.names.lookup y = some .local)
    (hsw : swapsWith (.ListComp elt [⟨tg, iter, ifs, 0⟩] scope pos) (some (.Name y py)) spos.line C.env = pure true) (hi : PI C tg iter (tW P w m)) (ok : L2.BlkOk C.N C.env.scope scope own) (tk : TgOk P gL g (own.map (·.2)))
    (hg : Blk C scope fun C' => PG C' tg gL) (ht : Blk C scope fun C' => L2.PTs C' ifs (tT P w0 t)) (he : Blk C scope fun C' => PE C' elt (tE P w0 e)) (hs : ∀ x, foldedSetIterable iter C.env x = pure x := by intro _; rfl) :
    PS C (.Assign [.Name y py] (.ListComp elt [⟨tg, iter, ifs, 0⟩] scope pos) spos) (tS P w (sAsg (eComp m g t e (own.map (·.2))) (gName i))) :=
  psW (L2.ps_setLc hc hN hy hyl hsw hi ok hg ht he hs) fun D σ X ⟨r, h, l, a1, a2, a3⟩ => by
    have z := EndS.ofRes (R := relE) a1 a2 a3
    refine wComp (w := w) (Q := fun v X1 => D.nx (σ.set i (some v)) X1) tk ⟨r, h, l, [], a1, a2, .nil, End.mono (fun v X1 ⟨r1, h1, d, s, b1, b2, b3, b4⟩ => b4 r1 X1 _ .refl b1 (b2.set i b3)) z⟩
end

/-! ### defs -/
/-- what a def promises: its function on values -/
def spF (P : Pm) (n : Nat) (f : F) : L2.Sp := fun vs X Q Ex => vs.length = n ∧ ∃ r h ds, HR P r h X ∧ RVs P.K X r ds vs ∧ End relE P (fun cls dd _ X' => Ex cls dd X') r X [] (f ds h) Q
/-- a def that keeps its promise (g: where no list's text is being made around it) -/
def FnX (g : Bool) (Pg : Program) (wd : World) (K : PySem.W.Frag) (mg : Str → Option Value) (base : Heap) (k : Nat) (f : Addr) (sp : L2.Sp) : Prop :=
  ∀ (A : Around) (outer : List Env) (s : Shared) (X : Hp) (us : List Value) (vs : List V) (Q : VK) (Ex : XK), Room k A → (g = true → A.guards = some []) → L2.Env0 Pg wd K mg base A outer s X → L2.Vals vs us → sp vs X Q Ex →
    codeAny (model Pg wd) A (.call (.ref f) ⟨us, []⟩) (L2.CR (L2.CX Pg wd) outer Pg wd X s Q Ex) s
/-- where a body is walked -/
structure Bd (g : Bool) (C : Cx) (w : WX) (k : Nat) : Prop where
  room : Room k C.A
  gd : g = true → C.A.guards = some []
  tk : L2.Takes C w
  po : PassesOwn (model C.prog C.w) C.A C.env C.xe
  calm : C.calm = true
theorem takes00 {C : Cx} : L2.Takes C w0 := fun _ _ ⟨_, _, _, _, _, _, _, _, _, _, _, _, _, _, _, _, z⟩ => z.elim
theorem Bd.blk {g : Bool} {C : Cx} {w : WX} {k : Nat} (B : Bd g C w k) (s : Shared) (X : Hp) (scope : Scope) (e : Env) (fp : List Addr) : Bd g (C.blk s X scope e fp) w0 k := ⟨B.room, B.gd, takes00, PassesOwn.never, B.calm⟩
section
variable {g : Bool} {Pg : Program} {wd : World} {K : PySem.W.Frag} {mg : Str → Option Value} {base : Heap} {k j n : Nat} {f : Addr} {fd : FuncData} {P : Pm} {x qual : Str} {params : Arguments} {body : List Stmt} {scope : Scope} {N ps : List Str} {m : S} {fm : F}
theorem FnX.mono {sp : L2.Sp} (F : FnX g Pg wd K mg base j f sp) (h : j ≤ k) : FnX g Pg wd K mg base k f sp := fun A outer s X us vs Q Ex hr => F A outer s X us vs Q Ex (hr.mono h)
theorem start_ok {r : List Addr} {X : Hp} {ds : List D} {vs : List V} (nn : Nat) (hn : N.length = nn) (q : RVs K X r ds vs) : SL K X r (start nn ds) (L2.start N vs) := by
  subst hn
  unfold start L2.start
  refine ⟨by simp [q.length], fun i d e => ?_⟩
  by_cases hi : i < ds.length
  · rw [List.getElem?_append_left (by simpa using hi), List.getElem?_map] at e
    obtain ⟨d', e1, e2⟩ := Option.map_eq_some_iff.mp e
    cases e2
    obtain ⟨v, e3, e4⟩ := q.get e1
    refine ⟨v, ?_, e4⟩
    rw [List.getElem?_append_left (by rw [List.length_map, ← q.length]; exact hi), List.getElem?_map, e3]
    rfl
  · rw [List.getElem?_append_right (by rw [List.length_map]; omega)] at e
    have e2 := List.mem_of_getElem? e
    simp at e2
/-- a body's reading from the promise -/
theorem body_ok {X : Hp} {vs : List V} {Q : VK} {Ex : XK} (nn kk : Nat) (hn : N.length = nn) (h : spF P kk (fn nn kk m) vs X Q Ex) : tS P (fun cls dd _ X' => Ex cls dd X') m { nx := fun _ H' => Q .non H', rt := Q } (L2.start N vs) X := by
  obtain ⟨hl, r, h, ds, a1, a2, a3⟩ := h
  refine ⟨r, h, start nn ds, a1, start_ok nn hn a2, ?_⟩
  unfold fn at a3
  rw [if_pos (by rw [a2.length]; exact hl)] at a3
  revert a3
  cases m (start nn ds) h with
  | nx l h' => exact fun a3 r' X' σ s hr _ => a3 r' X' _ s hr .non
  | rt d h' => exact fun a3 => a3
  | bk l h' => exact fun a3 => (show False from a3).elim
  | ct l h' => exact fun a3 => (show False from a3).elim
  | ex c fs l h' => exact fun a3 r' X' σ cls dd s hr _ hx => a3 r' X' cls dd s hr hx
  | bad => exact fun a3 => a3
/-- THE RULE for a def -/
theorem okDef (nn kk : Nat) (hn : N.length = nn) (hk : ps.length = kk) (F : L2.FunD K x qual params body scope [] [] f fd) (S : L2.FnScope N ps scope) (hb : ∀ us : List Value, us.length = ps.length → ∀ s, BindsTo s fd ⟨us, []⟩ (ps.zip us))
    (hbody : ∀ (cdv : Value) (A : Around) (outer : List Env) (s : Shared) (X : Hp) (Ex : XK), Bd g (L2.cxOf (L2.CX Pg wd) Pg wd K mg base N qual scope f cdv A outer s X Ex) (fun cls dd _ X' => Ex cls dd X') k →
      PSs (L2.cxOf (L2.CX Pg wd) Pg wd K mg base N qual scope f cdv A outer s X Ex) body (tS P (fun cls dd _ X' => Ex cls dd X') m)) : FnX g Pg wd K mg base (k + 1) f (spF P kk (fn nn kk m)) := by
  intro A outer s X us vs Q Ex hr hg e0 rv hs
  obtain ⟨oc, od, dV, kV, doc, pm, an, cdv, ct, osl, rfl, lk, hcd, hD, _⟩ := F.ex
  have hl : vs.length = ps.length := by rw [hk]; exact hs.1
  refine LamX.run_ofS lk hcd S hr e0 (hb us (by rw [← rv.length]; exact hl) s) rv hl fun hr' => ?_
  refine ⟨_, hbody cdv A outer s X Ex ⟨hr', hg, L2.takes_of rfl rfl rfl rfl, L2.passes_of rfl, rfl⟩, body_ok nn kk hn hs⟩
/-- .. for the rules that ask FnOk -/
theorem okDef' (nn kk : Nat) (hn : N.length = nn) (hk : ps.length = kk) (F : L2.FunD K x qual params body scope [] [] f fd) (S : L2.FnScope N ps scope)
    (hbody : ∀ (cdv : Value) (A : Around) (outer : List Env) (s : Shared) (X : Hp) (Ex : XK), Bd false (L2.cxOf (L2.CX Pg wd) Pg wd K mg base N qual scope f cdv A outer s X Ex) (fun cls dd _ X' => Ex cls dd X') k →
      PSs (L2.cxOf (L2.CX Pg wd) Pg wd K mg base N qual scope f cdv A outer s X Ex) body (tS P (fun cls dd _ X' => Ex cls dd X') m)) : L2.FnOk Pg wd K mg base (L2.CX Pg wd) (k + 1) f fd ps (spF P kk (fn nn kk m)) :=
  F.ok S (fun vs X Q Ex h => by rw [hk]; exact h.1) fun cdv A outer s X vs Q Ex hr hs =>
    ⟨_, hbody cdv A outer s X Ex ⟨hr, (fun z => by cases z), L2.takes_of rfl rfl rfl rfl, L2.passes_of rfl, rfl⟩, body_ok nn kk hn hs⟩
end
/-! ### calls -/
section
variable {g : Bool} {C : Cx} {P : Pm} {w : WX} {k j n : Nat} {f : Addr} {x : Str} {p pos : Pos} {e : Expr} {es : List Expr} {mas : A} {fm : F}
/-- what a caller knows of a def -/
structure Cal (g : Bool) (C : Cx) (P : Pm) (x : Str) (k n : Nat) (fm : F) : Prop where
  ex : ∃ f, FnX g C.prog C.w C.K C.mg C.base k f (spF P n fm) ∧ C.mg x = some (.ref f) ∧ PySem.W.keepIn C.K (.ref f) = true
  ar : ∀ ds h, ds.length ≠ n → fm ds h = .bad
theorem fn_ar {nn kk : Nat} {m : S} : ∀ ds h, ds.length ≠ kk → fn nn kk m ds h = .bad := fun ds h e => if_neg e
theorem run_X {pins : List (Addr × Obj)} {σ : St} {X : Hp} {s : Shared} {Q : VK} {us : List Value} {vs : List V} (B : Bd g C w k) (F : FnX g C.prog C.w C.K C.mg C.base j f (spF P n fm)) (hj : j ≤ k) (I : Inv C pins σ X s) (r : L2.Vals vs us)
    (h : spF P n fm vs X Q (L2.WE w σ)) : wpAny (model C.prog C.w) C.A (call (.ref f) us) (L2.EP C pins σ Q) C.xe s :=
  wpAny_call (codeAny_mono (F C.A C.stack s X us vs Q (L2.WE w σ) (B.room.mono hj) B.gd I.env0 r h) fun z s' hq => by
    match z with
    | .error u => exact L2.passAt B.tk σ pins X s u s' I hq
    | .ok (.ret u) => exact I.after hq
    | .ok .next => exact hq.elim
    | .ok .brk => exact hq.elim
    | .ok .cont => exact hq.elim)
/-- from the arguments to the promise -/
theorem wOwn {fm : F} (ar : ∀ ds h, ds.length ≠ n → fm ds h = .bad) {σ : St} {X : Hp} {Q : VK} (q : tE P w (eCall fm mas) σ X Q) : tA P w mas σ X fun vs X1 => spF P n fm vs X1 Q (L2.WE w σ) := by
  obtain ⟨r, h, l, ds, a1, a2, a3, a4⟩ := bindA (R := relE) (m := mas) (k := fun xs _ l h => fm xs h) q
  refine ⟨r, h, l, ds, a1, a2, a3, End.mono (fun vs X1 q => ?_) a4⟩
  obtain ⟨r, h, l, xs, ds, a1, a2, a3, a5, a4⟩ := q
  have a4 : End relE P w r X1 σ (fm xs h) Q := a4
  refine ⟨?_, r, h, xs, a1, a3, ?_⟩
  · rw [← a3.length]
    by_cases hn : xs.length = n
    · exact hn
    · rw [ar _ _ hn] at a4
      exact a4.elim
  · revert a4
    cases fm xs h with
    | ok d h' => exact fun a4 => a4
    | ex c fs h' => exact fun a4 => a4
    | bad => exact fun a4 => a4
theorem xCall (B : Bd g C w k) (F : Cal g C P x j n fm) (hj : j ≤ k) (hg : L2.Gl C x) (ha : PA C (e :: es) (tA P w mas)) (hdb : (x == ("__debug__" : Str)) = false := by decide)
    (he : starEach (e :: es) C.env = (false, eval e C.env) :: starEach es C.env := by rfl) (hpl : (backTo pos (starEach es C.env)).any (·.1) = false := by rfl) : PE C (.Call (.Name x p) (e :: es) [] pos) (tE P w (eCall fm mas)) := by
  obtain ⟨f, F1, hm, hk⟩ := F.ex
  exact ⟨fun pins s σ X Q I h => wpAny_Call_Name_kw (L2.ld_glob I hg hm (PySem.W.callWith_K (h₀ := C.base) I.ok.mod.kin hk (L2.thn (ha.run pos pins s σ X _ I (wOwn F.ar h)) fun us s1 ⟨vs, X1, I1, r, q⟩ => ⟨I1.kIn, run_X B F1 hj I1 r q⟩) he hpl) hdb)⟩
theorem xCall0 (B : Bd g C w k) (F : Cal g C P x j n fm) (hj : j ≤ k) (hg : L2.Gl C x) (hdb : (x == ("__debug__" : Str)) = false := by decide) : PE C (.Call (.Name x p) [] [] pos) (tE P w (eCall fm aNil)) := by
  obtain ⟨f, F1, hm, hk⟩ := F.ex
  refine ⟨fun pins s σ X Q I h => wpAny_Call_Name_kw (L2.ld_glob I hg hm (PySem.W.callWith_K0 I.kIn hk (run_X (us := []) B F1 hj I .nil ?_)) hdb)⟩
  obtain ⟨r, h, l, ds, a1, a2, a3, a4⟩ := wOwn F.ar h
  exact a4 r X [] .refl a1 .nil
/-- a built-in function, by its name; a built-in class -/
theorem xB {fm : F} [CalmN fm] {id : String} (hc : L2.CallR C (.builtin id) (rN P fm)) (hg : L2.Gl C x) (hm : C.mg x = none) (hv : bootBuiltins x = some (.builtin id)) (ha : PA C (e :: es) (tA P w mas)) (hn : x ≠ "__name__" := by decide) (hdb : (x == ("__debug__" : Str)) = false := by decide)
    (he : starEach (e :: es) C.env = (false, eval e C.env) :: starEach es C.env := by rfl) (hpl : (backTo pos (starEach es C.env)).any (·.1) = false := by rfl) : PE C (.Call (.Name x p) (e :: es) [] pos) (tE P w (eCall fm mas)) :=
  peW (L2.pe_callB hc hg hm hv ha hn hdb he hpl) fun _ _ _ q => wCall q
theorem xTy {fm : F} [CalmN fm] {id : String} (hc : L2.CallR C (.type id) (rN P fm)) (hg : L2.Gl C x) (hm : C.mg x = none) (hv : bootBuiltins x = some (.type id)) (ha : PA C (e :: es) (tA P w mas)) (hn : x ≠ "__name__" := by decide) (hdb : (x == ("__debug__" : Str)) = false := by decide)
    (he : starEach (e :: es) C.env = (false, eval e C.env) :: starEach es C.env := by rfl) (hpl : (backTo pos (starEach es C.env)).any (·.1) = false := by rfl) : PE C (.Call (.Name x p) (e :: es) [] pos) (tE P w (eCall fm mas)) :=
  peW (L2.pe_callTy hc hg hm hv ha hn hdb he hpl) fun _ _ _ q => wCall q
end
end FL

end

section
set_option linter.all false
/-! Functions on values: operators, built-in functions, methods of built-in kinds. -/
namespace FL
open PySem

def BIG : Int := 2 ^ 64
def smallI (i : Int) : Bool := decide (-BIG < i) && decide (i < BIG)
/-! ### values as data -/
def strP (s : List Nat) : PyData := .str ⟨s.toArray⟩
mutual
def toD (rf : Nat → Option PyData) : D → Option PyData
  | .non => some .none
  | .bl b => some (.bool b)
  | .int i => some (.int i)
  | .str s => some (strP s)
  | .tup xs => match toDs rf xs with
    | some ps => some (.tuple ps)
    | none => none
  | .ref n => rf n
  | .scr xs => some (.list (xs.map .int))
  | _ => none
def toDs (rf : Nat → Option PyData) : List D → Option (List PyData)
  | [] => some []
  | d :: ds => match toD rf d, toDs rf ds with
    | some p, some ps => some (p :: ps)
    | _, _ => none
end
def rfAt (h : H) : Nat → Nat → Option PyData
  | 0, _ => none
  | f + 1, n => match h[n]? with
    | some (.lst xs) => (match toDs (rfAt h f) xs with
      | some ps => some (.list ps)
      | none => none)
    | _ => none
def toP (h : H) (d : D) : Option PyData := toD (rfAt h 8) d

/-! ### arithmetic -/
def vAdd : D → D → H → Res D := fun a b h => match a, b with
  | .int i, .int j => .ok (.int (i + j)) h
  | .str s, .str t => if s.length + t.length ≤ LIM then .ok (.str (s ++ t)) h else .bad
  | .tup xs, .tup ys => if xs.length + ys.length ≤ LIM then .ok (.tup (xs ++ ys)) h else .bad
  | .ref n, .ref m => (match h[n]?, h[m]? with
    | some (.lst xs), some (.lst ys) => if xs.length + ys.length ≤ LIM then alloc (.lst (xs ++ ys)) h else .bad
    | _, _ => .bad)
  | _, _ => .bad
def vSub : D → D → H → Res D := fun a b h => match a, b with
  | .int i, .int j => .ok (.int (i - j)) h
  | _, _ => .bad
def vMul : D → D → H → Res D := fun a b h => match a, b with
  | .int i, .int j => if smallI i = true ∨ smallI j = true then .ok (.int (i * j)) h else .bad
  | _, _ => .bad
/-- by a positive number -/
def vMod : D → D → H → Res D := fun a b h => match a, b with
  | .int i, .int j => if 0 < j then .ok (.int (i % j)) h else .bad
  | _, _ => .bad
def vFdiv : D → D → H → Res D := fun a b h => match a, b with
  | .int i, .int j => if 0 < j ∧ j < 1073741824 then .ok (.int (i / j)) h else .bad
  | _, _ => .bad
def vPow : D → D → H → Res D := fun a b h => match a, b with
  | .int i, .int j => if 0 ≤ j ∧ j ≤ 1000 ∧ smallI i = true then .ok (.int (i ^ j.toNat)) h else .bad
  | _, _ => .bad
def vNeg : D → H → Res D := fun a h => match a with
  | .int i => .ok (.int (-i)) h
  | _ => .bad

/-! ### comparisons -/
def vLt : D → D → H → Res D := fun a b h => match a, b with
  | .int i, .int j => .ok (.bl (decide (i < j))) h
  | _, _ => .bad
def vLe : D → D → H → Res D := fun a b h => match a, b with
  | .int i, .int j => .ok (.bl (decide (i ≤ j))) h
  | _, _ => .bad
def vGt : D → D → H → Res D := fun a b h => match a, b with
  | .int i, .int j => .ok (.bl (decide (j < i))) h
  | _, _ => .bad
def vGe : D → D → H → Res D := fun a b h => match a, b with
  | .int i, .int j => .ok (.bl (decide (j ≤ i))) h
  | _, _ => .bad
def eqD (neg : Bool) (a b : D) (h : H) : Res D := match toP h a, toP h b with
  | some p, some q => if SeqAt.shaped p = true ∧ SeqAt.shaped q = true then .ok (.bl (if neg = true then !PyData.eqv p q else PyData.eqv p q)) h else .bad
  | _, _ => .bad
def vEq : D → D → H → Res D := fun a b h => match a, b with
  | .int i, .int j => .ok (.bl (decide (i = j))) h
  | .str s, .str t => .ok (.bl (decide (s = t))) h
  | a, b => eqD false a b h
def vNe : D → D → H → Res D := fun a b h => match a, b with
  | .int i, .int j => .ok (.bl (!decide (i = j))) h
  | .str s, .str t => .ok (.bl (!decide (s = t))) h
  | a, b => eqD true a b h
def inD (neg : Bool) (a b : D) (h : H) : Res D := match toP h a, toP h b with
  | some p, some (.list qs) => if SeqAt.shaped p = true ∧ SeqAt.shaped (.list qs) = true then .ok (.bl (if neg = true then !qs.any (fun z => PyData.eqv z p) else qs.any fun z => PyData.eqv z p)) h else .bad
  | some p, some (.tuple qs) => if SeqAt.shaped p = true ∧ SeqAt.shaped (.tuple qs) = true then .ok (.bl (if neg = true then !qs.any (fun z => PyData.eqv z p) else qs.any fun z => PyData.eqv z p)) h else .bad
  | _, _ => .bad
def vIn : D → D → H → Res D := inD false
def vNotIn : D → D → H → Res D := inD true
def vIsN : D → H → Res D := fun a h => match a with
  | .non => .ok (.bl true) h
  | _ => .ok (.bl false) h
def vNotN : D → H → Res D := fun a h => match a with
  | .non => .ok (.bl false) h
  | _ => .ok (.bl true) h

/-! ### places -/
def ixAt (n : Nat) (i : Int) : Option Nat := if 0 ≤ i then (if i < n then some i.toNat else none) else if -(n : Int) ≤ i then some (i + n).toNat else none
def seqOf (d : D) (h : H) : Option (List D) := match d with
  | .tup xs => some xs
  | .scr xs => some (xs.map .int)
  | .ref n => (match h[n]? with
    | some (.lst xs) => some xs
    | _ => none)
  | _ => none
def vIx : D → D → H → Res D := fun a b h => match a, b with
  | .str s, .int i => (match ixAt s.length i with
    | some j => (match s[j]? with
      | some c => if s.length ≤ LIM then .ok (.str [c]) h else .bad
      | none => .bad)
    | none => .bad)
  | a, .int i => (match seqOf a h with
    | some xs => (match ixAt xs.length i with
      | some j => (match xs[j]? with
        | some d => .ok d h
        | none => .bad)
      | none => .bad)
    | none => .bad)
  | _, _ => .bad
def sIx (n d : Nat) : Option Int → Nat
  | none => d
  | some v => if v < 0 then (v + n).toNat else min v.toNat n
def cut {α : Type} (xs : List α) (lo hi : Option Int) : List α := (xs.drop (sIx xs.length 0 lo)).take (sIx xs.length xs.length hi - sIx xs.length 0 lo)
def vCut (a : D) (lo hi : Option Int) (h : H) : Res D := match a with
  | .tup xs => .ok (.tup (cut xs lo hi)) h
  | .scr xs => alloc (.lst (cut (xs.map .int) lo hi)) h
  | .ref n => (match h[n]? with
    | some (.lst xs) => alloc (.lst (cut xs lo hi)) h
    | _ => .bad)
  | _ => .bad
def part (e : Option E) : Loc → H → Res (Option Int) := fun l h => match e with
  | none => .ok none h
  | some e => (e l h).bind fun d h1 => match d with
    | .int i => .ok (some i) h1
    | _ => .bad
def eCut (a : E) (lo hi : Option E) : E := fun l h => (a l h).bind fun x h1 => (part lo l h1).bind fun u h2 => (part hi l h2).bind fun v h3 => vCut x u v h3

/-! ### built-in functions -/
def numsL : List D → Option (List Int)
  | [] => some []
  | .int i :: ds => (match numsL ds with
    | some is => some (i :: is)
    | none => none)
  | _ => none
def blsL : List D → Option (List Bool)
  | [] => some []
  | .bl i :: ds => (match blsL ds with
    | some is => some (i :: is)
    | none => none)
  | _ => none
def intsOf (d : D) (h : H) : Option (List Int) := match seqOf d h with
  | some xs => numsL xs
  | none => none
/-- a list, no tuple -/
def listOf (d : D) (h : H) : Option (List D) := match d with
  | .scr xs => some (xs.map .int)
  | .ref n => (match h[n]? with
    | some (.lst xs) => some xs
    | _ => none)
  | _ => none
def intsIn (d : D) (h : H) : Option (List Int) := match listOf d h with
  | some xs => numsL xs
  | none => none
def fLen : F := fun ds h => match ds with
  | [.str s] => if s.length ≤ LIM then .ok (.int s.length) h else .bad
  | [d] => (match seqOf d h with
    | some xs => .ok (.int xs.length) h
    | none => .bad)
  | _ => .bad
def maxL : List Int → Int
  | [] => 0
  | x :: xs => xs.foldl max x
def minL : List Int → Int
  | [] => 0
  | x :: xs => xs.foldl min x
/-- of two numbers; of a list of some -/
def fMax : F := fun ds h => match ds with
  | [.int i, .int j] => .ok (.int (if j > i then j else i)) h
  | [d] => (match intsIn d h with
    | some (x :: xs) => .ok (.int (maxL (x :: xs))) h
    | _ => .bad)
  | _ => .bad
def fMin : F := fun ds h => match ds with
  | [.int i, .int j] => .ok (.int (if j < i then j else i)) h
  | [d] => (match intsIn d h with
    | some (x :: xs) => .ok (.int (minL (x :: xs))) h
    | _ => .bad)
  | _ => .bad
def fSum : F := fun ds h => match ds with
  | [d] => (match intsOf d h with
    | some xs => .ok (.int xs.sum) h
    | none => .bad)
  | _ => .bad
def fAll : F := fun ds h => match ds with
  | [d] => (match listOf d h with
    | some xs => (match blsL xs with
      | some bs => .ok (.bl (bs.all id)) h
      | none => .bad)
    | none => .bad)
  | _ => .bad
def fTuple : F := fun ds h => match ds with
  | [d] => (match seqOf d h with
    | some xs => .ok (.tup xs) h
    | none => .bad)
  | _ => .bad
def fList : F := fun ds h => match ds with
  | [d] => (match seqOf d h with
    | some xs => alloc (.lst xs) h
    | none => .bad)
  | _ => .bad
def intText (i : Int) : List Nat := (toString i : Str).cps.toList
def fStrI : F := fun ds h => match ds with
  | [.int i] => if smallI i = true then .ok (.str (intText i)) h else .bad
  | _ => .bad
/-- the text of a value -/
def shown (p : PyData) : List Nat := p.shown.cps.toList
def fRepr : F := fun ds h => match ds with
  | [.int i] => if smallI i = true then .ok (.str (intText i)) h else .bad
  | [d] => (match toP h d with
    | some p => if p.showable = true ∧ p.depth ≤ 64 ∧ p.shown.length ≤ LIM then .ok (.str (shown p)) h else .bad
    | none => .bad)
  | _ => .bad
/-- isinstance of a built-in class -/
inductive Ty where
  | int | bool | tuple | list | str
  deriving DecidableEq
def isTy (t : Ty) (d : D) (h : H) : Option Bool := match d with
  | .non => some false
  | .bl _ => some (t == .bool || t == .int)
  | .int _ => some (t == .int)
  | .str _ => some (t == .str)
  | .tup _ => some (t == .tuple)
  | .scr _ => some (t == .list)
  | .ref n => (match h[n]? with
    | some (.lst _) => some (t == .list)
    | some (.dct _) => some false
    | some (.ins _ _) => some false
    | some (.tbl _) => none
    | none => none)
  | _ => none
def vIsTy (t : Ty) : D → H → Res D := fun d h => match isTy t d h with
  | some b => .ok (.bl b) h
  | none => .bad
/-- isinstance of an own class without subclasses -/
def vIsIns (c : Nat) : D → H → Res D := fun d h => match d with
  | .ref n => (match h[n]? with
    | some (.ins c' _) => .ok (.bl (decide (c' = c))) h
    | some _ => .ok (.bl false) h
    | none => .bad)
  | .non => .ok (.bl false) h
  | .bl _ => .ok (.bl false) h
  | .int _ => .ok (.bl false) h
  | .str _ => .ok (.bl false) h
  | .tup _ => .ok (.bl false) h
  | .scr _ => .ok (.bl false) h
  | _ => .bad
/-! ### methods -/
def mAppend : D → F := fun o ds h => match o, ds with
  | .ref n, [d] => (match h[n]? with
    | some (.lst xs) => if xs.length < LIM then .ok .non (h.set n (.lst (xs ++ [d]))) else .bad
    | _ => .bad)
  | _, _ => .bad
def mExtend : D → F := fun o ds h => match o, ds with
  | .ref n, [.ref m] => (match h[n]?, h[m]? with
    | some (.lst xs), some (.lst ys) => if xs.length + ys.length ≤ LIM then .ok .non (h.set n (.lst (xs ++ ys))) else .bad
    | _, _ => .bad)
  | _, _ => .bad
def isLst (d : D) (h : H) : Bool := match d with
  | .ref n => (match h[n]? with
    | some (.lst _) => true
    | _ => false)
  | _ => false
/-- xs.m(..) of a list -/
def eLm (f : D → F) (o : E) (a : A) : E := fun l h => (o l h).bind fun x h1 => if isLst x h1 = true then (a l h1).bind fun xs h2 => f x xs h2 else .bad
/-! ### objects -/
def fldOf (fs : List (PySem.Str × D)) (f : PySem.Str) : Option D := fs.lookup f
def vFld (cs : List Nat) (f : PySem.Str) : D → H → Res D := fun d h => match d with
  | .ref n => (match h[n]? with
    | some (.ins c fs) => if cs.contains c = true then (match fldOf fs f with
      | some v => .ok v h
      | none => .bad) else .bad
    | _ => .bad)
  | _ => .bad
def putFld (f : PySem.Str) (v : D) : List (PySem.Str × D) → List (PySem.Str × D)
  | [] => [(f, v)]
  | (g, u) :: r => if g = f then (g, v) :: r else (g, u) :: putFld f v r
end FL

end

section
set_option Elab.async false
set_option linter.all false
set_option maxRecDepth 100000
set_option maxHeartbeats 1000000
namespace FL
open PySem
open L2 (V Hp HO VK XK St TE TT TA TS TG TGs TI Ends PE PT PW PA PS PSs PG PGs PI Cx Inv SqL SqT Rd upd upd_same upd_ne WX Room)

section
variable {C : Cx}
theorem opW {f : Value → Value → Sem Value} {r r' : L2.R2} (h : L2.OpR C f r) (w : ∀ x y X Q, r' x y X Q → r x y X Q) : L2.OpR C f r' := fun pins s σ X x y v u Q I rx ry q => h pins s σ X x y v u Q I rx ry (w x y X Q q)
theorem ixW {r r' : L2.R2} (h : L2.IxR C r) (w : ∀ x y X Q, r' x y X Q → r x y X Q) : L2.IxR C r' := fun value slice pins s σ X x y v u Q I rx ry q hs => h value slice pins s σ X x y v u Q I rx ry (w x y X Q q) hs
theorem unW {f : Value → Sem Value} {r r' : V → Hp → VK → Prop} (h : L2.UnR C f r) (w : ∀ x X Q, r' x X Q → r x X Q) : L2.UnR C f r' := fun pins s σ X x v Q I rx q => h pins s σ X x v Q I rx (w x X Q q)
theorem caW {f : Value} {r r' : List V → Hp → VK → Prop} (h : L2.CallR C f r) (w : ∀ xs X Q, r' xs X Q → r xs X Q) : L2.CallR C f r' := fun pins s σ X xs us Q I rx q => h pins s σ X xs us Q I rx (w xs X Q q)
theorem slW {r r' : V → Option Int → Option Int → Hp → VK → Prop} (h : L2.SlR C r) (w : ∀ x lo hi X Q, r' x lo hi X Q → r x lo hi X Q) : L2.SlR C r' := fun pins s σ X x v vl vu lo hi sl Q I rx hs pl pu q => h pins s σ X x v vl vu lo hi sl Q I rx hs pl pu (w x lo hi X Q q)
theorem mtW {id : String} {r r' : V → List V → Hp → VK → Prop} (h : L2.MtR C id r) (w : ∀ x xs X Q, r' x xs X Q → r x xs X Q) : L2.MtR C id r' := fun pins s σ X x xs v us Q I rx rs q => h pins s σ X x xs v us Q I rx rs (w x xs X Q q)
end
instance : Calm2 vAdd := ⟨fun a b h c fs h' e => by
  unfold vAdd alloc at e
  split at e <;> (try split at e) <;> (try split at e) <;> cases e⟩
instance : Calm2 vSub := ⟨fun a b h c fs h' e => by unfold vSub at e; split at e <;> cases e⟩
instance : Calm2 vMul := ⟨fun a b h c fs h' e => by unfold vMul at e; split at e <;> (try split at e) <;> cases e⟩
instance : Calm2 vMod := ⟨fun a b h c fs h' e => by unfold vMod at e; split at e <;> (try split at e) <;> cases e⟩
instance : Calm2 vFdiv := ⟨fun a b h c fs h' e => by unfold vFdiv at e; split at e <;> (try split at e) <;> cases e⟩
instance : Calm2 vPow := ⟨fun a b h c fs h' e => by unfold vPow at e; split at e <;> (try split at e) <;> cases e⟩
instance : Calm1 vNeg := ⟨fun a h c fs h' e => by unfold vNeg at e; split at e <;> cases e⟩
instance : Calm2 vLt := ⟨fun a b h c fs h' e => by unfold vLt at e; split at e <;> cases e⟩
instance : Calm2 vLe := ⟨fun a b h c fs h' e => by unfold vLe at e; split at e <;> cases e⟩
instance : Calm2 vGt := ⟨fun a b h c fs h' e => by unfold vGt at e; split at e <;> cases e⟩
instance : Calm2 vGe := ⟨fun a b h c fs h' e => by unfold vGe at e; split at e <;> cases e⟩
theorem eqD_calm (neg : Bool) : ∀ a b h c fs h', eqD neg a b h ≠ .ex c fs h' := fun a b h c fs h' e => by unfold eqD at e; split at e <;> (try split at e) <;> cases e
instance : Calm2 vEq := ⟨fun a b h c fs h' e => by
  unfold vEq at e
  split at e
  · cases e
  · cases e
  · exact eqD_calm _ _ _ _ _ _ _ e⟩
instance : Calm2 vNe := ⟨fun a b h c fs h' e => by
  unfold vNe at e
  split at e
  · cases e
  · cases e
  · exact eqD_calm _ _ _ _ _ _ _ e⟩
theorem inD_calm (neg : Bool) : ∀ a b h c fs h', inD neg a b h ≠ .ex c fs h' := fun a b h c fs h' e => by unfold inD at e; split at e <;> (try split at e) <;> cases e
instance : Calm2 vIn := ⟨inD_calm _⟩
instance : Calm2 vNotIn := ⟨inD_calm _⟩
instance : Calm2 vIx := ⟨fun a b h c fs h' e => by
  unfold vIx at e
  repeat' (split at e)
  all_goals cases e⟩
section
variable {C : Cx} {P : Pm}
abbrev wN : WX := fun _ _ _ _ => False
theorem oSub : L2.OpR C (binaryOp .Sub) (r2 P vSub) := opW L2.op_sub fun x y X Q ⟨r, h, a, b, hr, ra, rb, e⟩ => by
  cases ra <;> first | exact ((show False from e).elim) | skip
  cases rb <;> first | exact ((show False from e).elim) | skip
  exact ⟨_, _, rfl, rfl, e r X _ .refl hr (.int _)⟩
theorem small_lt {i : Int} (h : smallI i = true) : -(2 ^ 64) < i ∧ i < 2 ^ 64 := by
  unfold smallI BIG at h
  rw [Bool.and_eq_true, decide_eq_true_eq, decide_eq_true_eq] at h
  exact h
theorem oMul : L2.OpR C (binaryOp .Mult) (r2 P vMul) := opW L2.op_mul fun x y X Q ⟨r, h, a, b, hr, ra, rb, e⟩ => by
  obtain ⟨i, rfl, rfl⟩ : ∃ i, a = .int i ∧ x = .int i := by cases ra <;> first | exact ((show False from e).elim) | exact ⟨_, rfl, rfl⟩
  obtain ⟨j, rfl, rfl⟩ : ∃ j, b = .int j ∧ y = .int j := by cases rb <;> first | exact ((show False from e).elim) | exact ⟨_, rfl, rfl⟩
  have e : End relE P wN r X [] (if smallI i = true ∨ smallI j = true then .ok (.int (i * j)) h else .bad) Q := e
  by_cases hz : smallI i = true ∨ smallI j = true
  · rw [if_pos hz] at e
    exact ⟨_, _, rfl, rfl, hz.imp small_lt small_lt, e r X _ .refl hr (.int _)⟩
  · rw [if_neg hz] at e
    exact e.elim
theorem oMod : L2.OpR C (binaryOp .Mod) (r2 P vMod) := opW L2.op_mod fun x y X Q ⟨r, h, a, b, hr, ra, rb, e⟩ => by
  obtain ⟨i, rfl, rfl⟩ : ∃ i, a = .int i ∧ x = .int i := by cases ra <;> first | exact ((show False from e).elim) | exact ⟨_, rfl, rfl⟩
  obtain ⟨j, rfl, rfl⟩ : ∃ j, b = .int j ∧ y = .int j := by cases rb <;> first | exact ((show False from e).elim) | exact ⟨_, rfl, rfl⟩
  have e : End relE P wN r X [] (if 0 < j then .ok (.int (i % j)) h else .bad) Q := e
  by_cases hz : 0 < j
  · rw [if_pos hz] at e
    exact ⟨_, _, rfl, rfl, hz, e r X _ .refl hr (.int _)⟩
  · rw [if_neg hz] at e
    exact e.elim
theorem oFdiv : L2.OpR C (binaryOp .FloorDiv) (r2 P vFdiv) := opW L2.op_fdiv fun x y X Q ⟨r, h, a, b, hr, ra, rb, e⟩ => by
  obtain ⟨i, rfl, rfl⟩ : ∃ i, a = .int i ∧ x = .int i := by cases ra <;> first | exact ((show False from e).elim) | exact ⟨_, rfl, rfl⟩
  obtain ⟨j, rfl, rfl⟩ : ∃ j, b = .int j ∧ y = .int j := by cases rb <;> first | exact ((show False from e).elim) | exact ⟨_, rfl, rfl⟩
  have e : End relE P wN r X [] (if 0 < j ∧ j < 1073741824 then .ok (.int (i / j)) h else .bad) Q := e
  by_cases hz : 0 < j ∧ j < 1073741824
  · rw [if_pos hz] at e
    exact ⟨_, _, rfl, rfl, hz, e r X _ .refl hr (.int _)⟩
  · rw [if_neg hz] at e
    exact e.elim
theorem oPow : L2.OpR C (binaryOp .Pow) (r2 P vPow) := opW L2.op_pow fun x y X Q ⟨r, h, a, b, hr, ra, rb, e⟩ => by
  obtain ⟨i, rfl, rfl⟩ : ∃ i, a = .int i ∧ x = .int i := by cases ra <;> first | exact ((show False from e).elim) | exact ⟨_, rfl, rfl⟩
  obtain ⟨j, rfl, rfl⟩ : ∃ j, b = .int j ∧ y = .int j := by cases rb <;> first | exact ((show False from e).elim) | exact ⟨_, rfl, rfl⟩
  have e : End relE P wN r X [] (if 0 ≤ j ∧ j ≤ 1000 ∧ smallI i = true then .ok (.int (i ^ j.toNat)) h else .bad) Q := e
  by_cases hz : 0 ≤ j ∧ j ≤ 1000 ∧ smallI i = true
  · rw [if_pos hz] at e
    obtain ⟨z1, z2⟩ := small_lt hz.2.2
    exact ⟨_, _, rfl, rfl, ⟨hz.1, by omega, by omega⟩, e r X _ .refl hr (.int _)⟩
  · rw [if_neg hz] at e
    exact e.elim
theorem oNeg : L2.UnR C (unaryOp .USub) (r1 P vNeg) := unW L2.un_neg fun x X Q ⟨r, h, a, hr, ra, e⟩ => by
  cases ra <;> first | exact ((show False from e).elim) | skip
  exact ⟨_, rfl, e r X _ .refl hr (.int _)⟩
theorem oLt : L2.OpR C (compareOp .Lt) (r2 P vLt) := opW L2.op_lt fun x y X Q ⟨r, h, a, b, hr, ra, rb, e⟩ => by
  cases ra <;> first | exact ((show False from e).elim) | skip
  cases rb <;> first | exact ((show False from e).elim) | skip
  exact ⟨_, _, rfl, rfl, e r X _ .refl hr (.bl _)⟩
theorem oLe : L2.OpR C (compareOp .LtE) (r2 P vLe) := opW L2.op_le fun x y X Q ⟨r, h, a, b, hr, ra, rb, e⟩ => by
  cases ra <;> first | exact ((show False from e).elim) | skip
  cases rb <;> first | exact ((show False from e).elim) | skip
  exact ⟨_, _, rfl, rfl, e r X _ .refl hr (.bl _)⟩
theorem oGt : L2.OpR C (compareOp .Gt) (r2 P vGt) := opW L2.op_gt fun x y X Q ⟨r, h, a, b, hr, ra, rb, e⟩ => by
  cases ra <;> first | exact ((show False from e).elim) | skip
  cases rb <;> first | exact ((show False from e).elim) | skip
  exact ⟨_, _, rfl, rfl, e r X _ .refl hr (.bl _)⟩
theorem oGe : L2.OpR C (compareOp .GtE) (r2 P vGe) := opW L2.op_ge fun x y X Q ⟨r, h, a, b, hr, ra, rb, e⟩ => by
  cases ra <;> first | exact ((show False from e).elim) | skip
  cases rb <;> first | exact ((show False from e).elim) | skip
  exact ⟨_, _, rfl, rfl, e r X _ .refl hr (.bl _)⟩
/-- sums of every kind -/
theorem oAdd (hK : C.K = P.K) : L2.OpR C (binaryOp .Add) (r2 P vAdd) := opW (L2.op_add.or (L2.op_add_str.or (L2.op_catA.or L2.op_cat))) fun x y X Q ⟨r, h, a, b, hr, ra, rb, e⟩ => by
  cases ra with
  | int i =>
    cases rb <;> first | exact ((show False from e).elim) | skip
    exact .inl ⟨_, _, rfl, rfl, e r X _ .refl hr (.int _)⟩
  | str s =>
    obtain ⟨t, rfl, rfl⟩ : ∃ t : Str, b = .str t.cps.toList ∧ y = .str t := by cases rb <;> first | exact ((show False from e).elim) | exact ⟨_, rfl, rfl⟩
    have e : End relE P wN r X [] (if s.cps.toList.length + t.cps.toList.length ≤ LIM then .ok (.str (s.cps.toList ++ t.cps.toList)) h else .bad) Q := e
    by_cases hz : s.cps.toList.length + t.cps.toList.length ≤ LIM
    · rw [if_pos hz] at e
      refine .inr (.inl ⟨_, _, rfl, rfl, lim (by simpa [Str.length] using hz), e r X _ .refl hr ?_⟩)
      have z := RV.str (K := P.K) (X := X) (r := r) (s ++ t)
      have e2 : (s ++ t).cps.toList = s.cps.toList ++ t.cps.toList := Array.toList_append
      rw [e2] at z
      exact z
    · rw [if_neg hz] at e
      exact e.elim
  | @tup p vs ds q1 q2 =>
    obtain ⟨p', vs', ds', rfl, rfl, q1', q2'⟩ : ∃ p' vs' ds', b = .tup ds' ∧ y = .ref p' ∧ SqT P.K X p' vs' ∧ RVs P.K X r ds' vs' := by cases rb <;> first | exact ((show False from e).elim) | exact ⟨_, _, _, rfl, rfl, by assumption, by assumption⟩
    have e : End relE P wN r X [] (if ds.length + ds'.length ≤ LIM then .ok (.tup (ds ++ ds')) h else .bad) Q := e
    by_cases hz : ds.length + ds'.length ≤ LIM
    · rw [if_pos hz] at e
      refine .inr (.inr (.inl ⟨p, p', vs, vs', rfl, rfl, by rw [hK]; exact q1, by rw [hK]; exact q1', lim (by rw [← q2.length, ← q2'.length]; exact hz), fun ev => ?_, fun _ ev => ?_, fun _ _ t ht => ?_⟩))
      · subst ev
        cases q2
        exact e r X _ .refl hr (.tup q1' q2')
      · subst ev
        cases q2'
        refine e r X _ .refl hr ?_
        rw [List.append_nil]
        exact .tup q1 q2
      · exact e r _ _ (Stp.fresh ht) (hr.fresh ht) (RV.newT hr ht (q2.append q2'))
    · rw [if_neg hz] at e
      exact e.elim
  | @ref n p q1 =>
    obtain ⟨m, p', rfl, rfl, q1'⟩ : ∃ m p', b = .ref m ∧ y = .ref p' ∧ r[m]? = some p' := by cases rb <;> first | exact ((show False from e).elim) | exact ⟨_, _, rfl, rfl, by assumption⟩
    have e : End relE P wN r X [] (match h[n]?, h[m]? with
      | some (.lst xs), some (.lst ys) => if xs.length + ys.length ≤ LIM then alloc (.lst (xs ++ ys)) h else .bad
      | _, _ => .bad) Q := e
    revert e
    split
    · rename_i xs ys e1 e2
      intro e
      obtain ⟨vs, a1, a2⟩ := hr.lst e1 q1
      obtain ⟨vs', b1, b2⟩ := hr.lst e2 q1'
      by_cases hz : xs.length + ys.length ≤ LIM
      · rw [if_pos hz] at e
        exact .inr (.inr (.inr ⟨p, p', vs, vs', rfl, rfl, a1, b1, lim (by rw [← a2.length, ← b2.length]; exact hz), fun t ht => e _ _ _ (Stp.new' ht) (hr.newL ht (a2.append b2)) (.ref hr.last)⟩))
      · rw [if_neg hz] at e
        exact e.elim
    · exact fun e => e.elim
  | _ => exact ((show False from e).elim)
end
end FL

end

section
set_option Elab.async false
set_option linter.all false
set_option maxRecDepth 100000
set_option maxHeartbeats 1000000
namespace FL
open PySem
open L2 (V Hp HO VK XK St TE TT TA TS TG TGs TI Ends PE PT PW PA PS PSs PG PGs PI Cx Inv SqL SqT Rd upd upd_same upd_ne WX Room)

section
variable {C : Cx} {P : Pm} {r : List Addr} {X : Hp} {h : H}
theorem dpInts {K : PySem.W.Frag} : ∀ xs : List Int, L2.DpAll K X (xs.map V.int) (xs.map PyData.int)
  | [] => .nil
  | x :: xs => .cons (.int x) (dpInts xs)
/-- a value as data -/
theorem toD_dp {rf : Nat → Option PyData} (hf : ∀ n p a, rf n = some p → r[n]? = some a → L2.Dp P.K X (.ref a) p) {d : D} {v : V} (q : RV P.K X r d v) : ∀ {p : PyData}, toD rf d = some p → L2.Dp P.K X v p := by
  induction q using RV.rec (motive_2 := fun ds vs _ => ∀ {ps : List PyData}, toDs rf ds = some ps → L2.DpAll P.K X vs ps) with
  | non => intro p e; rw [toD] at e; cases e; exact .non
  | bl b => intro p e; rw [toD] at e; cases e; exact .bl b
  | int i => intro p e; rw [toD] at e; cases e; exact .int i
  | str x => intro p e; rw [toD] at e; cases e; exact .str x
  | tup q _ ih =>
    intro p e
    rw [toD] at e
    split at e
    · rename_i ps eps
      cases e
      exact .tup q (ih eps)
    · cases e
  | ref q => intro p e; rw [toD] at e; exact hf _ _ _ e q
  | scr q => intro p e; rw [toD] at e; cases e; exact .lst q.sq (dpInts _)
  | gls a => intro p e; simp [toD] at e
  | ftup _ _ _ _ _ => intro p e; simp [toD] at e
  | nil =>
    rename_i e
    rw [toDs] at e
    cases e
    exact .nil
  | cons _ _ h1 h2 =>
    rename_i e
    rw [toDs] at e
    split at e
    · rename_i p ps e1 e2
      cases e
      exact .cons (h1 e1) (h2 e2)
    · cases e
theorem toDs_dp {rf : Nat → Option PyData} (hf : ∀ n p a, rf n = some p → r[n]? = some a → L2.Dp P.K X (.ref a) p) : ∀ {ds : List D} {vs : List V} {ps : List PyData}, RVs P.K X r ds vs → toDs rf ds = some ps → L2.DpAll P.K X vs ps
  | _, _, _, .nil, e => by rw [toDs] at e; cases e; exact .nil
  | _, _, _, .cons a b, e => by
    rw [toDs] at e
    split at e
    · rename_i p ps e1 e2
      cases e
      exact .cons (toD_dp hf a e1) (toDs_dp hf b e2)
    · cases e
theorem rf_dp (R : HR P r h X) : ∀ (f n : Nat) (p : PyData) (a : Addr), rfAt h f n = some p → r[n]? = some a → L2.Dp P.K X (.ref a) p
  | 0, _, _, _, e, _ => by rw [rfAt] at e; cases e
  | f + 1, n, p, a, e, ea => by
    rw [rfAt] at e
    split at e
    · rename_i xs hx
      split at e
      · rename_i ps e2
        cases e
        obtain ⟨vs, q1, q2⟩ := R.lst hx ea
        exact .lst (.inl (.inl q1)) (toDs_dp (rf_dp R f) q2 e2)
      · cases e
    · cases e
theorem toP_dp (R : HR P r h X) {d : D} {v : V} {p : PyData} (q : RV P.K X r d v) (e : toP h d = some p) : L2.Dp P.K X v p := toD_dp (rf_dp R 8) q e
theorem oEqD (hK : C.K = P.K) (hu : C.A.units + 64 < cLine) : L2.OpR C (compareOp .Eq) (r2 P (eqD false)) := opW (L2.op_eqD hu) fun x y X Q ⟨r, h, a, b, hr, ra, rb, e⟩ => by
  unfold eqD at e
  split at e
  · rename_i p q e1 e2
    split at e
    · rename_i hz
      exact ⟨p, q, by rw [hK]; exact toP_dp hr ra e1, by rw [hK]; exact toP_dp hr rb e2, hz.1, hz.2, e r X _ .refl hr (.bl _)⟩
    · exact e.elim
  · exact e.elim
theorem oNeD (hK : C.K = P.K) (hu : C.A.units + 64 < cLine) : L2.OpR C (compareOp .NotEq) (r2 P (eqD true)) := opW (L2.op_neD hu) fun x y X Q ⟨r, h, a, b, hr, ra, rb, e⟩ => by
  unfold eqD at e
  split at e
  · rename_i p q e1 e2
    split at e
    · rename_i hz
      exact ⟨p, q, by rw [hK]; exact toP_dp hr ra e1, by rw [hK]; exact toP_dp hr rb e2, hz.1, hz.2, e r X _ .refl hr (.bl _)⟩
    · exact e.elim
  · exact e.elim
theorem str_dec {s t : Str} : decide (V.str s = V.str t) = decide (s.cps.toList = t.cps.toList) := by
  obtain ⟨⟨s⟩⟩ := s
  obtain ⟨⟨t⟩⟩ := t
  simp
theorem int_dec {i j : Int} : decide (V.int i = V.int j) = decide (i = j) := by simp
theorem oEq (hK : C.K = P.K) (hu : C.A.units + 64 < cLine) : L2.OpR C (compareOp .Eq) (r2 P vEq) := opW (L2.op_eq.or (oEqD (P := P) hK hu)) fun x y X Q ⟨r, h, a, b, hr, ra, rb, e⟩ => by
  unfold vEq at e
  split at e
  · cases ra
    cases rb
    refine .inl ⟨rfl, ?_⟩
    rw [int_dec]
    exact e r X _ .refl hr (.bl _)
  · cases ra
    cases rb
    refine .inl ⟨rfl, ?_⟩
    rw [str_dec]
    exact e r X _ .refl hr (.bl _)
  · exact .inr ⟨r, h, a, b, hr, ra, rb, e⟩
theorem oNe (hK : C.K = P.K) (hu : C.A.units + 64 < cLine) : L2.OpR C (compareOp .NotEq) (r2 P vNe) := opW (L2.op_ne.or (oNeD (P := P) hK hu)) fun x y X Q ⟨r, h, a, b, hr, ra, rb, e⟩ => by
  unfold vNe at e
  split at e
  · cases ra
    cases rb
    refine .inl ⟨rfl, ?_⟩
    rw [int_dec]
    exact e r X _ .refl hr (.bl _)
  · cases ra
    cases rb
    refine .inl ⟨rfl, ?_⟩
    rw [str_dec]
    exact e r X _ .refl hr (.bl _)
  · exact .inr ⟨r, h, a, b, hr, ra, rb, e⟩
/-- x in a tuple of data -/
def rInT (K : PySem.W.Frag) (neg : Bool) : L2.R2 := fun x y X Q => ∃ d ds, L2.Dp K X x d ∧ L2.Dp K X y (.tuple ds) ∧ SeqAt.shaped d = true ∧ SeqAt.shaped (.tuple ds) = true ∧ Q (.bl (if neg = true then !ds.any (fun z => PyData.eqv z d) else ds.any fun z => PyData.eqv z d)) X
theorem room_in {d : PyData} {ds : List PyData} (hd : SeqAt.shaped d = true) (hu : C.A.units + 65 < cLine) : C.A.units + 1 + min (PyData.depthAll ds) d.depth < cLine := by
  have h1 := SeqAt.depth_of_shaped hd
  have h2 : min (PyData.depthAll ds) d.depth ≤ d.depth := Nat.min_le_right _ _
  omega
theorem oInT (hu : C.A.units + 65 < cLine) : L2.OpR C (compareOp .In) (rInT C.K false) := fun pins s σ X x y v u Q I rx ry ⟨d, ds, q1, q2, s1, s2, q⟩ => by
  obtain ⟨as, r1⟩ := L2.Dp.reads I d x v q1 rx
  obtain ⟨bs, r2⟩ := L2.Dp.reads I _ y u q2 ry
  have c2 := SeqAt.canLay_of_shaped s2
  rw [PyData.canLay0] at c2
  exact SeqAt.in_tuple_reads r2 r1 c2 (SeqAt.canLay_of_shaped s1) (room_in s1 hu) ⟨.bl _, X, I, rfl, q⟩
theorem oNotInT (hu : C.A.units + 65 < cLine) : L2.OpR C (compareOp .NotIn) (rInT C.K true) := fun pins s σ X x y v u Q I rx ry ⟨d, ds, q1, q2, s1, s2, q⟩ => by
  obtain ⟨as, r1⟩ := L2.Dp.reads I d x v q1 rx
  obtain ⟨bs, r2⟩ := L2.Dp.reads I _ y u q2 ry
  have c2 := SeqAt.canLay_of_shaped s2
  rw [PyData.canLay0] at c2
  exact SeqAt.notIn_tuple_reads r2 r1 c2 (SeqAt.canLay_of_shaped s1) (room_in s1 hu) ⟨.bl _, X, I, rfl, q⟩
theorem oIn (hK : C.K = P.K) (hu : C.A.units + 65 < cLine) : L2.OpR C (compareOp .In) (r2 P vIn) := opW ((L2.op_inD hu).or (oInT hu)) fun x y X Q ⟨r, h, a, b, hr, ra, rb, e⟩ => by
  have e : End relE P wN r X [] (inD false a b h) Q := e
  unfold inD at e
  split at e
  · rename_i p q e1 e2
    split at e
    · rename_i hz
      exact .inl ⟨p, q, by rw [hK]; exact toP_dp hr ra e1, by rw [hK]; exact toP_dp hr rb e2, hz.1, hz.2, e r X _ .refl hr (.bl _)⟩
    · exact e.elim
  · rename_i p q e1 e2
    split at e
    · rename_i hz
      exact .inr ⟨p, q, by rw [hK]; exact toP_dp hr ra e1, by rw [hK]; exact toP_dp hr rb e2, hz.1, hz.2, e r X _ .refl hr (.bl _)⟩
    · exact e.elim
  · exact e.elim
theorem oNotIn (hK : C.K = P.K) (hu : C.A.units + 65 < cLine) : L2.OpR C (compareOp .NotIn) (r2 P vNotIn) := opW ((L2.op_notInD hu).or (oNotInT hu)) fun x y X Q ⟨r, h, a, b, hr, ra, rb, e⟩ => by
  have e : End relE P wN r X [] (inD true a b h) Q := e
  unfold inD at e
  split at e
  · rename_i p q e1 e2
    split at e
    · rename_i hz
      exact .inl ⟨p, q, by rw [hK]; exact toP_dp hr ra e1, by rw [hK]; exact toP_dp hr rb e2, hz.1, hz.2, e r X _ .refl hr (.bl _)⟩
    · exact e.elim
  · rename_i p q e1 e2
    split at e
    · rename_i hz
      exact .inr ⟨p, q, by rw [hK]; exact toP_dp hr ra e1, by rw [hK]; exact toP_dp hr rb e2, hz.1, hz.2, e r X _ .refl hr (.bl _)⟩
    · exact e.elim
  · exact e.elim
/-- is None -/
theorem xIsN {w : WX} {a : Expr} {ma : E} {pos pos' : Pos} {j : Nat} (ha : PE C a (tE P w ma)) : PE C (.Compare a [.Is] [.Constant .none j pos'] pos) (tE P w (eUn vIsN ma)) := peW (L2.pe_cmp (L2.pc_isN ha)) fun σ X Q e => by
  obtain ⟨r, h, l, ds, a1, a2, a3, a4⟩ := bindE (R := relE) (m := ma) (k := fun x _ l h => vIsN x h) e
  refine ⟨r, h, l, ds, a1, a2, a3, End.mono (fun v X1 q => ?_) a4⟩
  obtain ⟨r, h, l, ds, a1, a2, a3, a4⟩ := q
  cases a3 with
  | cons b1 b2 => cases b1 <;> exact a4 r X1 _ .refl a1 (.bl _)
theorem xNotN {w : WX} {a : Expr} {ma : E} {pos pos' : Pos} {j : Nat} (ha : PE C a (tE P w ma)) : PE C (.Compare a [.IsNot] [.Constant .none j pos'] pos) (tE P w (eUn vNotN ma)) := peW (L2.pe_cmp (L2.pc_notN ha)) fun σ X Q e => by
  obtain ⟨r, h, l, ds, a1, a2, a3, a4⟩ := bindE (R := relE) (m := ma) (k := fun x _ l h => vNotN x h) e
  refine ⟨r, h, l, ds, a1, a2, a3, End.mono (fun v X1 q => ?_) a4⟩
  obtain ⟨r, h, l, ds, a1, a2, a3, a4⟩ := q
  cases a3 with
  | cons b1 b2 => cases b1 <;> exact a4 r X1 _ .refl a1 (.bl _)
end

/-! ### places -/
section
variable {C : Cx} {P : Pm} {w : WX} {a b : Expr} {ma mb : E} {pos : Pos} {r : List Addr} {X : Hp} {h : H}
theorem ixAt_eq (n : Nat) (i : Int) : ixAt n i = L2.ixN n i := rfl
/-- a sequence's items on both sides -/
theorem seq_of (R : HR P r h X) {d : D} {v : V} {xs : List D} (q : RV P.K X r d v) (e : seqOf d h = some xs) : ∃ p vs, v = .ref p ∧ RVs P.K X r xs vs ∧ (SqL P.K X p vs ∨ SqT P.K X p vs) := by
  cases q with
  | tup q1 q2 => cases e; exact ⟨_, _, rfl, q2, .inr q1⟩
  | scr q => cases e; exact ⟨_, _, rfl, RVs.ints _, .inl q.sq⟩
  | @ref n p q =>
    have e : (match h[n]? with
      | some (.lst xs) => some xs
      | _ => none) = some xs := e
    split at e
    · rename_i ys hx
      cases e
      obtain ⟨vs, q1, q2⟩ := R.lst hx q
      exact ⟨p, vs, rfl, q2, .inl (.inl (.inl q1))⟩
    · cases e
  | _ => cases e
theorem RVs.at {K : PySem.W.Frag} {ds : List D} {vs : List V} {i : Int} {j : Nat} {d : D} (q : RVs K X r ds vs) (e : ixAt ds.length i = some j) (e2 : ds[j]? = some d) : ∃ v, L2.atI vs i = some v ∧ RV K X r d v := by
  obtain ⟨v, h1, h2⟩ := q.get e2
  refine ⟨v, ?_, h2⟩
  unfold L2.atI
  rw [← ixAt_eq, ← q.length, e]
  exact h1
theorem oIx (hK : C.K = P.K) : L2.IxR C (r2 P vIx) := ixW L2.ix_seq fun x y X Q ⟨r, h, a, b, hr, ra, rb, e⟩ => by
  unfold vIx at e
  split at e
  · rename_i s i
    cases rb
    obtain ⟨x, rfl, rfl⟩ : ∃ z : Str, x = .str z ∧ s = z.cps.toList := by cases ra; exact ⟨_, rfl, rfl⟩
    split at e
    · rename_i j ej
      split at e
      · rename_i c ec
        split at e
        · rename_i hz
          refine .inr (.inr ⟨x, i, c, rfl, rfl, lim (by simpa [Str.length] using hz), ?_, e r X _ .refl hr (.str ⟨#[c]⟩)⟩)
          unfold L2.atI
          rw [← ixAt_eq, ej]
          exact ec
        · exact e.elim
      · exact e.elim
    · exact e.elim
  · rename_i i _
    cases rb
    split at e
    · rename_i xs ex
      split at e
      · rename_i j ej
        split at e
        · rename_i d ed
          obtain ⟨p, vs, rfl, q1, q2⟩ := seq_of hr ra ex
          obtain ⟨v, hv, rv⟩ := q1.at ej ed
          have z := e r X _ .refl hr rv
          rcases q2 with q2 | q2
          · exact .inl ⟨p, vs, i, v, rfl, rfl, by rw [hK]; exact q2, hv, z⟩
          · exact .inr (.inl ⟨p, vs, i, v, rfl, rfl, by rw [hK]; exact q2, hv, z⟩)
        · exact e.elim
      · exact e.elim
    · exact e.elim
  · exact e.elim
theorem xIx (hK : C.K = P.K) (ha : PE C a (tE P w ma)) (hb : PE C b (tE P w mb)) (hs : L2.PlainIx b := by exact fun _ _ => rfl) : PE C (.Subscript a b pos) (tE P w (eBin vIx ma mb)) := peW (L2.pe_ix (oIx hK) ha hb hs) fun _ _ _ e => wBin e
end
end FL

end

section
set_option Elab.async false
set_option linter.all false
set_option maxRecDepth 100000
set_option maxHeartbeats 1000000
namespace FL
open PySem
/-- sum of a tuple of numbers -/
theorem sum_tupI {prog : Program} {w : World} {A : Around} {E : Value → Shared → Prop} {s : Shared} {l : Addr} {xs : Array (Int × Tok)} {Q : Value → Shared → Prop} (hh : A.handled = none) (hl : s.heap.IsTuple l (intItems xs))
    (h : ∀ h' tk t', (∀ b o, s.heap.get? b = some o → h'.get? b = some o) → Q (.int (preSum (numAt xs) xs.size) t') { s with heap := h', toks := tk }) : wpAny (model prog w) A (call (.builtin "sum") [.ref l]) Q E s := by
  have hlt : l < s.heap.objs.size := by
    obtain ⟨o, ho, _⟩ := id hl
    exact Heap.lt_size ho
  refine call_sum_walkG (wpAny_pyIter_tuple hl ⟨s.heap.objs.size, [s.heap.objs.size, l], [s.heap.objs.size], _, _, _, numAt xs, rfl, Walks.tuple (A := A.in1) hh _ l (Nat.ne_of_lt hlt) (intItems xs), ⟨⟨_, Heap.get?_push_size _ rfl, rfl, rfl⟩, hl.push _⟩, fun c hc => ?_, fun _ _ => intItems_at, fun h' tk t' hk => ?_⟩)
  · rw [Heap.size_push]
    rcases List.mem_cons.mp hc with rfl | hc
    · exact Nat.lt_succ_self _
    · rw [List.mem_singleton.mp hc]
      exact Nat.lt_succ_of_lt hlt
  · have z := h h' tk t' fun b o e => hk b o (fun hm => by
      rw [List.mem_singleton.mp hm] at e
      exact Nat.lt_irrefl _ (Heap.lt_size e)) (Heap.get?_push_of_some _ e)
    simpa [intItems] using z
open L2 (V Hp HO VK XK St TE TT TA TS TG TGs TI Ends PE PT PW PA PS PSs PG PGs PI Cx Inv SqL SqT Rd upd upd_same upd_ne WX Room)
def rSumT (K : PySem.W.Frag) : List V → Hp → VK → Prop := fun vs X Q => ∃ (a : Addr) (ns : List Int), vs = [V.ref a] ∧ SqT K X a (ns.map V.int) ∧ Q (.int ns.sum) X
theorem cSumT {C : Cx} (hc : C.calm = true) : L2.CallR C (.builtin "sum") (rSumT C.K) := fun pins s σ X vs us Q I r ⟨a, ns, e, hs, q⟩ => by
  subst e
  obtain ⟨its, rv, hl, _⟩ := I.tuple hs
  rw [L2.Vals.ref1 r]
  obtain ⟨xs, e⟩ := (L2.Vals.ints rv).allInts.items
  have hn : PySem.numsOf (intItems xs).toList = ns := by
    rw [← e]
    exact (L2.Vals.ints rv).numsOf
  rw [PySem.nums_intItems] at hn
  have hl : s.heap.IsTuple a its.toArray := hl
  rw [e] at hl
  refine sum_tupI (I.ok.hd hc) hl fun h' tk t' hk => ⟨.int _, X, I.kept hk, ⟨_, rfl⟩, ?_⟩
  rw [PySem.preSum_eq, List.take_of_length_le (by simp), hn]
  exact q
section
variable {C : Cx} {P : Pm} {w : WX} {a b : Expr} {ma mb : E} {pos : Pos} {r : List Addr} {X : Hp} {h : H}
/-! ### o[i] = d -/
theorem gtSub {o i : Expr} {mo mi : E} (ho : PE C o (tE P w mo)) (hi : PE C i (tE P w mi))
    (ha : ∀ v, assign (.Subscript o i pos) C.env v = (do
      let ov ← holding [v] (eval o C.env)
      let iv ← holding [v, ov] (eval i C.env)
      standAt pos
      holding [v, ov, iv] (setItem ov iv v)
      release [v, ov, iv] []) := by intro _; rfl) : PG C (.Subscript o i pos) (tGt P (gSub mo mi)) := pgW (L2.pg_sub ho hi L2.set_list ha) fun v σ X Q ⟨r, h, l, d, a1, a2, a3, a4⟩ => by
  unfold gSub at a4
  cases eo : mo l h with
  | ex _ _ _ => rw [eo] at a4; exact a4.elim
  | bad => rw [eo] at a4; exact a4.elim
  | ok x h1 =>
    rw [eo] at a4
    refine ⟨r, h, l, [], a1, a2, .nil, ?_⟩
    show End relE P w r X σ (mo l h) _
    rw [eo]
    intro r1 X1 vo s1 hr1 ro
    dsimp only at a4
    cases ei : mi l h1 with
    | ex _ _ _ => rw [ei] at a4; exact a4.elim
    | bad => rw [ei] at a4; exact a4.elim
    | ok k h2 =>
      rw [ei] at a4
      refine ⟨r1, h1, l, [], hr1, a2.mono s1 a1.own, .nil, ?_⟩
      show End relE P w r1 X1 σ (mi l h1) _
      rw [ei]
      intro r2 X2 vi s2 hr2 ri
      have s12 := s1.trans s2
      have ro2 : RV P.K X2 r2 x vo := RV.mono s2 hr1.own ro
      have ri2 : RV P.K X2 r2 k vi := ri
      have rd2 : RV P.K X2 r2 d v := RV.mono s12 a1.own a3
      have sl2 := a2.mono s12 a1.own
      dsimp only at a4
      cases es : setAt x k d h2 with
      | none => rw [es] at a4; exact a4.elim
      | some h3 =>
        rw [es] at a4
        obtain ⟨n, i, xs, ex, hz, ek, ex3, e3⟩ : ∃ n i xs, h2[n]? = some (.lst xs) ∧ (0 ≤ i ∧ i < (xs.length : Int)) ∧ k = .int i ∧ x = .ref n ∧ h3 = h2.set n (.lst (xs.set i.toNat d)) := by
          unfold setAt at es
          split at es
          · rename_i n i
            split at es
            · rename_i xs ex
              split at es
              · rename_i hz
                cases es
                exact ⟨n, i, xs, ex, hz, rfl, rfl, rfl⟩
              · cases es
            · cases es
          · cases es
        subst ek ex3 e3
        cases ri2
        cases ro2 with
        | ref ep =>
          obtain ⟨vs, q1, q2⟩ := hr2.lst ex ep
          refine ⟨_, vs, i, i.toNat, rfl, rfl, q1, ?_, ?_⟩
          · unfold L2.ixN
            rw [if_pos hz.1, if_pos (by rw [← q2.length]; exact hz.2)]
          · have st := Stp.write (X := X2) (o := .lst (vs.set i.toNat v)) (List.mem_of_getElem? ep)
            have hr3 := hr2.write ep (o := .lst (vs.set i.toNat v)) (c := .lst (xs.set i.toNat d)) ⟨_, upd_same, RVs.mono st hr2.own (q2.set rd2 _)⟩
            exact a4 r2 _ σ (s12.trans st) hr3 (sl2.mono st hr2.own)

/-! ### slices -/
theorem cut_rv {K : PySem.W.Frag} {ds : List D} {vs : List V} (q : RVs K X r ds vs) (lo hi : Option Int) : RVs K X r (cut ds lo hi) (L2.cutV vs lo hi) := by
  unfold cut L2.cutV
  have e : ∀ n d o, sIx n d o = HT.sIx n d o := fun n d o => by cases o <;> rfl
  rw [q.length]
  exact (q.drop _).take _
theorem oCut (hK : C.K = P.K) : L2.SlR C (fun x lo hi X Q => ∃ r h a, HR P r h X ∧ RV P.K X r a x ∧ End relE P wN r X [] (vCut a lo hi h) Q) := slW (L2.sl_tupA.or L2.sl_list) fun x lo hi X Q ⟨r, h, a, hr, ra, e⟩ => by
  cases ra with
  | @tup p vs ds q1 q2 =>
    have e : End relE P wN r X [] (.ok (.tup (cut ds lo hi)) h) Q := e
    refine .inl ⟨p, vs, rfl, by rw [hK]; exact q1, fun hw => ?_, fun _ t ht => e r _ _ (Stp.fresh ht) (hr.fresh ht) (RV.newT hr ht (cut_rv q2 lo hi))⟩
    have ew : L2.cutV vs lo hi = vs := by
      unfold L2.cutV
      rw [hw.1, hw.2]
      simp
    have z := cut_rv q2 lo hi
    rw [ew] at z
    exact e r X _ .refl hr (.tup q1 z)
  | @scr p xs q1 =>
    have e : End relE P wN r X [] (alloc (.lst (cut (xs.map .int) lo hi)) h) Q := e
    exact .inr ⟨p, _, rfl, by rw [hK]; exact q1.sq, fun t ht => e _ _ _ (Stp.new' ht) (hr.newL ht (cut_rv (RVs.ints xs) lo hi)) (.ref hr.last)⟩
  | @ref n p q1 =>
    have e : End relE P wN r X [] (match h[n]? with
      | some (.lst xs) => alloc (.lst (cut xs lo hi)) h
      | _ => .bad) Q := e
    revert e
    split
    · rename_i xs ex
      intro e
      obtain ⟨vs, a1, a2⟩ := hr.lst ex q1
      exact .inr ⟨p, vs, rfl, .inl (.inl a1), fun t ht => e _ _ _ (Stp.new' ht) (hr.newL ht (cut_rv a2 lo hi)) (.ref hr.last)⟩
    · exact fun e => e.elim
  | _ => exact ((show False from e).elim)
/-- a part of a slice -/
def tP (P : Pm) (w : WX) (e : Option E) : L2.TO := tK (fun _ _ _ (x y : Option Int) => x = y) P w (fun _ => part e) []
theorem pNone : L2.PO C none (tP P w none) := ⟨fun pins s σ X Q I ⟨r, h, l, ds, a1, a2, a3, a4⟩ => L2.po_none.run pins s σ X Q I (a4 r X none .refl a1 rfl)⟩
theorem pSome (ha : PE C a (tE P w ma)) : L2.PO C (some a) (tP P w (some ma)) := ⟨fun pins s σ X Q I ⟨r, h, l, ds, a1, a2, a3, a4⟩ => (L2.po_some ha).run pins s σ X Q I (by
  refine ⟨r, h, l, ds, a1, a2, a3, End.mono (fun v X1 ⟨r1, h1, d, s, b1, b2, b3⟩ => ?_) (End.bind (R0 := relE) a4)⟩
  cases b2 with
  | int i => exact ⟨i, rfl, b3 r1 X1 _ .refl b1 rfl⟩
  | _ => exact (show False from b3).elim)⟩
theorem part_calm (e : Option E) (l : Loc) (h : H) : True := trivial
theorem xCut {lo hi : Option Expr} {ml mh : Option E} {p2 : Pos} (hK : C.K = P.K) (ha : PE C a (tE P w ma)) (hl : L2.PO C lo (tP P w ml)) (hu : L2.PO C hi (tP P w mh)) : PE C (.Subscript a (.Slice lo hi none p2) pos) (tE P w (eCut ma ml mh)) :=
  peW (L2.pe_slice (oCut hK) ha hl hu) fun σ X Q e => by
    obtain ⟨r, h, l, ds, a1, a2, a3, a4⟩ := bindE (R := relE) (m := ma) (k := fun x _ l h => (part ml l h).bind fun u h2 => (part mh l h2).bind fun v h3 => vCut x u v h3) e
    refine ⟨r, h, l, ds, a1, a2, a3, End.mono (fun v X1 q => ?_) a4⟩
    obtain ⟨r, h, l, ds, a1, a2, a3, a4⟩ := q
    cases a3 with
    | cons b1 b2 =>
      cases b2
      refine ⟨r, h, l, [], a1, a2, .nil, End.mono (fun u X2 ⟨r2, h2, u', s2, c1, c2, c3⟩ => ?_) (End.bind (R0 := fun _ _ _ (x y : Option Int) => x = y) a4)⟩
      refine ⟨r2, h2, l, [], c1, a2.mono s2 a1.own, .nil, End.mono (fun u2 X3 ⟨r3, h3, u2', s3, d1, d2, d3⟩ => ?_) (End.bind (R0 := fun _ _ _ (x y : Option Int) => x = y) c3)⟩
      subst c2 d2
      refine ⟨r3, h3, _, d1, (b1.mono s2 a1.own).mono s3 c1.own, End.calm (fun c fs h' z => ?_) d3⟩
      unfold vCut alloc at z
      split at z <;> (try split at z) <;> cases z
end
end FL

end

section
set_option Elab.async false
set_option linter.all false
set_option maxRecDepth 100000
set_option maxHeartbeats 1000000
namespace FL
open PySem
open L2 (V Hp HO VK XK St TE TT TA TS TG TGs TI Ends PE PT PW PA PS PSs PG PGs PI Cx Inv SqL SqT Rd upd upd_same upd_ne WX Room)
theorem alloc_no (c : Cell) (h : H) : ∀ k fs h', alloc c h ≠ .ex k fs h' := fun k fs h' e => by cases e
instance : CalmN fLen := ⟨fun a h c fs h' e => by
  unfold fLen at e
  repeat' (split at e)
  all_goals cases e⟩
instance : CalmN fMax := ⟨fun a h c fs h' e => by
  unfold fMax at e
  repeat' (split at e)
  all_goals cases e⟩
instance : CalmN fMin := ⟨fun a h c fs h' e => by
  unfold fMin at e
  repeat' (split at e)
  all_goals cases e⟩
instance : CalmN fSum := ⟨fun a h c fs h' e => by
  unfold fSum at e
  repeat' (split at e)
  all_goals cases e⟩
instance : CalmN fAll := ⟨fun a h c fs h' e => by
  unfold fAll at e
  repeat' (split at e)
  all_goals cases e⟩
instance : CalmN fTuple := ⟨fun a h c fs h' e => by
  unfold fTuple at e
  repeat' (split at e)
  all_goals cases e⟩
instance : CalmN fList := ⟨fun a h c fs h' e => by
  unfold fList alloc at e
  repeat' (split at e)
  all_goals cases e⟩
instance : CalmN fStrI := ⟨fun a h c fs h' e => by
  unfold fStrI at e
  repeat' (split at e)
  all_goals cases e⟩
instance : CalmN fRepr := ⟨fun a h c fs h' e => by
  unfold fRepr at e
  repeat' (split at e)
  all_goals cases e⟩
section
variable {C : Cx} {P : Pm} {r : List Addr} {X : Hp} {h : H}
theorem RVs.one {K : PySem.W.Frag} {d : D} {vs : List V} (q : RVs K X r [d] vs) : ∃ v, vs = [v] ∧ RV K X r d v := by
  cases q with
  | cons a b => cases b; exact ⟨_, rfl, a⟩
theorem RVs.two {K : PySem.W.Frag} {d e : D} {vs : List V} (q : RVs K X r [d, e] vs) : ∃ v u, vs = [v, u] ∧ RV K X r d v ∧ RV K X r e u := by
  cases q with
  | cons a b =>
    obtain ⟨u, rfl, c⟩ := b.one
    exact ⟨_, u, rfl, a, c⟩
theorem ints_rv {K : PySem.W.Frag} : ∀ {ds : List D} {is : List Int} {vs : List V}, numsL ds = some is → RVs K X r ds vs → vs = is.map V.int
  | [], _, _, e, .nil => by cases e; rfl
  | d :: ds, is, _, e, .cons a b => by
    cases d with
    | int i =>
      rw [numsL] at e
      split at e
      · rename_i js ej
        cases e
        cases a
        rw [ints_rv ej b]
        rfl
      · cases e
    | _ => cases e
theorem bools_rv {K : PySem.W.Frag} : ∀ {ds : List D} {is : List Bool} {vs : List V}, blsL ds = some is → RVs K X r ds vs → vs = is.map V.bl
  | [], _, _, e, .nil => by cases e; rfl
  | d :: ds, is, _, e, .cons a b => by
    cases d with
    | bl i =>
      rw [blsL] at e
      split at e
      · rename_i js ej
        cases e
        cases a
        rw [bools_rv ej b]
        rfl
      · cases e
    | _ => cases e
theorem intsOf_rv (R : HR P r h X) {d : D} {v : V} {is : List Int} (e : intsOf d h = some is) (q : RV P.K X r d v) : ∃ p, v = .ref p ∧ (SqL P.K X p (is.map V.int) ∨ SqT P.K X p (is.map V.int)) := by
  unfold intsOf at e
  split at e
  · rename_i xs ex
    obtain ⟨p, vs, rfl, q1, q2⟩ := seq_of R q ex
    rw [ints_rv e q1] at q2
    exact ⟨p, rfl, q2⟩
  · cases e
theorem cLen (hK : C.K = P.K) : L2.CallR C (.builtin "len") (rN P fLen) := caW (L2.call_len_seq.or L2.call_len_str) fun vs X Q ⟨r, h, ds, hr, rs, e⟩ => by
  unfold fLen at e
  split at e
  · rename_i s
    obtain ⟨v, rfl, rv⟩ := rs.one
    split at e
    · rename_i hz
      obtain ⟨x, rfl, rfl⟩ : ∃ z : Str, v = .str z ∧ s = z.cps.toList := by cases rv; exact ⟨_, rfl, rfl⟩
      refine .inr ⟨x, rfl, lim (by simpa [Str.length] using hz), ?_⟩
      have z := e r X _ .refl hr (.int _)
      simpa [Str.length] using z
    · exact e.elim
  · rename_i d _
    obtain ⟨v, rfl, rv⟩ := rs.one
    split at e
    · rename_i xs ex
      obtain ⟨p, us, rfl, q1, q2⟩ := seq_of hr rv ex
      refine .inl ⟨p, us, rfl, by rw [hK]; exact q2, ?_⟩
      rw [← q1.length]
      exact e r X _ .refl hr (.int _)
    · exact e.elim
  · exact e.elim
theorem maxL_ok : ∀ (x : Int) (xs : List Int) (m : Int), m ∈ x :: xs → (∀ y ∈ x :: xs, y ≤ m) → m = maxL (x :: xs) := by
  have step : ∀ (xs : List Int) (a : Int), xs.foldl max a ∈ a :: xs ∧ ∀ y ∈ a :: xs, y ≤ xs.foldl max a := by
    intro xs
    induction xs with
    | nil => intro a; exact ⟨List.mem_cons_self, fun y hy => by rw [List.mem_singleton.mp hy]; exact Int.le_refl _⟩
    | cons b bs ih =>
      intro a
      obtain ⟨h1, h2⟩ := ih (max a b)
      show bs.foldl max (max a b) ∈ _ ∧ _
      refine ⟨?_, fun y hy => ?_⟩
      · rcases List.mem_cons.mp h1 with z | z
        · rw [z]
          rcases Int.le_total a b with q | q
          · rw [Int.max_eq_right q]; exact List.mem_cons_of_mem _ List.mem_cons_self
          · rw [Int.max_eq_left q]; exact List.mem_cons_self
        · exact List.mem_cons_of_mem _ (List.mem_cons_of_mem _ z)
      · have hm := h2 (max a b) List.mem_cons_self
        rcases List.mem_cons.mp hy with z | z
        · rw [z]; exact Int.le_trans (Int.le_max_left a b) hm
        · rcases List.mem_cons.mp z with z | z
          · rw [z]; exact Int.le_trans (Int.le_max_right a b) hm
          · exact h2 y (List.mem_cons_of_mem _ z)
  intro x xs m hm hy
  obtain ⟨h1, h2⟩ := step xs x
  exact Int.le_antisymm (h2 m hm) (hy _ h1)
theorem minL_ok : ∀ (x : Int) (xs : List Int) (m : Int), m ∈ x :: xs → (∀ y ∈ x :: xs, m ≤ y) → m = minL (x :: xs) := by
  have step : ∀ (xs : List Int) (a : Int), xs.foldl min a ∈ a :: xs ∧ ∀ y ∈ a :: xs, xs.foldl min a ≤ y := by
    intro xs
    induction xs with
    | nil => intro a; exact ⟨List.mem_cons_self, fun y hy => by rw [List.mem_singleton.mp hy]; exact Int.le_refl _⟩
    | cons b bs ih =>
      intro a
      obtain ⟨h1, h2⟩ := ih (min a b)
      show bs.foldl min (min a b) ∈ _ ∧ _
      refine ⟨?_, fun y hy => ?_⟩
      · rcases List.mem_cons.mp h1 with z | z
        · rw [z]
          rcases Int.le_total a b with q | q
          · rw [Int.min_eq_left q]; exact List.mem_cons_self
          · rw [Int.min_eq_right q]; exact List.mem_cons_of_mem _ List.mem_cons_self
        · exact List.mem_cons_of_mem _ (List.mem_cons_of_mem _ z)
      · have hm := h2 (min a b) List.mem_cons_self
        rcases List.mem_cons.mp hy with z | z
        · rw [z]; exact Int.le_trans hm (Int.min_le_left a b)
        · rcases List.mem_cons.mp z with z | z
          · rw [z]; exact Int.le_trans hm (Int.min_le_right a b)
          · exact h2 y (List.mem_cons_of_mem _ z)
  intro x xs m hm hy
  obtain ⟨h1, h2⟩ := step xs x
  exact Int.le_antisymm (hy _ h1) (h2 m hm)
/-- a list of numbers, not a tuple (for max and min) -/
theorem list_of (R : HR P r h X) {d : D} {v : V} {xs : List D} (q : RV P.K X r d v) (e : listOf d h = some xs) : ∃ p vs, v = .ref p ∧ RVs P.K X r xs vs ∧ SqL P.K X p vs := by
  cases q with
  | scr q => cases e; exact ⟨_, _, rfl, RVs.ints _, q.sq⟩
  | @ref n p q =>
    have e : (match h[n]? with
      | some (.lst xs) => some xs
      | _ => none) = some xs := e
    split at e
    · rename_i ys hx
      cases e
      obtain ⟨vs, q1, q2⟩ := R.lst hx q
      exact ⟨p, vs, rfl, q2, .inl (.inl q1)⟩
    · cases e
  | _ => cases e
theorem intsIn_rv (R : HR P r h X) {d : D} {v : V} {is : List Int} (e : intsIn d h = some is) (q : RV P.K X r d v) : ∃ p, v = .ref p ∧ SqL P.K X p (is.map V.int) := by
  unfold intsIn at e
  split at e
  · rename_i xs ex
    obtain ⟨p, vs, rfl, q1, q2⟩ := list_of R q ex
    rw [ints_rv e q1] at q2
    exact ⟨p, rfl, q2⟩
  · cases e
theorem cMax (hK : C.K = P.K) (hc : C.calm = true) : L2.CallR C (.builtin "max") (rN P fMax) := caW ((L2.call_max2 hc).or (L2.cr_max hc)) fun vs X Q ⟨r, h, ds, hr, rs, e⟩ => by
  unfold fMax at e
  split at e
  · rename_i i j
    obtain ⟨v, u, rfl, a, b⟩ := rs.two
    cases a
    cases b
    exact .inl ⟨i, j, rfl, e r X _ .refl hr (.int _)⟩
  · rename_i d
    obtain ⟨v, rfl, rv⟩ := rs.one
    split at e
    · rename_i x xs ex
      obtain ⟨p, rfl, q⟩ := intsIn_rv hr ex rv
      refine .inr ⟨p, x :: xs, rfl, by rw [hK]; exact q, Nat.succ_pos _, fun m hm hy => ?_⟩
      rw [maxL_ok x xs m hm hy]
      exact e r X _ .refl hr (.int _)
    · exact e.elim
  · exact e.elim
theorem cMin (hK : C.K = P.K) (hc : C.calm = true) : L2.CallR C (.builtin "min") (rN P fMin) := caW ((L2.call_min2 hc).or (L2.cr_min hc)) fun vs X Q ⟨r, h, ds, hr, rs, e⟩ => by
  unfold fMin at e
  split at e
  · rename_i i j
    obtain ⟨v, u, rfl, a, b⟩ := rs.two
    cases a
    cases b
    exact .inl ⟨i, j, rfl, e r X _ .refl hr (.int _)⟩
  · rename_i d
    obtain ⟨v, rfl, rv⟩ := rs.one
    split at e
    · rename_i x xs ex
      obtain ⟨p, rfl, q⟩ := intsIn_rv hr ex rv
      refine .inr ⟨p, x :: xs, rfl, by rw [hK]; exact q, Nat.succ_pos _, fun m hm hy => ?_⟩
      rw [minL_ok x xs m hm hy]
      exact e r X _ .refl hr (.int _)
    · exact e.elim
  · exact e.elim
theorem cSum (hK : C.K = P.K) (hc : C.calm = true) : L2.CallR C (.builtin "sum") (rN P fSum) := caW ((L2.cr_sum hc).or (cSumT hc)) fun vs X Q ⟨r, h, ds, hr, rs, e⟩ => by
  unfold fSum at e
  split at e
  · rename_i d
    obtain ⟨v, rfl, rv⟩ := rs.one
    split at e
    · rename_i xs ex
      obtain ⟨p, rfl, q⟩ := intsOf_rv hr ex rv
      rcases q with q | q
      · exact .inl ⟨p, xs, rfl, by rw [hK]; exact q, e r X _ .refl hr (.int _)⟩
      · exact .inr ⟨p, xs, rfl, by rw [hK]; exact q, e r X _ .refl hr (.int _)⟩
    · exact e.elim
  · exact e.elim
theorem cAll (hK : C.K = P.K) (hc : C.calm = true) : L2.CallR C (.builtin "all") (rN P fAll) := caW (L2.cr_all hc) fun vs X Q ⟨r, h, ds, hr, rs, e⟩ => by
  unfold fAll at e
  split at e
  · rename_i d
    obtain ⟨v, rfl, rv⟩ := rs.one
    split at e
    · rename_i xs ex
      split at e
      · rename_i bs eb
        obtain ⟨p, us, rfl, q1, q2⟩ := list_of hr rv ex
        rw [bools_rv eb q1] at q2
        exact ⟨p, bs, rfl, by rw [hK]; exact q2, e r X _ .refl hr (.bl _)⟩
      · exact e.elim
    · exact e.elim
  · exact e.elim
theorem cTuple (hK : C.K = P.K) : L2.CallR C (.type "tuple") (rN P fTuple) := caW L2.call_tuple_of fun vs X Q ⟨r, h, ds, hr, rs, e⟩ => by
  unfold fTuple at e
  split at e
  · rename_i d
    obtain ⟨v, rfl, rv⟩ := rs.one
    split at e
    · rename_i xs ex
      obtain ⟨p, us, rfl, q1, q2⟩ := seq_of hr rv ex
      rcases q2 with q2 | q2
      · exact ⟨p, us, rfl, .inl ⟨by rw [hK]; exact q2, fun t ht => e r _ _ (Stp.fresh ht) (hr.fresh ht) (RV.newT hr ht q1)⟩⟩
      · exact ⟨p, us, rfl, .inr ⟨by rw [hK]; exact q2, e r X _ .refl hr (.tup q2 q1)⟩⟩
    · exact e.elim
  · exact e.elim
theorem cList (hK : C.K = P.K) : L2.CallR C (.type "list") (rN P fList) := caW L2.call_list_of fun vs X Q ⟨r, h, ds, hr, rs, e⟩ => by
  unfold fList at e
  split at e
  · rename_i d
    obtain ⟨v, rfl, rv⟩ := rs.one
    split at e
    · rename_i xs ex
      obtain ⟨p, us, rfl, q1, q2⟩ := seq_of hr rv ex
      exact ⟨p, us, rfl, by rw [hK]; exact q2, fun t ht => e _ _ _ (Stp.new' ht) (hr.newL ht q1) (.ref hr.last)⟩
    · exact e.elim
  · exact e.elim
theorem small_log {i : Int} (h : smallI i = true) : i.natAbs.log2 < 1920 := by
  have ⟨h1, h2⟩ := small_lt h
  have h3 : i.natAbs < 2 ^ 64 := by omega
  by_cases h0 : i.natAbs = 0
  · rw [h0]; decide
  · exact Nat.lt_of_lt_of_le ((Nat.log2_lt h0).mpr h3) (by decide)
theorem cStrI : L2.CallR C (.type "str") (rN P fStrI) := caW L2.call_str_int fun vs X Q ⟨r, h, ds, hr, rs, e⟩ => by
  unfold fStrI at e
  split at e
  · rename_i i
    obtain ⟨v, rfl, rv⟩ := rs.one
    cases rv
    split at e
    · rename_i hz
      exact ⟨i, rfl, small_log hz, e r X _ .refl hr (.str _)⟩
    · exact e.elim
  · exact e.elim

/-! ### methods of lists -/
variable {w : WX} {o e : Expr} {mo me : E} {apos cpos : Pos}
class CalmM (f : D → F) : Prop where
  ne : ∀ o a h c fs h', f o a h ≠ .ex c fs h'
instance : CalmM mAppend := ⟨fun o a h c fs h' e => by
  unfold mAppend at e
  repeat' (split at e)
  all_goals cases e⟩
instance : CalmM mExtend := ⟨fun o a h c fs h' e => by
  unfold mExtend at e
  repeat' (split at e)
  all_goals cases e⟩
/-- what a list's method asks by values -/
def rM (P : Pm) (f : D → F) : V → List V → Hp → VK → Prop := fun x vs X Q => ∃ r h a ds, HR P r h X ∧ RV P.K X r a x ∧ RVs P.K X r ds vs ∧ End relE P wN r X [] (f a ds h) Q
theorem wLm {f : D → F} [cf : CalmM f] {mas : A} (hK : C.K = P.K) {σ : St} {X : Hp} {Q : VK} (q : tE P w (eLm f mo mas) σ X Q) : L2.tBM C.K "list" (rM P f) (tE P w mo) (tA P w mas) σ X Q := by
  obtain ⟨r, h, l, ds, a1, a2, a3, a4⟩ := bindE (R := relE) (m := mo) (k := fun x _ l h => if isLst x h = true then (mas l h).bind fun xs h2 => f x xs h2 else .bad) q
  refine ⟨r, h, l, ds, a1, a2, a3, End.mono (fun v X1 q => ?_) a4⟩
  obtain ⟨r, h, l, ds, a1, a2, a3, a4⟩ := q
  cases a3 with
  | cons b1 b2 =>
    cases b2
    rename_i d
    have a4 : End relE P w r X1 σ (if isLst d h = true then (mas l h).bind fun xs h2 => f d xs h2 else .bad) Q := a4
    by_cases hz : isLst d h = true
    · rw [if_pos hz] at a4
      refine ⟨?_, r, h, l, [], a1, a2, .nil, End.mono (fun vs X2 ⟨r2, h2, xs, s2, c1, c2, c3⟩ => ?_) (End.bind (R0 := relA) a4)⟩
      · cases b1 with
        | @ref n p q =>
          have hz : (match h[n]? with
            | some (.lst _) => true
            | _ => false) = true := hz
          split at hz
          · rename_i xs ex
            obtain ⟨vs, q1, q2⟩ := a1.lst ex q
            exact .inl ⟨rfl, vs, .inl (.inl q1)⟩
          · cases hz
        | _ => cases hz
      · exact ⟨r2, h2, d, xs, c1, b1.mono s2 a1.own, c2, End.calm (cf.ne _ _ _) c3⟩
    · rw [if_neg hz] at a4
      exact a4.elim
theorem tmAppend : L2.MtR C "list.append" (rM P mAppend) := mtW L2.mt_append fun x vs X Q ⟨r, h, a, ds, hr, ra, rs, e⟩ => by
  unfold mAppend at e
  split at e
  · rename_i n d
    obtain ⟨v, rfl, rv⟩ := rs.one
    split at e
    · rename_i xs ex
      split at e
      · rename_i hz
        obtain ⟨p, rfl, hp⟩ : ∃ p, x = .ref p ∧ r[n]? = some p := by cases ra; exact ⟨_, rfl, by assumption⟩
        obtain ⟨us, q1, q2⟩ := hr.lst ex hp
        have st := Stp.write (X := X) (o := .lst (us ++ [v])) (List.mem_of_getElem? hp)
        exact ⟨p, us, v, rfl, rfl, q1, limLt (by rw [← q2.length]; exact hz), e r _ _ st (hr.write hp ⟨_, upd_same, RVs.mono st hr.own (q2.append (.cons rv .nil))⟩) .non⟩
      · exact e.elim
    · exact e.elim
  · exact e.elim
theorem tmExtend : L2.MtR C "list.extend" (rM P mExtend) := mtW L2.mt_extend fun x vs X Q ⟨r, h, a, ds, hr, ra, rs, e⟩ => by
  unfold mExtend at e
  split at e
  · rename_i n m
    obtain ⟨v, rfl, rv⟩ := rs.one
    split at e
    · rename_i xs ys ex ey
      split at e
      · rename_i hz
        obtain ⟨p, rfl, hp⟩ : ∃ p, x = .ref p ∧ r[n]? = some p := by cases ra; exact ⟨_, rfl, by assumption⟩
        obtain ⟨p', rfl, hp'⟩ : ∃ p, v = .ref p ∧ r[m]? = some p := by cases rv; exact ⟨_, rfl, by assumption⟩
        obtain ⟨us, q1, q2⟩ := hr.lst ex hp
        obtain ⟨us', q1', q2'⟩ := hr.lst ey hp'
        have st := Stp.write (X := X) (o := .lst (us ++ us')) (List.mem_of_getElem? hp)
        exact ⟨p, p', us, us', rfl, rfl, q1, q1', lim (by rw [← q2.length, ← q2'.length]; exact hz), e r _ _ st (hr.write hp ⟨_, upd_same, RVs.mono st hr.own (q2.append q2')⟩) .non⟩
      · exact e.elim
    · exact e.elim
  · exact e.elim
theorem xAppend (hK : C.K = P.K) (ho : PE C o (tE P w mo)) (he : PE C e (tE P w me)) (hbase : attributeBase o "append" C.env (eval o C.env) = eval o C.env := by rfl) (hline : (apos.endLine == cpos.line) = true := by rfl)
    (hs : starEach [e] C.env = (false, eval e C.env) :: starEach [] C.env := by rfl) : PE C (.Call (.Attribute o "append" apos) [e] [] cpos) (tE P w (eLm mAppend mo (aCons me aNil))) :=
  peW (L2.pe_bm PySem.F.plainAttrs_list PySem.F.slot_list_append PySem.F.type_list_append (tmAppend (P := P)) ho (xCons he xNil hs) hbase (by rw [hs]; rfl) hline hs rfl) fun σ X Q q => wLm hK q
theorem xExtend (hK : C.K = P.K) (ho : PE C o (tE P w mo)) (he : PE C e (tE P w me)) (hbase : attributeBase o "extend" C.env (eval o C.env) = eval o C.env := by rfl) (hline : (apos.endLine == cpos.line) = true := by rfl)
    (hs : starEach [e] C.env = (false, eval e C.env) :: starEach [] C.env := by rfl) : PE C (.Call (.Attribute o "extend" apos) [e] [] cpos) (tE P w (eLm mExtend mo (aCons me aNil))) :=
  peW (L2.pe_bm PySem.F.plainAttrs_list PySem.F.slot_list_extend PySem.F.type_list_extend (tmExtend (P := P)) ho (xCons he xNil hs) hbase (by rw [hs]; rfl) hline hs rfl) fun σ X Q q => wLm hK q

/-! ### isinstance -/
theorem kitTys : ∀ a ∈ ["NoneType", "bool", "int", "str", "tuple", "list", "dict"], ∀ t ∈ [("int", Ty.int), ("bool", Ty.bool), ("tuple", Ty.tuple), ("list", Ty.list), ("str", Ty.str)],
    L2.kitB a t.1 = some (decide (a = t.1) || (decide (a = "bool") && decide (t.1 = "int"))) := by decide +kernel
def tyName : Ty → String
  | .int => "int"
  | .bool => "bool"
  | .tuple => "tuple"
  | .list => "list"
  | .str => "str"
theorem kitTy (a : String) (ha : a ∈ ["NoneType", "bool", "int", "str", "tuple", "list", "dict"]) (t : Ty) : L2.kitB a (tyName t) = some (decide (a = tyName t) || (decide (a = "bool") && decide (tyName t = "int"))) :=
  kitTys a ha (tyName t, t) (by cases t <;> simp [tyName])
instance (t : Ty) : Calm1 (vIsTy t) := ⟨fun a h c fs h' e => by
  unfold vIsTy at e
  split at e <;> cases e⟩
theorem isTy_ok (hK : C.K = P.K) (R : HR P r h X) {d : D} {v : V} {t : Ty} {b : Bool} (q : RV P.K X r d v) (e : isTy t d h = some b) : ∃ u, L2.TyX C.K X v u ∧ PySem.W.kitOne C.K u (.type (tyName t)) = some b := by
  have K1 : ∀ a, a ∈ ["NoneType", "bool", "int", "str", "tuple", "list", "dict"] → ∀ b', (decide (a = tyName t) || (decide (a = "bool") && decide (tyName t = "int"))) = b' → PySem.W.kitOne C.K (.type a) (.type (tyName t)) = some b' := fun a ha b' e => L2.kit_ty (by rw [kitTy a ha t, e])
  cases q with
  | non => cases e; exact ⟨_, .base .non, K1 _ (by simp) _ (by cases t <;> decide)⟩
  | bl x => cases e; exact ⟨_, .base (.bl x), K1 _ (by simp) _ (by cases t <;> decide)⟩
  | int i => cases e; exact ⟨_, .base (.int i), K1 _ (by simp) _ (by cases t <;> decide)⟩
  | str x => cases e; exact ⟨_, .base (.str x), K1 _ (by simp) _ (by cases t <;> decide)⟩
  | tup q1 q2 =>
    cases e
    refine ⟨.type "tuple", ?_, K1 "tuple" (by simp) _ (by cases t <;> decide)⟩
    rcases q1 with (q1 | ⟨o, q1⟩) | ⟨o, its, n, k1, k2, _⟩
    · exact .base (.tup q1)
    · exact .fTuple q1
    · rw [← hK] at k1
      exact .kTuple k1 k2
  | scr q1 =>
    cases e
    refine ⟨.type "list", ?_, K1 "list" (by simp) _ (by cases t <;> decide)⟩
    rcases q1 with ⟨o, q1⟩ | (q1 | ⟨o, q1⟩) | ⟨o, its, n, k1, k2, _⟩
    · exact .base (.frz q1)
    · cases q1
    · cases q1
    · rw [← hK] at k1
      exact .kList k1 k2
  | gls _ => cases e
  | ftup _ _ _ _ => cases e
  | @ref n p q1 =>
    have e : (match h[n]? with
      | some (.lst _) => some (t == .list)
      | some (.dct _) => some false
      | some (.ins _ _) => some false
      | some (.tbl _) => none
      | none => none) = some b := e
    cases hc : h[n]? with
    | none => rw [hc] at e; cases e
    | some c =>
      rw [hc] at e
      have q := R.cell n c p hc q1
      cases c with
      | lst xs =>
        cases e
        obtain ⟨vs, q2, _⟩ := q
        exact ⟨_, .base (.lst q2), K1 "list" (by simp) _ (by cases t <;> decide)⟩
      | dct kvs =>
        cases e
        obtain ⟨vs, q2, _⟩ := q
        exact ⟨.type "dict", q2.elim (fun z => .base (.dK z)) (fun ⟨_, z⟩ => .fDict z), K1 "dict" (by simp) _ (by cases t <;> decide)⟩
      | tbl _ => cases e
      | ins c fs =>
        cases e
        obtain ⟨dx, vs, q2, _, _, I⟩ := q
        rw [← hK] at I
        exact ⟨_, .base (.ins q2 I.cl I.ha I.hn I.ht I.hm), I.ty _ (by cases t <;> simp [tyName])⟩
theorem xIsTy {a : Expr} {ma : E} {t : Ty} {x : Str} {p p2 pos : Pos} (hK : C.K = P.K) (ha : PE C a (tE P w ma)) (hg : L2.Gl C "isinstance") (hm : C.mg "isinstance" = none) (hx : PE C (.Name x p2) (L2.tC (.ty (tyName t))))
    (h1 : starEach [a, .Name x p2] C.env = (false, eval a C.env) :: starEach [.Name x p2] C.env := by rfl) (h2 : starEach [.Name x p2] C.env = (false, eval (.Name x p2) C.env) :: starEach [] C.env := by rfl)
    (hpl : (backTo pos (starEach [.Name x p2] C.env)).any (·.1) = false := by rfl) : PE C (.Call (.Name "isinstance" p) [a, .Name x p2] [] pos) (tE P w (eUn (vIsTy t) ma)) :=
  peW (L2.pe_callB L2.call_isi hg hm (by decide +kernel) (L2.pa_cons ha (L2.pa_cons hx L2.pa_nil h2) h1) (by decide) (by decide) h1 hpl) fun σ X Q e => by
    obtain ⟨r, h, l, ds, a1, a2, a3, a4⟩ := bindE (R := relE) (m := ma) (k := fun x _ l h => vIsTy t x h) e
    refine ⟨r, h, l, ds, a1, a2, a3, End.mono (fun v X1 q => ?_) a4⟩
    obtain ⟨r, h, l, ds, a1, a2, a3, a4⟩ := q
    cases a3 with
    | cons b1 b2 =>
      cases b2
      rename_i d
      have a4 : End relE P w r X1 σ (vIsTy t d h) Q := a4
      unfold vIsTy at a4
      split at a4
      · rename_i b eb
        obtain ⟨u, u1, u2⟩ := isTy_ok hK a1 b1 eb
        exact ⟨v, .ty (tyName t), u, _, b, rfl, .ty _, u1, u2, a4 r X1 _ .refl a1 (.bl _)⟩
      · exact a4.elim
end
end FL

end

section
set_option Elab.async false
set_option linter.all false
set_option maxRecDepth 100000
set_option maxHeartbeats 1000000
/-! Own classes: objects made, methods of all kinds, fields. -/
namespace FL
open PySem
open L2 (V Hp HO VK XK St TE TT TA TS TG TGs TI Ends PE PT PW PA PS PSs PG PGs PI Cx Inv SqL SqT Rd upd upd_same upd_ne WX Room)

/-! ### on values -/
/-- the class of an object -/
def clsOf (d : D) (h : H) : Option Nat := match d with
  | .ref n => (match h[n]? with
    | some (.ins c _) => some c
    | _ => none)
  | _ => none
/-- known, or nothing -/
def opt {β α : Type} (o : Option β) (k : β → Res α) : Res α := match o with
  | some b => k b
  | none => .bad
/-- .. where no field hides the name -/
def clsM (m : PySem.Str) (d : D) (h : H) : Option Nat := match d with
  | .ref n => (match h[n]? with
    | some (.ins c fs) => if (fldOf fs m).isNone = true then some c else none
    | _ => none)
  | _ => none
def pick (m : PySem.Str) (d : Nat → Option F) (x : D) (h : H) : Option (Nat × F) := (clsM m x h).bind fun c => (d c).map fun f => (c, f)
/-- o.m(..) where m stands at each class -/
def eOM (m : PySem.Str) (d : Nat → Option F) (o : E) (a : A) : E := fun l h => (o l h).bind fun x h1 => opt (pick m d x h1) fun cf => (a l h1).bind fun xs h2 => cf.2 (x :: xs) h2
/-- o(..) -/
def byCls (d : Nat → Option F) (x : D) (xs : List D) (h : H) : Res D := match clsOf x h with
  | some c => (match d c with
    | some f => f (x :: xs) h
    | none => .bad)
  | none => .bad
def eOC (d : Nat → Option F) (o : E) (a : A) : E := fun l h => (o l h).bind fun x h1 => opt (clsOf x h1) fun _ => (a l h1).bind fun xs h2 => byCls d x xs h2
/-- .. of the class alone -/
def pickP (d : Nat → Option F) (x : D) (h : H) : Option (Nat × F) := (clsOf x h).bind fun c => (d c).map fun f => (c, f)
def tame {α : Type} (z : Res α) : Res α := match z with
  | .ok a h => .ok a h
  | _ => .bad
/-- o.p of a property (it raises nothing) -/
def eOP (d : Nat → Option F) (o : E) : E := fun l h => (o l h).bind fun x h1 => opt (pickP d x h1) fun cf => tame (cf.2 [x] h1)
/-- C(..) -/
def mkObj (c : Nat) (f : F) (xs : List D) (h : H) : Res D := (f (.ref h.length :: xs) (h ++ [.ins c []])).bind fun v h2 => match v with
  | .non => .ok (.ref h.length) h2
  | _ => .bad
def eMk (c : Nat) (f : F) (a : A) : E := fun l h => (a l h).bind fun xs h1 => mkObj c f xs h1
/-- o.f = e -/
def sFldA (cs : List Nat) (o : E) (f : PySem.Str) (e : E) : S := fun l h => ofRes l (e l h) fun v h1 => ofRes l (o l h1) fun x h2 => match x with
  | .ref n => (match h2[n]? with
    | some (.ins c fs) => if cs.contains c = true ∧ fs.length < 900 then .nx l (h2.set n (.ins c (putFld f v fs))) else .bad
    | _ => .bad)
  | _ => .bad
/-- def f(a, .., *v) -/
def fnS (nn kk : Nat) (b : S) : F := fun ds h => if kk ≤ ds.length ∧ ds.length - kk ≤ LIM then fn nn (kk + 1) b (ds.take kk ++ [.tup (ds.drop kk)]) h else .bad
/-- *e in an argument list -/
def aStar (e : E) (r : A) : A := fun l h => (e l h).bind fun x h1 => match listOf x h1 with
  | some xs => (r l h1).bind fun ys h2 => .ok (xs ++ ys) h2
  | none => .bad

/-! ### promises -/
def spA (P : Pm) (f : F) : L2.Sp := fun vs X Q Ex => ∃ r h ds, HR P r h X ∧ RVs P.K X r ds vs ∧ End relE P (fun cls dd _ X' => Ex cls dd X') r X [] (f ds h) Q
section
variable {g : Bool} {Pg : Program} {wd : World} {K : PySem.W.Frag} {mg : Str → Option Value} {base : Heap} {k j n : Nat} {f : Addr} {P : Pm} {fm : F}
theorem FnX.free (F : FnX g Pg wd K mg base k f (spF P n fm)) (ar : ∀ ds h, ds.length ≠ n → fm ds h = .bad) : FnX g Pg wd K mg base k f (spA P fm) := fun A outer s X us vs Q Ex hr hg e0 rv ⟨r, h, ds, a1, a2, a3⟩ =>
  F A outer s X us vs Q Ex hr hg e0 rv ⟨by
    rw [← a2.length]
    by_cases hn : ds.length = n
    · exact hn
    · rw [ar _ _ hn] at a3
      exact a3.elim, r, h, ds, a1, a2, a3⟩
theorem FnX.low {sp : L2.Sp} (F : FnX g Pg wd K mg base j f sp) (h : j ≤ k) : FnX g Pg wd K mg base k f sp := F.mono h
theorem Bd.lo {g : Bool} {C : Cx} {w : WX} (B : Bd g C w k) : Bd false C w k := ⟨B.room, (fun z => by cases z), B.tk, B.po, B.calm⟩
end
section
variable {g : Bool} {C : Cx} {P : Pm} {w : WX} {k j n c : Nat} {f : Addr} {x m : Str} {p pos apos : Pos} {e o fe : Expr} {es : List Expr} {mas : A} {mo : E} {fm : F}
theorem code_A {sp : L2.Sp} {pins : List (Addr × Obj)} {σ : St} {X : Hp} {s : Shared} {Q : VK} {us : List Value} {vs : List V} (B : Bd g C w k) (F : FnX g C.prog C.w C.K C.mg C.base j f sp) (hj : j ≤ k) (I : Inv C pins σ X s) (r : L2.Vals vs us)
    (h : sp vs X Q (L2.WE w σ)) : codeAny (model C.prog C.w) C.A (.call (.ref f) ⟨us, []⟩) (wants (L2.EP C pins σ Q) C.xe) s :=
  codeAny_mono (F C.A C.stack s X us vs Q (L2.WE w σ) (B.room.mono hj) B.gd I.env0 r h) fun z s' hq => by
    match z with
    | .error u => exact L2.passAt B.tk σ pins X s u s' I hq
    | .ok (.ret u) => exact I.after hq
    | .ok .next => exact hq.elim
    | .ok .brk => exact hq.elim
    | .ok .cont => exact hq.elim
theorem run_A {sp : L2.Sp} {pins : List (Addr × Obj)} {σ : St} {X : Hp} {s : Shared} {Q : VK} {us : List Value} {vs : List V} (B : Bd g C w k) (F : FnX g C.prog C.w C.K C.mg C.base j f sp) (hj : j ≤ k) (I : Inv C pins σ X s) (r : L2.Vals vs us)
    (h : sp vs X Q (L2.WE w σ)) : wpAny (model C.prog C.w) C.A (call (.ref f) us) (L2.EP C pins σ Q) C.xe s :=
  wpAny_call (code_A B F hj I r h)
/-- what the class of number c has under the name m: a def -/
structure DefAt (C : Cx) (P : Pm) (k : Nat) (m : Str) (c : Nat) (fm : F) : Prop where
  ex : ∃ f, FnX false C.prog C.w C.K C.mg C.base k f (spA P fm) ∧ PySem.W.findIn C.K (.ref (P.ca c)) m = some (some (.ref f)) ∧ PySem.W.isFn C.K (.ref f) = true ∧ PySem.W.fnIn C.K f = true ∧ PySem.W.keepIn C.K (.ref f) = true
def Disp (C : Cx) (P : Pm) (k : Nat) (m : Str) (d : Nat → Option F) : Prop := ∀ c f, d c = some f → DefAt C P k m c f
theorem clsOf_at {X : Hp} {r : List Addr} {h : H} {d : D} {v : V} (R : HR P r h X) (q : RV P.K X r d v) (e : clsOf d h = some c) : ∃ a dx fs vs, v = .ref a ∧ X a = some (.ins (P.ca c) dx ((names fs).zip vs)) ∧ InsOk P.K (P.ca c) ∧ (∃ n, d = .ref n ∧ h[n]? = some (.ins c fs) ∧ r[n]? = some a) ∧ RVs P.K X r (vals fs) vs := by
  cases q <;> try (simp [clsOf] at e; done)
  case ref n a ha =>
    unfold clsOf at e
    dsimp only at e
    cases e2 : h[n]? with
    | none =>
      rw [e2] at e
      cases e
    | some cell =>
      rw [e2] at e
      cases cell with
      | lst xs => cases e
      | dct kv => cases e
      | tbl _ => cases e
      | ins c' fs =>
        cases e
        obtain ⟨dx, vs, q1, q2, q3, q4⟩ := R.cell n _ a e2 ha
        exact ⟨a, dx, fs, vs, rfl, q1, q4, ⟨n, rfl, e2, ha⟩, q3⟩
theorem endWE {r : List Addr} {X : Hp} {σ : St} {z : Res D} {Q : VK} (e : End relE P w r X σ z Q) : End relE P (fun cls dd _ X' => L2.WE w σ cls dd X') r X [] z Q := by
  cases z with
  | ok d h' => exact e
  | ex c fs h' => exact e
  | bad => exact e
/-- behind the object: the arguments, the object's class known -/
theorem afterObj {β : Type} (cl : β → Nat) (G : D → H → Option β) (hG : ∀ x h b, G x h = some b → clsOf x h = some (cl b)) {K2 : β → D → List D → H → Res D} {y : V} {σ : St} {X : Hp} {Q : VK} (q : tK relE P w (fun ds => match ds with
      | d :: ds => fun l h => (fun x (_ : List D) (l : Loc) h1 => opt (G x h1) fun b => (mas l h1).bind fun xs h2 => K2 b x xs h2) d ds l h
      | [] => fun _ _ => .bad) [y] σ X Q) : ∃ b a dx fs vs, y = .ref a ∧ X a = some (.ins (P.ca (cl b)) dx ((names fs).zip vs)) ∧ InsOk P.K (P.ca (cl b)) ∧ (∃ r h n, h[n]? = some (.ins (cl b) fs) ∧ G (.ref n) h = some b ∧ RVs P.K X r (vals fs) vs) ∧
      tA P w mas σ X fun vs X2 => ∃ r h xs x, HR P r h X2 ∧ RVs P.K X2 r xs vs ∧ RV P.K X2 r x y ∧ End relE P w r X2 σ (K2 b x xs h) Q := by
  obtain ⟨r, h, l, ds, a1, a2, a3, a4⟩ := q
  cases a3 with
  | @cons x _ _ _ b1 b2 =>
    cases b2
    dsimp only at a4
    cases ec : G x h with
    | none =>
      rw [ec] at a4
      exact a4.elim
    | some b =>
      rw [ec] at a4
      obtain ⟨a, dx, fs, vs, e1, e2, e3, ⟨n, e4, e5, e6⟩, e7⟩ := clsOf_at a1 b1 (hG _ _ _ ec)
      subst e4
      refine ⟨b, a, dx, fs, vs, e1, e2, e3, ⟨r, h, n, e5, ec, e7⟩, ?_⟩
      have z := bindA (R := relE) (P := P) (w := w) (m := mas) (k := fun xs ds l h2 => match ds with
        | [x] => K2 b x xs h2
        | _ => .bad) (vs := [y]) (σ := σ) (X := X) (Q := Q) ⟨r, h, l, [.ref n], a1, a2, .cons b1 .nil, a4⟩
      obtain ⟨r, h, l, ds, a1, a2, a3, a4⟩ := z
      refine ⟨r, h, l, ds, a1, a2, a3, End.mono (fun vs X2 q => ?_) a4⟩
      obtain ⟨r, h, l, xs, ds, a1, a2, a3, a5, a4⟩ := q
      cases a5 with
      | cons c1 c2 =>
        cases c2
        exact ⟨r, h, xs, _, a1, a3, c1, a4⟩
theorem xCallO {d : Nat → Option F} (B : Bd g C w k) (hf : PE C fe (tE P w mo)) (hd : Disp C P j "__call__" d) (hj : j ≤ k) (ha : PA C (e :: es) (tA P w mas))
    (ht : eval (.Call fe (e :: es) [] pos) C.env = (do callWith pos (← eval fe C.env) [] (backTo pos (starEach (e :: es) C.env)) (backToKw pos (keywordEach [] C.env))) := by rfl)
    (he : starEach (e :: es) C.env = (false, eval e C.env) :: starEach es C.env := by rfl) (hpl : (backTo pos (starEach es C.env)).any (·.1) = false := by rfl) : PE C (.Call fe (e :: es) [] pos) (tE P w (eOC d mo mas)) := by
  refine ⟨fun pins s σ X Q I h => ?_⟩
  refine PyProof.Rows.Call_ (L2.thn (hf.run pins s σ X _ I (bindE (R := relE) (m := mo) (k := fun x (_ : List D) l h1 => opt (clsOf x h1) fun _ => (mas l h1).bind fun xs h2 => byCls d x xs h2) h)) fun u s1 ⟨y, X1, I1, ry, q⟩ => ?_) ht
  obtain ⟨c, a, dx, fs, vs, rfl, e2, e3, _, q2⟩ := afterObj (fun c => c) clsOf (fun _ _ _ z => z) (K2 := fun _ x xs h => byCls d x xs h) q
  obtain rfl : u = Value.ref a := ry
  refine StX.callO_with (L2.thn (ha.run pos pins s1 σ X1 _ I1 q2) fun us s2 ⟨vs, X2, I2, r, q3⟩ => ?_) he hpl
  obtain ⟨r3, h3, xs, x, b1, b2, b3, b4⟩ := q3
  unfold byCls at b4
  cases ec : clsOf x h3 with
  | none =>
    rw [ec] at b4
    exact b4.elim
  | some c =>
    rw [ec] at b4
    obtain ⟨a', dx, fs, ws, ey, e2, e3, _⟩ := clsOf_at b1 b3 ec
    cases ey
    dsimp only at b4
    cases ed : d c with
    | none =>
      rw [ed] at b4
      exact b4.elim
    | some fm =>
      rw [ed] at b4
      obtain ⟨f, F, h1, h2, h4, h5⟩ := hd c fm ed
      obtain ⟨ox, od, J, hp⟩ := StX.insC_at (C := P.ca c) I2 (.inr ⟨_, _, e2⟩)
      refine ⟨⟨_, ox, od, J, hp⟩, wpAny_call (PySem.W.kco_code I2.kIn J hp h1 h2 h4 ?_)⟩
      exact code_A (us := .ref a :: us) (vs := .ref a :: vs) B.lo F hj I2 (.cons rfl r) ⟨r3, h3, x :: xs, b1, .cons b3 b2, endWE b4⟩
theorem fld_rv {K : PySem.W.Frag} {X : Hp} {r : List Addr} (m : PySem.Str) : ∀ {fs : List (PySem.Str × D)} {vs : List V}, RVs K X r (vals fs) vs → (fldOf fs m = none → ((names fs).zip vs).lookup m = none) ∧ (∀ d, fldOf fs m = some d → ∃ v, ((names fs).zip vs).lookup m = some v ∧ RV K X r d v)
  | [], _, .nil => And.intro (fun _ => rfl) (fun d e => nomatch e)
  | (g, u) :: fs, _, .cons (v := v) (vs := vs) h1 h2 => by
    have ih := fld_rv m h2
    show (List.lookup m ((g, u) :: fs) = none → List.lookup m ((g, v) :: (names fs).zip vs) = none) ∧ (∀ d, List.lookup m ((g, u) :: fs) = some d → ∃ v', List.lookup m ((g, v) :: (names fs).zip vs) = some v' ∧ RV K X r d v')
    rw [List.lookup_cons, List.lookup_cons]
    cases hb : m == g with
    | true => exact And.intro (fun e => nomatch e) (fun d e => ⟨v, rfl, (Option.some.inj e) ▸ h1⟩)
    | false => exact ih
theorem put_rv {K : PySem.W.Frag} {X : Hp} {r : List Addr} {m : PySem.Str} {d : D} {y : V} (q : RV K X r d y) : ∀ {fs : List (PySem.Str × D)} {vs : List V}, RVs K X r (vals fs) vs → ∃ ws, L2.putF m y ((names fs).zip vs) = (names (putFld m d fs)).zip ws ∧ RVs K X r (vals (putFld m d fs)) ws
  | [], _, .nil => ⟨[y], rfl, .cons q .nil⟩
  | (g, u) :: fs, _, .cons (v := v) (vs := vs) h1 h2 => by
    obtain ⟨ws, e1, e2⟩ := put_rv q h2
    show ∃ ws, (if g = m then (g, y) :: (names fs).zip vs else (g, v) :: L2.putF m y ((names fs).zip vs)) = (names (if g = m then (g, d) :: fs else (g, u) :: putFld m d fs)).zip ws ∧ RVs K X r (vals (if g = m then (g, d) :: fs else (g, u) :: putFld m d fs)) ws
    by_cases hg : g = m
    · rw [if_pos hg, if_pos hg]
      exact ⟨y :: vs, rfl, .cons q h2⟩
    · rw [if_neg hg, if_neg hg, e1]
      exact ⟨v :: ws, rfl, .cons h1 e2⟩
theorem clsM_cls (m : PySem.Str) : ∀ x h c, clsM m x h = some c → clsOf x h = some c := fun x h c e => by
  unfold clsM at e
  unfold clsOf
  cases x <;> try (cases e; done)
  case ref n =>
    dsimp only at e ⊢
    cases e2 : h[n]? with
    | none =>
      rw [e2] at e
      cases e
    | some cell =>
      rw [e2] at e
      cases cell with
      | lst xs => cases e
      | dct kv => cases e
      | tbl _ => cases e
      | ins c' fs =>
        dsimp only at e ⊢
        split at e
        · exact e
        · cases e
theorem pick_cls (m : PySem.Str) (d : Nat → Option F) : ∀ x h (b : Nat × F), pick m d x h = some b → clsOf x h = some b.1 := fun x h b e => by
  unfold pick at e
  obtain ⟨c, e1, e2⟩ := Option.bind_eq_some_iff.mp e
  obtain ⟨f, e3, e4⟩ := Option.map_eq_some_iff.mp e2
  subst e4
  exact clsM_cls m x h c e1
theorem pick_at {m : PySem.Str} {d : Nat → Option F} {h : H} {n c : Nat} {fs : List (PySem.Str × D)} {b : Nat × F} (e : h[n]? = some (.ins c fs)) (q : pick m d (.ref n) h = some b) : fldOf fs m = none ∧ d b.1 = some b.2 := by
  unfold pick at q
  obtain ⟨c', e1, e2⟩ := Option.bind_eq_some_iff.mp q
  obtain ⟨f, e3, e4⟩ := Option.map_eq_some_iff.mp e2
  subst e4
  refine ⟨?_, e3⟩
  unfold clsM at e1
  dsimp only at e1
  rw [e] at e1
  dsimp only at e1
  split at e1
  · exact Option.isNone_iff_eq_none.mp (by assumption)
  · cases e1
theorem xMeth {d : Nat → Option F} {pl : Sem Bool} (hK : C.K = P.K) (B : Bd g C w k) (ho : PE C o (tE P w mo)) (hd : Disp C P j m d) (hj : j ≤ k) (ha : PA C (e :: es) (tA P w mas))
    (hst : starEach (e :: es) C.env = (false, eval e C.env) :: starEach es C.env := by rfl) (hpl : (backTo pos (starEach es C.env)).any (·.1) = false := by rfl)
    (ht : eval (.Call (.Attribute o m apos) (e :: es) [] pos) C.env = (do
      let u ← eval o C.env
      standAt apos.atName
      let (f, first) ← holding [u] (getMethod u m pl)
      callWith pos f first (backTo pos (starEach (e :: es) C.env)) (backToKw pos (keywordEach [] C.env))) := by rfl) : PE C (.Call (.Attribute o m apos) (e :: es) [] pos) (tE P w (eOM m d mo mas)) := by
  refine ⟨fun pins s σ X Q I h => ?_⟩
  refine PySem.W.methodCall_KW (pl := pl) (L2.thn (ho.run pins s σ X _ I (bindE (R := relE) (m := mo) (k := fun x (_ : List D) l h1 => opt (pick m d x h1) fun cf => (mas l h1).bind fun xs h2 => cf.2 (x :: xs) h2) h)) fun u s1 ⟨y, X1, I1, ry, q⟩ => ?_) ht
  obtain ⟨cf, a, dx, fs, vs, rfl, e2, e3, ⟨r0, h0, n0, f2, f3, f4⟩, q2⟩ := afterObj (fun cf : Nat × F => cf.1) (pick m d) (pick_cls m d) (K2 := fun cf x xs h => cf.2 (x :: xs) h) q
  obtain rfl : u = Value.ref a := ry
  obtain ⟨hn, hdc⟩ := pick_at f2 f3
  have hl : ((names fs).zip vs).lookup m = none := (fld_rv m f4).1 hn
  obtain ⟨f, F, h1, h2, h4, h5⟩ := hd cf.1 cf.2 hdc
  refine L2.getmeth_ok I1 e2 (hK ▸ e3.cl) ⟨h1, h2, h5⟩ hl ?_
  refine PySem.W.callWith_K (first := [.ref a]) (h₀ := C.base) I1.ok.mod.kin h5 (L2.thn (ha.run pos pins s1 σ X1 _ I1 q2) fun us s2 ⟨vs, X2, I2, r, q3⟩ => ⟨I2.kIn, ?_⟩) hst hpl
  obtain ⟨r3, h3, xs, x, b1, b2, b3, b4⟩ := q3
  exact run_A (us := .ref a :: us) (vs := .ref a :: vs) B.lo F hj I2 (.cons rfl r) ⟨r3, h3, x :: xs, b1, .cons b3 b2, endWE b4⟩
/-- o.m() -/
theorem xMeth0 {d : Nat → Option F} {pl : Sem Bool} (hK : C.K = P.K) (B : Bd g C w k) (ho : PE C o (tE P w mo)) (hd : Disp C P j m d) (hj : j ≤ k)
    (ht : eval (.Call (.Attribute o m apos) [] [] pos) C.env = (do
      let u ← eval o C.env
      standAt apos.atName
      let (f, first) ← holding [u] (getMethod u m pl)
      callWith pos f first (backTo pos (starEach [] C.env)) (backToKw pos (keywordEach [] C.env))) := by rfl) : PE C (.Call (.Attribute o m apos) [] [] pos) (tE P w (eOM m d mo aNil)) := by
  refine ⟨fun pins s σ X Q I h => ?_⟩
  refine PySem.W.methodCall_KW (pl := pl) (L2.thn (ho.run pins s σ X _ I (bindE (R := relE) (m := mo) (k := fun x (_ : List D) l h1 => opt (pick m d x h1) fun cf => (aNil l h1).bind fun xs h2 => cf.2 (x :: xs) h2) h)) fun u s1 ⟨y, X1, I1, ry, q⟩ => ?_) ht
  obtain ⟨cf, a, dx, fs, vs, rfl, e2, e3, ⟨r0, h0, n0, f2, f3, f4⟩, q2⟩ := afterObj (fun cf : Nat × F => cf.1) (pick m d) (pick_cls m d) (K2 := fun cf x xs h => cf.2 (x :: xs) h) q
  obtain rfl : u = Value.ref a := ry
  obtain ⟨hn, hdc⟩ := pick_at f2 f3
  have hl : ((names fs).zip vs).lookup m = none := (fld_rv m f4).1 hn
  obtain ⟨f, F, h1, h2, h4, h5⟩ := hd cf.1 cf.2 hdc
  refine L2.getmeth_ok I1 e2 (hK ▸ e3.cl) ⟨h1, h2, h5⟩ hl ?_
  obtain ⟨r3, h3, l3, ds3, a1, a2, a3, a4⟩ := q2
  obtain ⟨r3, h3, xs, x, b1, b2, b3, b4⟩ := a4 r3 X1 [] .refl a1 .nil
  exact PySem.W.callWith_K0 (first := [.ref a]) I1.kIn h5 (run_A (us := [.ref a]) (vs := [.ref a]) B.lo F hj I1 (.cons rfl .nil) ⟨r3, h3, x :: xs, b1, .cons b3 b2, endWE b4⟩)
/-- e.f -/
theorem xFld {cs : List Nat} (hK : C.K = P.K) (he : PE C e (tE P w mo)) (hn : ∀ c ∈ cs, PySem.W.findIn C.K (.ref (P.ca c)) m = some none) (hb : attributeBase e m C.env (eval e C.env) = eval e C.env := by rfl) : PE C (.Attribute e m pos) (tE P w (eUn (vFld cs m) mo)) :=
  peW (L2.pe_fld he hb) fun σ X Q q => by
    obtain ⟨r, h, l, ds, a1, a2, a3, a4⟩ := bindE (R := relE) (m := mo) (k := fun x _ l h => vFld cs m x h) q
    refine ⟨r, h, l, ds, a1, a2, a3, End.mono (fun x X1 q => ?_) a4⟩
    obtain ⟨r, h, l, ds, a1, a2, a3, a4⟩ := q
    cases a3 with
    | @cons d _ _ _ b1 b2 =>
      cases b2
      dsimp only at a4
      cases b1 <;> try (exact a4.elim)
      case ref n a ha =>
        unfold vFld at a4
        dsimp only at a4
        cases e2 : h[n]? with
        | none =>
          rw [e2] at a4
          exact a4.elim
        | some cell =>
          rw [e2] at a4
          cases cell with
          | lst xs => exact a4.elim
          | dct kv => exact a4.elim
          | tbl _ => exact a4.elim
          | ins c fs =>
            dsimp only at a4
            by_cases hc : cs.contains c = true
            · rw [if_pos hc] at a4
              cases e3 : fldOf fs m with
              | none =>
                rw [e3] at a4
                exact a4.elim
              | some v =>
                rw [e3] at a4
                obtain ⟨dx, vs, q1, q2, q3, q4⟩ := a1.cell n _ a e2 ha
                obtain ⟨v', l1, l2⟩ := (fld_rv m q3).2 v e3
                exact ⟨a, _, dx, _, v', rfl, q1, hK ▸ q4.cl, hn c (by simpa using hc), l1, a4 r X1 v' .refl a1 l2⟩
            · rw [if_neg hc] at a4
              exact a4.elim
/-- o.f = e -/
theorem ySetFld {cs : List Nat} {value : Expr} {mv : E} {pos' : Pos} (hK : C.K = P.K) (ho : PE C o (tE P w mo)) (hv : PE C value (tE P w mv)) (hn : ∀ c ∈ cs, PySem.W.findIn C.K (.ref (P.ca c)) m = some none)
    (hs : swapsWith value (some (.Attribute o m pos')) pos.line C.env = pure false := by rfl) : PS C (.Assign [.Attribute o m pos'] value pos) (tS P w (sFldA cs mo m mv)) :=
  psW (L2.ps_fld ho hv hs) fun T σ X ⟨r, h, l, a1, a2, a3⟩ => by
    refine ⟨r, h, l, [], a1, a2, .nil, End.mono (fun y X1 ⟨r1, h1, d, s, b1, b2, b3, b4⟩ => ?_) (EndS.ofRes (R := relE) a1 a2 a3)⟩
    refine ⟨r1, h1, l, [], b1, b2, .nil, End.mono (fun x X2 ⟨r2, h2, dx, s2, c1, c2, c3, c4⟩ => ?_) (EndS.ofRes (R := relE) b1 b2 b4)⟩
    have b3' := RV.mono s2 b1.own b3
    have c3 : RV P.K X2 r2 dx x := c3
    cases c3 with
    | non => exact c4.elim
    | bl _ => exact c4.elim
    | int _ => exact c4.elim
    | str _ => exact c4.elim
    | tup _ _ => exact c4.elim
    | scr _ => exact c4.elim
    | gls _ => exact c4.elim
    | ftup _ _ _ _ => exact c4.elim
    | @ref n a ha =>
      dsimp only at c4
      cases e2 : h2[n]? with
      | none =>
        rw [e2] at c4
        exact c4.elim
      | some cell =>
        rw [e2] at c4
        cases cell with
        | lst xs => exact c4.elim
        | dct kv => exact c4.elim
        | tbl _ => exact c4.elim
        | ins c fs =>
          dsimp only at c4
          by_cases hc : cs.contains c = true ∧ fs.length < 900
          · rw [if_pos hc] at c4
            obtain ⟨dx, vs, q1, q2, q3, q4⟩ := c1.cell n _ a e2 ha
            obtain ⟨ws, p1, p2⟩ := put_rv (m := m) b3' q3
            have hm : a ∈ r2 := List.mem_of_getElem? ha
            have hne : dx ≠ a := fun z => by
              rw [z, q1] at q2
              cases q2
            refine ⟨a, _, dx, _, rfl, q1, hK ▸ q4.cl, hn c (by simpa using hc.1), ?_, ?_⟩
            · rw [List.length_zip]
              have : (names fs).length = fs.length := List.length_map _
              omega
            · refine c4 r2 _ σ (Stp.write hm) (c1.write ha ?_) (c2.mono (Stp.write hm) c1.own)
              exact ⟨dx, ws, by rw [upd_same, p1], by rw [upd_ne hne]; exact q2, p2.mono (Stp.write hm) c1.own, q4⟩
          · rw [if_neg hc] at c4
            exact c4.elim
/-- what the class of number c has under the name m: a property -/
def PropAt (C : Cx) (P : Pm) (k : Nat) (m : Str) (c : Nat) (fm : F) : Prop := ∃ p f, L2.PropOf C.K (P.ca c) m p f ∧ FnX false C.prog C.w C.K C.mg C.base k f (spA P fm)
theorem End.wN {r : List Addr} {X : Hp} {σ σ' : St} {w' : WX} {z : Res D} {Q : VK} (e : End relE P w r X σ (tame z) Q) : End relE P w' r X σ' z Q := by
  cases z with
  | ok d h' => exact e
  | ex c fs h' => exact e.elim
  | bad => exact e
theorem getProp {pins : List (Addr × Obj)} {σ : St} {X : Hp} {s : Shared} {Q : VK} {b : Bool} {a dx f pp : Addr} {fs : List (Str × V)} {E' : Value → Shared → Prop} {Cl : Addr} (I : Inv C pins σ X s) (ea : X a = some (.ins Cl dx fs)) (c : L2.Cls C.K Cl) (hp : L2.PropOf C.K Cl m pp f)
    (F : FnX false C.prog C.w C.K C.mg C.base k f (spA P fm)) (hr : Room (k + 1) C.A) (h : spA P fm [.ref a] X Q (fun _ _ _ => False)) : wpAny (model C.prog C.w) C.A (getAttr (.ref a) m b) (L2.EP C pins σ Q) E' s := by
  obtain ⟨mA, O, _⟩ := L2.ins_get I.hok ea
  obtain ⟨od, J, _⟩ := O.look
  obtain ⟨rest, hrec⟩ := hp.rec_
  have I1 := I.tok (s.toks + 1)
  have hc : (PySem.W.clsIn C.K Cl).isSome = true := by
    obtain ⟨cd, hc, _⟩ := PySem.W.any_some c.hd
    rw [hc]
    rfl
  obtain ⟨g1, g2⟩ := PySem.W.plainGet_of (c.get m)
  refine PySem.W.get_bind I.kIn J g1 (PySem.W.findObj_data hc hp.at_ hp.get hp.tak) g2 (wpAny_call (PySem.W.prop_get (s := { s with toks := s.toks + 1 }) I.kIn hrec ?_))
  refine codeAny_mono (F C.A.in1 C.stack { s with toks := s.toks + 1 } X [.ref a] [.ref a] Q _ hr.in1 (fun z => by cases z) I1.env0.in1 (.cons rfl .nil) h) fun z s' hq => ?_
  match z with
  | .error u =>
    obtain ⟨_, _, _, _, _, _, _, _, _, _, _, _, z⟩ := hq
    exact z.elim
  | .ok (.ret u) =>
    obtain ⟨v, H', I3, rv, q3⟩ := I1.after hq
    show wpAny _ _ (handedOut u) _ _ _
    rw [PySem.W.handedOut_of (L2.handed_of rv)]
    exact wpAny_pure ⟨v, H', I3, rv, q3⟩
  | .ok .next => exact hq.elim
  | .ok .brk => exact hq.elim
  | .ok .cont => exact hq.elim
theorem pickP_cls {d : Nat → Option F} {x : D} {h : H} {b : Nat × F} (e : pickP d x h = some b) : clsOf x h = some b.1 ∧ d b.1 = some b.2 := by
  unfold pickP at e
  obtain ⟨c, e1, e2⟩ := Option.bind_eq_some_iff.mp e
  obtain ⟨f, e3, e4⟩ := Option.map_eq_some_iff.mp e2
  subst e4
  exact ⟨e1, e3⟩
/-- o.p -/
theorem xProp {d : Nat → Option F} (hK : C.K = P.K) (B : Bd g C w k) (ho : PE C o (tE P w mo)) (hd : ∀ c f, d c = some f → PropAt C P j m c f) (hj : j + 1 ≤ k) (hb : attributeBase o m C.env (eval o C.env) = eval o C.env := by rfl) : PE C (.Attribute o m pos) (tE P w (eOP d mo)) := by
  refine ⟨fun pins s σ X Q I h => ?_⟩
  refine L2.attr_of hb (L2.thn (ho.run pins s σ X _ I (bindE (R := relE) (m := mo) (k := fun x (_ : List D) l h1 => opt (pickP d x h1) fun cf => tame (cf.2 [x] h1)) h)) fun u s1 ⟨y, X1, I1, ry, q⟩ => ?_)
  obtain ⟨r, h, l, ds, a1, a2, a3, a4⟩ := q
  cases a3 with
  | @cons x _ _ _ b1 b2 =>
    cases b2
    dsimp only at a4
    cases ec : pickP d x h with
    | none =>
      rw [ec] at a4
      exact a4.elim
    | some cf =>
      rw [ec] at a4
      obtain ⟨e0, e9⟩ := pickP_cls ec
      obtain ⟨a, dx, fs, vs, e1, e2, e3, _, _⟩ := clsOf_at a1 b1 e0
      subst e1
      obtain rfl : u = Value.ref a := ry
      obtain ⟨pp, f, hp, F⟩ := hd cf.1 cf.2 e9
      exact getProp I1 e2 (hK ▸ e3.cl) hp F (B.room.mono hj) ⟨r, h, [x], a1, .cons b1 .nil, End.wN (w := w) (σ := σ) a4⟩
/-- what a class must have that its objects are made -/
structure MkAt (C : Cx) (P : Pm) (k : Nat) (c : Nat) (fm : F) : Prop where
  ex : ∃ f, FnX false C.prog C.w C.K C.mg C.base k f (spA P fm) ∧ L2.Mk C.K (P.ca c) f
  io : InsOk P.K (P.ca c)
/-- the promise of __init__ at a new object -/
theorem mk_at {r : List Addr} {X : Hp} {h : H} {σ : St} {xs : List D} {vs : List V} {Q : VK} (io : InsOk P.K (P.ca c)) (a1 : HR P r h X) (a2 : RVs P.K X r xs vs) (a3 : End relE P w r X σ (mkObj c fm xs h) Q) (y dy : Addr) (hy : X y = none) (hdy : X dy = none) (hne : dy ≠ y) :
    spA P fm (.ref y :: vs) (upd (upd X dy (.own y)) y (.ins (P.ca c) dy [])) (fun v X2 => v = .non ∧ Q (.ref y) X2) (L2.WE w σ) := by
  have hy' : upd X dy (.own y) y = none := by rw [upd_ne (fun z => hne z.symm)]; exact hy
  have R1 : HR P r h (upd X dy (.own y)) := a1.fresh hdy
  have s1 : Stp r X r (upd X dy (.own y)) := Stp.fresh hdy
  have s2 : Stp r (upd X dy (.own y)) (r ++ [y]) (upd (upd X dy (.own y)) y (.ins (P.ca c) dy [])) := Stp.new' hy'
  have R2 : HR P (r ++ [y]) (h ++ [.ins c []]) (upd (upd X dy (.own y)) y (.ins (P.ca c) dy [])) := R1.new hy' ⟨dy, [], upd_same, by rw [upd_ne hne, upd_same], .nil, io⟩
  refine ⟨r ++ [y], h ++ [.ins c []], .ref h.length :: xs, R2, .cons (.ref a1.last) (RVs.mono s2 R1.own (RVs.mono s1 a1.own a2)), ?_⟩
  have e := End.bind (R0 := relE) (End.step (s1.trans s2) a3)
  refine endWE (End.mono (fun v X2 q => ?_) e)
  obtain ⟨r1, h1, a, t1, b1, b2, b3⟩ := q
  have b2 : RV P.K X2 r1 a v := b2
  cases b2 with
  | non =>
    refine ⟨rfl, b3 r1 X2 (.ref y) .refl b1 (.ref ?_)⟩
    obtain ⟨t, e⟩ := t1.pre
    rw [e, List.getElem?_append_left (List.getElem?_eq_some_iff.mp (a1.last (p := y))).1]
    exact a1.last
  | bl _ => exact b3.elim
  | int _ => exact b3.elim
  | str _ => exact b3.elim
  | tup _ _ => exact b3.elim
  | scr _ => exact b3.elim
  | gls _ => exact b3.elim
  | ftup _ _ _ _ => exact b3.elim
  | ref _ => exact b3.elim
theorem runMk {pins : List (Addr × Obj)} {σ : St} {X : Hp} {s : Shared} {Q : VK} {us : List Value} {vs : List V} {xs : List D} {r : List Addr} {h : H} (B : Bd g C w k) (M : MkAt C P j c fm) (hj : j + 1 ≤ k) (I : Inv C pins σ X s) (rv : L2.Vals vs us)
    (a1 : HR P r h X) (a2 : RVs P.K X r xs vs) (a3 : End relE P w r X σ (mkObj c fm xs h) Q) : wpAny (model C.prog C.w) C.A (call (.ref (P.ca c)) us) (L2.EP C pins σ Q) C.xe s := by
  obtain ⟨f, F, M1⟩ := M.ex
  have hq := mk_at M.io a1 a2 a3 (s.heap.objs.size + 1) s.heap.objs.size (I.hok.fresh (Nat.le_succ _)) (I.hok.fresh (Nat.le_refl _)) (Nat.ne_of_lt (Nat.lt_succ_self _))
  have I2 := Inv.made (C := P.ca c) I
  have hr := B.room.mono hj
  refine wpAny_call (L2.make_map (f := f) I.kIn M1.makes M1.init (beq_iff_eq.mp M1.fn) (codeAny_mono (F _ C.stack _ _ (Value.ref (s.heap.objs.size + 1) :: us) _ _ _ (hr.make (P.ca c) us []) (fun z => by cases z) (I2.env0.make (P.ca c) us []) (.cons (show L2.RelV (V.ref (s.heap.objs.size + 1)) (Value.ref (s.heap.objs.size + 1)) from rfl) rv) hq) fun z s' hq' => ?_))
  match z with
  | .error u => exact L2.passAt B.tk σ pins _ _ u s' I2 hq'
  | .ok (.ret u) =>
    obtain ⟨v, H', I3, rv3, ev, q3⟩ := I2.after hq'
    subst ev
    exact ⟨rv3, ⟨V.ref (s.heap.objs.size + 1), H', I3, rfl, q3⟩⟩
  | .ok .next => exact hq'.elim
  | .ok .brk => exact hq'.elim
  | .ok .cont => exact hq'.elim
/-- C(e, ..) -/
theorem xMk (B : Bd g C w k) (M : MkAt C P j c fm) (hj : j + 1 ≤ k) (hg : L2.Gl C x) (hm : C.mg x = some (.ref (P.ca c))) (ha : PA C (e :: es) (tA P w mas)) (hdb : (x == ("__debug__" : Str)) = false := by decide)
    (he : starEach (e :: es) C.env = (false, eval e C.env) :: starEach es C.env := by rfl) (hpl : (backTo pos (starEach es C.env)).any (·.1) = false := by rfl) : PE C (.Call (.Name x p) (e :: es) [] pos) (tE P w (eMk c fm mas)) := by
  refine ⟨fun pins s σ X Q I h => ?_⟩
  obtain ⟨f, F, M1⟩ := id M.ex
  refine wpAny_Call_Name_kw (L2.ld_glob I hg hm ?_ hdb)
  refine PySem.W.callWith_K (h₀ := C.base) I.ok.mod.kin M1.kp (L2.thn (ha.run pos pins s σ X _ I (bindA (R := relE) (m := mas) (k := fun xs _ l h => mkObj c fm xs h) h)) fun us s1 ⟨vs, X1, I1, rv, q⟩ => ⟨I1.kIn, ?_⟩) he hpl
  obtain ⟨r, h, l, xs, ds, a1, a2, a3, a5, a4⟩ := q
  exact runMk B M hj I1 rv a1 a3 a4
/-- C() -/
theorem xMk0 (B : Bd g C w k) (M : MkAt C P j c fm) (hj : j + 1 ≤ k) (hg : L2.Gl C x) (hm : C.mg x = some (.ref (P.ca c))) (hdb : (x == ("__debug__" : Str)) = false := by decide) : PE C (.Call (.Name x p) [] [] pos) (tE P w (eMk c fm aNil)) := by
  refine ⟨fun pins s σ X Q I q => ?_⟩
  obtain ⟨f, F, M1⟩ := id M.ex
  refine wpAny_Call_Name_kw (L2.ld_glob I hg hm ?_ hdb)
  obtain ⟨r, h, l, ds, a1, a2, a3, a4⟩ := q
  exact PySem.W.callWith_K0 I.kIn M1.kp (runMk (us := []) (xs := []) (vs := []) B M hj I .nil a1 .nil a4)
end
end FL

end

section
set_option Elab.async false
set_option linter.all false
set_option maxRecDepth 100000
set_option maxHeartbeats 1000000
/-! Stars, static and class methods. -/
namespace FL
open PySem
open L2 (V Hp HO VK XK St TE TT TA TS TG TGs TI Ends PE PT PW PA PS PSs PG PGs PI Cx Inv SqL SqT Rd upd upd_same upd_ne WX Room)

/-- C(*e) -/
def eMkS (c : Nat) (f : F) (e : E) : E := fun l h => (e l h).bind fun x h1 => opt (seqOf x h1) fun xs => mkObj c f xs h1
/-- v(*e), v holds the class at ca -/
def eMkV (ca c : Nat) (f : F) (v e : E) : E := fun l h => (v l h).bind fun y h1 => match y with
  | .gls a => if a = ca then eMkS c f e l h1 else .bad
  | _ => .bad
section
variable {g : Bool} {C : Cx} {P : Pm} {w : WX} {k j n c : Nat} {f : Addr} {x m : Str} {p p2 pos apos : Pos} {e o fe : Expr} {es : List Expr} {mas : A} {mo me mv : E} {fm : F}
theorem mkS_at {pins : List (Addr × Obj)} {σ : St} {X : Hp} {s : Shared} {Q : VK} {v : V} {u : Value} (hK : C.K = P.K) (B : Bd g C w k) (M : MkAt C P j c fm) (hj : j + 1 ≤ k) (I : Inv C pins σ X s) (ru : L2.RelV v u)
    (q : tK relE P w (fun ds => match ds with
      | d :: ds => fun l h => (fun x (_ : List D) (l : Loc) h1 => opt (seqOf x h1) fun xs => mkObj c fm xs h1) d ds l h
      | [] => fun _ _ => .bad) [v] σ X Q) : PySem.W.StarOf (model C.prog C.w) C.A C.xe u (fun us s2 => C.K.In s2.heap ∧ wpAny (model C.prog C.w) C.A (call (.ref (P.ca c)) us) (L2.EP C pins σ Q) C.xe s2) s := by
  obtain ⟨r, h, l, ds, a1, a2, a3, a4⟩ := q
  cases a3 with
  | @cons d _ _ _ b1 b2 =>
    cases b2
    dsimp only at a4
    cases e1 : seqOf d h with
    | none =>
      rw [e1] at a4
      exact a4.elim
    | some xs =>
      rw [e1] at a4
      obtain ⟨pp, vs, rfl, rv, hs⟩ := seq_of a1 b1 e1
      obtain rfl : u = Value.ref pp := ru
      rw [← hK] at hs
      exact StX.star_any I hs.symm fun us s2 I2 r2 => ⟨I2.kIn, runMk B M hj I2 r2 a1 rv a4⟩
theorem xMkS (hK : C.K = P.K) (B : Bd g C w k) (M : MkAt C P j c fm) (hj : j + 1 ≤ k) (hg : L2.Gl C x) (hm : C.mg x = some (.ref (P.ca c))) (he : PE C e (tE P w me)) (hdb : (x == ("__debug__" : Str)) = false := by decide)
    (hst : starEach [.Starred e p2] C.env = [(true, eval e C.env)] := by rfl) : PE C (.Call (.Name x p) [.Starred e p2] [] pos) (tE P w (eMkS c fm me)) := by
  refine ⟨fun pins s σ X Q I h => ?_⟩
  obtain ⟨f, F, M1⟩ := id M.ex
  refine wpAny_Call_Name_kw (L2.ld_glob I hg hm ?_ hdb)
  refine PySem.W.callWith_S (h₀ := C.base) I.ok.mod.kin M1.kp (L2.thn (he.run pins s σ X _ I (bindE (R := relE) (m := me) (k := fun x (_ : List D) l h1 => opt (seqOf x h1) fun xs => mkObj c fm xs h1) h)) fun u s1 ⟨v, X1, I1, ru, q⟩ => ?_) hst
  exact mkS_at hK B M hj I1 ru q
theorem xMkV (hK : C.K = P.K) (B : Bd g C w k) (M : MkAt C P j c fm) (hj : j + 1 ≤ k) (hv : PE C (.Name x p) (tE P w mv)) (he : PE C e (tE P w me))
    (hst : starEach [.Starred e p2] C.env = [(true, eval e C.env)] := by rfl) : PE C (.Call (.Name x p) [.Starred e p2] [] pos) (tE P w (eMkV (P.ca c) c fm mv me)) := by
  refine ⟨fun pins s σ X Q I h => ?_⟩
  obtain ⟨f, F, M1⟩ := id M.ex
  refine wpAny_Call_Name_kw (L2.thn (hv.run pins s σ X _ I (bindE (R := relE) (m := mv) (k := fun y (_ : List D) l h1 => match y with
    | .gls a => if a = P.ca c then eMkS c fm me l h1 else .bad
    | _ => .bad) h)) fun u s1 ⟨v, X1, I1, ru, q⟩ => ?_)
  obtain ⟨r, h, l, ds, a1, a2, a3, a4⟩ := q
  cases a3 with
  | @cons d _ _ _ b1 b2 =>
    cases b2
    cases b1 with
    | non => exact a4.elim
    | bl _ => exact a4.elim
    | int _ => exact a4.elim
    | str _ => exact a4.elim
    | tup _ _ => exact a4.elim
    | scr _ => exact a4.elim
    | ref _ => exact a4.elim
    | ftup _ _ _ _ => exact a4.elim
    | gls a =>
      dsimp only at a4
      by_cases ha : a = P.ca c
      · rw [if_pos ha] at a4
        subst ha
        obtain rfl : u = Value.ref (P.ca c) := ru
        refine PySem.W.callWith_S (h₀ := C.base) I1.ok.mod.kin M1.kp (L2.thn (he.run pins s1 σ X1 _ I1 (bindE (R := relE) (vs := []) (m := me) (k := fun x (_ : List D) l h1 => opt (seqOf x h1) fun xs => mkObj c fm xs h1) ⟨r, h, l, [], a1, a2, .nil, a4⟩)) fun u s1 ⟨v, X1, I1, ru, q⟩ => ?_) hst
        exact mkS_at hK B M hj I1 ru q
      · rw [if_neg ha] at a4
        exact a4.elim
end
/-! ### def f(a, .., *v) -/
section
variable {Pg : Program} {wd : World} {K : PySem.W.Frag} {mg : Str → Option Value} {base : Heap} {k : Nat} {f : Addr} {fd : FuncData} {P : Pm} {x qual pv : Str} {params : Arguments} {body : List Stmt} {scope : Scope} {N ps : List Str} {m : S}
theorem okDefS (nn kk : Nat) (hPK : P.K = K) (hn : N.length = nn) (hk : ps.length = kk) (F : L2.FunD K x qual params body scope [] [] f fd) (S : L2.FnScope N (ps ++ [pv]) scope)
    (hb : ∀ (kV doc pm : Value) (an : Option Addr) (cdv ct : Value) (us rest : List Value), us.length = ps.length → bindArgs (PySem.W.fnOf x qual params body scope .none kV doc pm an cdv ct) ⟨us ++ rest, []⟩ = (newTuple rest >>= fun t => pure (ps.zip us ++ [(pv, t)])))
    (hbody : ∀ (cdv : Value) (A : Around) (outer : List Env) (s : Shared) (X : Hp) (Ex : XK), Bd false (L2.cxOf (L2.CX Pg wd) Pg wd K mg base N qual scope f cdv A outer s X Ex) (fun cls dd _ X' => Ex cls dd X') k →
      PSs (L2.cxOf (L2.CX Pg wd) Pg wd K mg base N qual scope f cdv A outer s X Ex) body (tS P (fun cls dd _ X' => Ex cls dd X') m)) : FnX false Pg wd K mg base (k + 1) f (spA P (fnS nn kk m)) := by
  obtain ⟨oc, od, dV, kV, doc, pm, an, cdv, ct, osl, rfl, lk, hcd, hD, _⟩ := F.ex
  have hdV : dV = .none := by
    rcases hD with ⟨_, e⟩ | ⟨e, _⟩
    · exact e
    · exact absurd rfl e
  subst hdV
  have R := StX.fn_star (CX := L2.CX Pg wd) (P := Pg) (w := wd) (mg := mg) (base := base) (k := k) (sp := spF P (kk + 1) (fn nn (kk + 1) m)) lk hcd S StX.cxUp (hb kV doc pm an cdv ct) fun A outer s X vs Q Ex hr hsp =>
    ⟨_, hbody cdv A outer s X Ex ⟨hr, (fun z => by cases z), L2.takes_of rfl rfl rfl rfl, L2.passes_of rfl, rfl⟩, body_ok nn (kk + 1) hn hsp⟩
  intro A outer s X us vs Q Ex hr hg e0 rv ⟨r, h, ds, a1, a2, a3⟩
  refine R A outer s X us vs Q Ex hr e0 rv ?_
  unfold fnS at a3
  by_cases hc : kk ≤ ds.length ∧ ds.length - kk ≤ LIM
  · rw [if_pos hc] at a3
    have hl := a2.length
    refine ⟨vs.take kk, vs.drop kk, (List.take_append_drop _ _).symm, by rw [List.length_take, hk]; omega, by rw [List.length_drop, ← hl]; exact lim hc.2, fun p hp => ⟨by rw [List.length_append, List.length_take]; simp; omega, r, h, ds.take kk ++ [.tup (ds.drop kk)], a1.fresh hp, ?_, End.step (Stp.fresh hp) a3⟩⟩
    refine RVs.append (RVs.mono (Stp.fresh hp) a1.own (RVs.take kk a2)) (.cons ?_ .nil)
    exact RV.newT a1 hp (RVs.drop kk a2)
  · rw [if_neg hc] at a3
    exact a3.elim
end
/-! ### C.m(..) of a static method, of a class method -/
def eSt (f : F) (a : A) : E := eCall f a
/-- ca: where the class stands -/
def eCm (ca : Nat) (f : F) (a : A) : E := fun l h => (a l h).bind fun xs h1 => f (.gls ca :: xs) h1
section
variable {g : Bool} {C : Cx} {P : Pm} {w : WX} {k j n c : Nat} {f : Addr} {x m : Str} {p p2 pos apos : Pos} {e o fe : Expr} {es : List Expr} {mas : A} {mo me mv : E} {fm : F}
/-- the class at ca has the name as a static method -/
structure StAt (C : Cx) (P : Pm) (k : Nat) (ca : Addr) (m : Str) (fm : F) : Prop where
  ex : ∃ (mc : Value) (p f : Addr) (rest : List Value), FnX false C.prog C.w C.K C.mg C.base k f (spA P fm) ∧ ClX.CRead C.K ca mc ∧ PySem.W.findCls C.K (.ref ca) mc m = some (.get (.builtin "staticmethod.__get__") (.ref p) .none (.ref ca)) ∧
    PySem.W.recIn C.K p "staticmethod" = some (.ref f :: rest) ∧ PySem.W.keepIn C.K (.ref f) = true
theorem xStat {ca : Addr} {pl : Sem Bool} (B : Bd g C w k) (S : StAt C P j ca m fm) (hj : j ≤ k) (hg : L2.Gl C x) (hm : C.mg x = some (.ref ca)) (ha : PA C (e :: es) (tA P w mas)) (hdb : (x == ("__debug__" : Str)) = false := by decide)
    (hst : starEach (e :: es) C.env = (false, eval e C.env) :: starEach es C.env := by rfl) (hpl : (backTo pos (starEach es C.env)).any (·.1) = false := by rfl)
    (ht : eval (.Call (.Attribute (.Name x p) m apos) (e :: es) [] pos) C.env = (do
      let u ← eval (.Name x p) C.env
      standAt apos.atName
      let (f, first) ← holding [u] (getMethod u m pl)
      callWith pos f first (backTo pos (starEach (e :: es) C.env)) (backToKw pos (keywordEach [] C.env))) := by rfl) : PE C (.Call (.Attribute (.Name x p) m apos) (e :: es) [] pos) (tE P w (eSt fm mas)) := by
  refine ⟨fun pins s σ X Q I h => ?_⟩
  obtain ⟨mc, pp, f, rest, F, r, hat, hrec, hkp⟩ := S.ex
  refine PySem.W.methodCall_KW (pl := pl) (L2.ld_glob I hg hm ?_ hdb) ht
  refine PySem.W.method_cls I.kIn r.ga (PySem.W.cls_bind I.kIn r.rd hat (wpAny_call (PySem.W.sm_get (s := { s with toks := s.toks + 1 }) I.kIn hrec (PySem.W.handed_on rfl ?_))))
  have I1 := I.tok (s.toks + 1)
  refine PySem.W.callWith_K (first := []) (h₀ := C.base) I1.ok.mod.kin hkp (L2.thn (ha.run pos pins _ σ X _ I1 (bindA (R := relE) (m := mas) (k := fun xs _ l h => fm xs h) h)) fun us s2 ⟨vs, X2, I2, rv, q⟩ => ⟨I2.kIn, ?_⟩) hst hpl
  obtain ⟨r, h, l, xs, ds, a1, a2, a3, a5, a4⟩ := q
  exact run_A B.lo F hj I2 rv ⟨r, h, xs, a1, a3, endWE a4⟩
/-- .. as a class method -/
structure CmAt (C : Cx) (P : Pm) (k : Nat) (ca : Addr) (m : Str) (fm : F) : Prop where
  ex : ∃ (mc : Value) (p f : Addr), FnX false C.prog C.w C.K C.mg C.base k f (spA P fm) ∧ ClX.CRead C.K ca mc ∧ ClX.CMet C.K ca mc m p f
theorem xCm {ca : Addr} {pl : Sem Bool} (B : Bd g C w k) (S : CmAt C P j ca m fm) (hj : j ≤ k) (hg : L2.Gl C x) (hm : C.mg x = some (.ref ca)) (ha : PA C (e :: es) (tA P w mas)) (hdb : (x == ("__debug__" : Str)) = false := by decide)
    (hst : starEach (e :: es) C.env = (false, eval e C.env) :: starEach es C.env := by rfl) (hpl : (backTo pos (starEach es C.env)).any (·.1) = false := by rfl)
    (ht : eval (.Call (.Attribute (.Name x p) m apos) (e :: es) [] pos) C.env = (do
      let u ← eval (.Name x p) C.env
      standAt apos.atName
      let (f, first) ← holding [u] (getMethod u m pl)
      callWith pos f first (backTo pos (starEach (e :: es) C.env)) (backToKw pos (keywordEach [] C.env))) := by rfl) : PE C (.Call (.Attribute (.Name x p) m apos) (e :: es) [] pos) (tE P w (eCm ca fm mas)) := by
  refine ⟨fun pins s σ X Q I h => ?_⟩
  obtain ⟨mc, pp, f, F, r, cm⟩ := S.ex
  refine PySem.W.methodCall_KW (pl := pl) (L2.ld_glob I hg hm ?_ hdb) ht
  refine ClX.getmethcm_ok I r cm fun s2 I2 => ?_
  refine ClX.callwith_cm I2 (ClX.base_none I (Nat.le_refl _)) cm.fi (L2.thn (ha.run pos _ s2 σ X _ I2 (bindA (R := relE) (m := mas) (k := fun xs _ l h => fm (.gls ca :: xs) h) h)) fun us s3 ⟨vs, X2, I3, rv, q⟩ => ⟨⟨ClX.pin_at I3, I3.kIn⟩, ?_⟩) hst hpl
  obtain ⟨r, h, l, xs, ds, a1, a2, a3, a5, a4⟩ := q
  refine L2.thn (wpAny_call (PySem.W.method_call (ClX.pin_at I3) (code_A (us := .ref ca :: us) (vs := .ref ca :: vs) B.lo F hj I3 (.cons rfl rv) ⟨r, h, .gls ca :: xs, a1, .cons (.gls ca) a3, endWE a4⟩))) fun _ _ y => ClX.unpinE y
end
end FL

end

section
set_option Elab.async false
set_option linter.all false
set_option maxRecDepth 100000
set_option maxHeartbeats 1000000
/-! len, [], in, +, ==, repr by an own def. -/
namespace FL
open PySem
open L2 (V Hp HO VK XK St TE TT TA TS TG TGs TI Ends PE PT PW PA PS PSs PG PGs PI Cx Inv SqL SqT Rd upd upd_same upd_ne WX Room)

/-- the own def at the object, what is taken of its answer (it raises nothing) -/
def spc (d : Nat → Option F) (back : D → H → Res D) (x : D) (xs : List D) (h : H) : Res D := opt (pickP d x h) fun cf => tame ((cf.2 (x :: xs) h).bind back)
def bkLen : D → H → Res D := fun v h => match v with
  | .int n => if 0 ≤ n ∧ n < 2 ^ 63 then .ok (.int n) h else .bad
  | _ => .bad
def bkStr : D → H → Res D := fun v h => match v with
  | .str s => .ok (.str s) h
  | _ => .bad
def bkBl (neg : Bool) : D → H → Res D := fun v h => match v with
  | .bl b => .ok (.bl (if neg then !b else b)) h
  | _ => .bad
def bkAny : D → H → Res D := fun v h => .ok v h
def fLenO (d : Nat → Option F) : F := fun ds h => match ds with
  | [x] => (match clsOf x h with
    | some _ => spc d bkLen x [] h
    | none => fLen [x] h)
  | _ => .bad
def vInO (neg : Bool) (d : Nat → Option F) : D → D → H → Res D := fun a b h => match clsOf b h with
  | some _ => spc d (bkBl neg) b [a] h
  | none => inD neg a b h
def vIxO (d : Nat → Option F) : D → D → H → Res D := fun a b h => match clsOf a h with
  | some _ => spc d bkAny a [b] h
  | none => vIx a b h
/-- both of one class -/
def vAddO (d : Nat → Option F) : D → D → H → Res D := fun a b h => match clsOf a h with
  | some c => if clsOf b h = some c then spc d bkAny a [b] h else .bad
  | none => vAdd a b h
def vEqO (d : Nat → Option F) : D → D → H → Res D := fun a b h => match clsOf a h with
  | some c => if clsOf b h = some c then spc d bkAny a [b] h else .bad
  | none => vEq a b h
theorem tame_no {α : Type} (z : Res α) : ∀ c fs h', tame z ≠ .ex c fs h' := fun c fs h' e => by cases z <;> cases e
theorem spc_no {d : Nat → Option F} {back : D → H → Res D} {x : D} {xs : List D} {h : H} : ∀ c fs h', spc d back x xs h ≠ .ex c fs h' := fun c fs h' e => by
  unfold spc opt at e
  split at e
  · exact tame_no _ _ _ _ e
  · cases e
instance (d : Nat → Option F) : CalmN (fLenO d) := ⟨fun a h c fs h' e => by
  unfold fLenO at e
  split at e
  · split at e
    · exact spc_no _ _ _ e
    · exact CalmN.no _ _ _ _ _ e
  · cases e⟩
instance (neg : Bool) (d : Nat → Option F) : Calm2 (vInO neg d) := ⟨fun a b h c fs h' e => by
  unfold vInO at e
  split at e
  · exact spc_no _ _ _ e
  · exact inD_calm _ _ _ _ _ _ _ e⟩
instance (d : Nat → Option F) : Calm2 (vIxO d) := ⟨fun a b h c fs h' e => by
  unfold vIxO at e
  split at e
  · exact spc_no _ _ _ e
  · exact Calm2.no _ _ _ _ _ _ e⟩
instance (d : Nat → Option F) : Calm2 (vAddO d) := ⟨fun a b h c fs h' e => by
  unfold vAddO at e
  split at e
  · split at e
    · exact spc_no _ _ _ e
    · cases e
  · exact Calm2.no _ _ _ _ _ _ e⟩
instance (d : Nat → Option F) : Calm2 (vEqO d) := ⟨fun a b h c fs h' e => by
  unfold vEqO at e
  split at e
  · split at e
    · exact spc_no _ _ _ e
    · cases e
  · exact Calm2.no _ _ _ _ _ _ e⟩
section
variable {g : Bool} {C : Cx} {P : Pm} {w : WX} {k j n c : Nat} {f : Addr} {x m : Str} {fm : F} {d : Nat → Option F} {r : List Addr} {X : Hp} {h : H} {pins : List (Addr × Obj)} {σ : St} {s : Shared}
/-- a call at which nothing is raised, wherever it stands below the body -/
theorem runT {A' : Around} {E : Value → Shared → Prop} {Q : VK} {us : List Value} {vs : List V} (e0 : L2.Env0 C.prog C.w C.K C.mg C.base A' C.stack s X) (hr : Room j A') (F : FnX false C.prog C.w C.K C.mg C.base j f (spA P fm)) (I : Inv C pins σ X s) (rv : L2.Vals vs us)
    (h : spA P fm vs X Q (fun _ _ _ => False)) : wpAny (model C.prog C.w) A' (call (.ref f) us) (L2.EP C pins σ Q) E s := by
  refine wpAny_call (codeAny_mono (F A' C.stack s X us vs Q _ hr (fun z => by cases z) e0 rv h) fun z s' hq => ?_)
  match z with
  | .error u =>
    obtain ⟨_, _, _, _, _, _, _, _, _, _, _, _, z⟩ := hq
    exact z.elim
  | .ok (.ret u) => exact I.after hq
  | .ok .next => exact hq.elim
  | .ok .brk => exact hq.elim
  | .ok .cont => exact hq.elim
/-- the defs under a special name -/
def Spec (C : Cx) (P : Pm) (k : Nat) (m : Str) (d : Nat → Option F) : Prop := ∀ c f, d c = some f → DefAt C P k m c f
def Back (P : Pm) (back : D → H → Res D) (Q : VK) : VK := fun v X1 => ∃ r1 h1 z, HR P r1 h1 X1 ∧ RV P.K X1 r1 z v ∧ End relE P wN r1 X1 [] (back z h1) Q
theorem spcAt {back : D → H → Res D} {x : D} {y : V} {xs : List D} {vs : List V} {Q : VK} {k : Nat} {C : Cx} {m : Str} (hd : Spec C P k m d) (hr : HR P r h X) (rx : RV P.K X r x y) (rs : RVs P.K X r xs vs) (e : End relE P wN r X [] (spc d back x xs h) Q) :
    ∃ c a dx fs fm, clsOf x h = some c ∧ y = .ref a ∧ X a = some (.ins (P.ca c) dx fs) ∧ InsOk P.K (P.ca c) ∧ DefAt C P k m c fm ∧ spA P fm (.ref a :: vs) X (Back P back Q) (fun _ _ _ => False) := by
  unfold spc at e
  cases ec : pickP d x h with
  | none =>
    rw [ec] at e
    exact e.elim
  | some cf =>
    rw [ec] at e
    obtain ⟨e0, e9⟩ := pickP_cls ec
    obtain ⟨a, dx, fs, ws, e1, e2, e3, _, _⟩ := clsOf_at hr rx e0
    subst e1
    refine ⟨cf.1, a, dx, _, cf.2, e0, rfl, e2, e3, hd _ _ e9, r, h, x :: xs, hr, .cons rx rs, ?_⟩
    have z := End.bind (R0 := relE) (End.wN (w := wN) (σ := []) (w' := wN) (σ' := []) e)
    exact End.mono (fun v X1 ⟨r1, h1, z, _, b1, b2, b3⟩ => ⟨r1, h1, z, b1, b2, b3⟩) z
theorem rvRef (a : Addr) : L2.RelV (.ref a) (.ref a) := rfl
theorem cLenO (hK : C.K = P.K) (hr : Room (j + 1) C.A) (hd : Spec C P j "__len__" d) : L2.CallR C (.builtin "len") (rN P (fLenO d)) := fun pins s σ X xs us Q I rv ⟨r, h, ds, a1, rs, e⟩ => by
  unfold fLenO at e
  split at e
  · obtain ⟨v, rfl, b1⟩ := RVs.one rs
    split at e
    · obtain ⟨c, a, dx, fs, fm, e0, rfl, e2, e3, ⟨f, F, h1, h2, h4, h5⟩, q⟩ := spcAt hd a1 b1 .nil e
      obtain ⟨mA, O, _⟩ := L2.ins_get I.hok e2
      obtain ⟨od, J, _⟩ := O.look
      obtain ⟨m, hF⟩ := I.fr
      cases rv with
      | cons u1 u2 =>
        cases u2
        obtain rfl : _ = Value.ref a := u1
        refine PySem.W.len_K hF I.ok.mod.kin J h1 h2 (wpAny_mono (runT I.env0.in1 hr.in1 F I (.cons (rvRef a) .nil) q) (fun u s' z => ?_) fun _ _ z => z)
        obtain ⟨v, X1, I1, ru, r1, h1, z, b1, b2, b3⟩ := z
        unfold bkLen at b3
        split at b3
        · split at b3
          · rename_i n hn
            cases b2
            have q := b3 r1 X1 (.int n) .refl b1 (.int n)
            obtain ⟨t, rfl⟩ := ru
            exact ⟨hn, .int n, X1, I1.tok _, ⟨_, rfl⟩, q⟩
          · exact b3.elim
        · exact b3.elim
    · exact cLen hK pins s σ X _ us Q I rv ⟨r, h, _, a1, rs, e⟩
  · exact e.elim
/-- of an object's class: what the rules over it ask -/
theorem insAt {a dx Cl : Addr} {fs : List (Str × V)} (I : Inv C pins σ X s) (e : X a = some (.ins Cl dx fs)) : ∃ ox od, PySem.W.InstAt s.heap a ox Cl od := by
  obtain ⟨mA, O, _⟩ := L2.ins_get I.hok e
  obtain ⟨od, J, _⟩ := O.look
  exact ⟨_, _, J⟩
theorem oInO (hK : C.K = P.K) (hr : Room j C.A) (hu : C.A.units + 65 < cLine) (hd : Spec C P j "__contains__" d) : L2.OpR C (compareOp .In) (r2 P (vInO false d)) := fun pins s σ X x y v u Q I rx ry ⟨r, h, a, b, a1, ra, rb, e⟩ => by
  unfold vInO at e
  split at e
  · obtain ⟨c, p, dx, fs, fm, e0, rfl, e2, e3, ⟨f, F, h1, h2, h4, h5⟩, q⟩ := spcAt hd a1 rb (.cons ra .nil) e
    obtain ⟨ox, od, J⟩ := insAt I e2
    obtain ⟨m, hF⟩ := I.fr
    obtain rfl : u = Value.ref p := ry
    refine PySem.W.in_K hF I.ok.mod.kin J h1 h2 (wpAny_mono (runT I.env0 hr F I (.cons (rvRef p) (.cons rx .nil)) q) (fun u s' z => ?_) fun _ _ z => z)
    obtain ⟨v, X1, I1, ru, r1, h1, z, b1, b2, b3⟩ := z
    unfold bkBl at b3
    split at b3
    · rename_i n
      cases b2
      have q := b3 r1 X1 (.bl n) .refl b1 (.bl n)
      cases ru
      exact wpAny_truthy_bool ⟨.bl n, X1, I1, rfl, q⟩
    · exact b3.elim
  · exact oIn hK hu pins s σ X x y v u Q I rx ry ⟨r, h, a, b, a1, ra, rb, e⟩
theorem oNotInO (hK : C.K = P.K) (hr : Room j C.A) (hu : C.A.units + 65 < cLine) (hd : Spec C P j "__contains__" d) : L2.OpR C (compareOp .NotIn) (r2 P (vInO true d)) := fun pins s σ X x y v u Q I rx ry ⟨r, h, a, b, a1, ra, rb, e⟩ => by
  unfold vInO at e
  split at e
  · obtain ⟨c, p, dx, fs, fm, e0, rfl, e2, e3, ⟨f, F, h1, h2, h4, h5⟩, q⟩ := spcAt hd a1 rb (.cons ra .nil) e
    obtain ⟨ox, od, J⟩ := insAt I e2
    obtain ⟨m, hF⟩ := I.fr
    obtain rfl : u = Value.ref p := ry
    refine PySem.W.notIn_K hF I.ok.mod.kin J h1 h2 (wpAny_mono (runT I.env0 hr F I (.cons (rvRef p) (.cons rx .nil)) q) (fun u s' z => ?_) fun _ _ z => z)
    obtain ⟨v, X1, I1, ru, r1, h1, z, b1, b2, b3⟩ := z
    unfold bkBl at b3
    split at b3
    · rename_i n
      cases b2
      have q := b3 r1 X1 (.bl (!n)) .refl b1 (.bl (!n))
      cases ru
      exact wpAny_truthy_bool ⟨.bl (!n), X1, I1, rfl, q⟩
    · exact b3.elim
  · exact oNotIn hK hu pins s σ X x y v u Q I rx ry ⟨r, h, a, b, a1, ra, rb, e⟩
/-- what an own operator may give back -/
theorem backOp {Q : VK} {u : Value} {s' : Shared} (z : L2.EP C pins σ (Back P bkAny Q) u s') : PySem.W.CmpBack (L2.EP C pins σ Q) u s' := by
  obtain ⟨v, X1, I1, ru, r1, h1, z, b1, b2, b3⟩ := z
  have q := b3 r1 X1 v .refl b1 b2
  have q : L2.EP C pins σ Q u s' := ⟨v, X1, I1, ru, q⟩
  cases b2 with
  | non => cases ru; exact q
  | bl _ => cases ru; exact q
  | int _ => obtain ⟨t, rfl⟩ := ru; exact q
  | str _ => obtain ⟨t, rfl⟩ := ru; exact q
  | tup _ _ => cases ru; exact q
  | scr _ => cases ru; exact q
  | ref _ => cases ru; exact q
  | gls _ => cases ru; exact q
  | ftup _ _ _ _ => cases ru; exact q
/-- .. the classes that have it stand first in their own order -/
theorem oAddO (hK : C.K = P.K) (hr : Room j C.A) (hd : Spec C P j "__add__" d) (hs : ∀ c f, d c = some f → PySem.W.selfFirst C.K (P.ca c) = true) : L2.OpR C (binaryOp .Add) (r2 P (vAddO d)) := fun pins s σ X x y v u Q I rx ry ⟨r, h, a, b, a1, ra, rb, e⟩ => by
  unfold vAddO at e
  split at e
  · rename_i c0 hc0
    split at e
    · rename_i hb
      have e' := e
      unfold spc at e'
      cases ec : pickP d a h with
      | none =>
        rw [ec] at e'
        exact e'.elim
      | some cf =>
      obtain ⟨g1, g2⟩ := pickP_cls ec
      obtain ⟨c, p, dx, fs, fm, e0, rfl, e2, e3, ⟨f, F, h1, h2, h4, h5⟩, q⟩ := spcAt hd a1 ra (.cons rb .nil) e
      rw [e0] at hc0 g1
      cases hc0
      cases g1
      obtain ⟨p', dx', fs', ws, rfl, e2', e3', _, _⟩ := clsOf_at a1 rb hb
      obtain ⟨ox, od, J⟩ := insAt I e2
      obtain ⟨ox', od', J'⟩ := insAt I e2'
      obtain ⟨m, hF⟩ := I.fr
      obtain rfl : v = Value.ref p := rx
      obtain rfl : u = Value.ref p' := ry
      exact PySem.W.binop_K (op := .Add) hF I.ok.mod.kin J J'.type (hs _ _ g2) h1 h2 (wpAny_mono (runT I.env0 hr F I (.cons (rvRef p) (.cons (rvRef p') .nil)) q) (fun u s' z => backOp z) fun _ _ z => z)
    · exact e.elim
  · exact oAdd hK pins s σ X x y v u Q I rx ry ⟨r, h, a, b, a1, ra, rb, e⟩
theorem oEqO (hK : C.K = P.K) (hr : Room j C.A) (hu : C.A.units + 64 < cLine) (hd : Spec C P j "__eq__" d) : L2.OpR C (compareOp .Eq) (r2 P (vEqO d)) := fun pins s σ X x y v u Q I rx ry ⟨r, h, a, b, a1, ra, rb, e⟩ => by
  unfold vEqO at e
  split at e
  · rename_i c0 hc0
    split at e
    · rename_i hb
      obtain ⟨c, p, dx, fs, fm, e0, rfl, e2, e3, ⟨f, F, h1, h2, h4, h5⟩, q⟩ := spcAt hd a1 ra (.cons rb .nil) e
      rw [e0] at hc0
      cases hc0
      obtain ⟨p', dx', fs', ws, rfl, e2', e3', _, _⟩ := clsOf_at a1 rb hb
      obtain ⟨ox, od, J⟩ := insAt I e2
      obtain ⟨ox', od', J'⟩ := insAt I e2'
      obtain ⟨m, hF⟩ := I.fr
      obtain rfl : v = Value.ref p := rx
      obtain rfl : u = Value.ref p' := ry
      exact PySem.W.cmp_K (op := .Eq) (tb := .ref (P.ca c0)) (Nat.lt_of_le_of_lt (Nat.le_add_right _ _) hu) hF I.ok.mod.kin J J'.type (by simp [PySem.W.notFirst]) h1 h2 (wpAny_mono (runT I.env0 hr F I (.cons (rvRef p) (.cons (rvRef p') .nil)) q) (fun u s' z => backOp z) fun _ _ z => z)
    · exact e.elim
  · exact oEq hK hu pins s σ X x y v u Q I rx ry ⟨r, h, a, b, a1, ra, rb, e⟩
theorem xIxO {a b : Expr} {ma mb : E} {pos : Pos} (hK : C.K = P.K) (hr : Room (j + 1) C.A) (hd : Spec C P j "__getitem__" d) (ha : PE C a (tE P w ma)) (hb : PE C b (tE P w mb)) (hs0 : L2.PlainIx b := by exact fun _ _ => rfl)
    (hs1 : ∀ o i, subscripted b true o i = runValue (.builtin "lifetime.subscript" ⟨[o, i], []⟩) := by exact fun _ _ => rfl) : PE C (.Subscript a b pos) (tE P w (eBin (vIxO d) ma mb)) := by
  refine ⟨fun pins s σ X Q I q => ?_⟩
  refine PyProof.Rows.Subscript_ (L2.binT ha hb I (wBin q) fun v u s x y X I rx ry q => ?_)
  obtain ⟨r, h, a', b', a1, ra, rb, e⟩ := q
  unfold vIxO at e
  split at e
  · obtain ⟨c, p, dx, fs, fm, e0, rfl, e2, e3, ⟨f, F, h1, h2, h4, h5⟩, q⟩ := spcAt hd a1 ra (.cons rb .nil) e
    obtain ⟨ox, od, J⟩ := insAt I e2
    obtain ⟨m, hF⟩ := I.fr
    obtain rfl : v = Value.ref p := rx
    refine PySem.W.sub_K hF I.ok.mod.kin J h1 h4 h2 (wpAny_mono (runT I.env0.in1 hr.in1 F I (.cons (rvRef p) (.cons ry .nil)) q) (fun u s' z => ?_) fun _ _ z => z) (hs1 _ _)
    obtain ⟨v, X1, I1, ru, r1, h1, z, b1, b2, b3⟩ := z
    exact ⟨v, X1, I1, ru, b3 r1 X1 v .refl b1 b2⟩
  · exact oIx hK a b pins s σ X x y v u Q I rx ry ⟨r, h, a', b', a1, ra, rb, e⟩ (hs0 _ _)
end
end FL

end

section
set_option Elab.async false
set_option linter.all false
set_option maxRecDepth 100000
set_option maxHeartbeats 1000000
/-! repr of data and of own objects. -/
namespace FL
open PySem
open L2 (V Hp HO VK XK St TE TT TA TS TG TGs TI Ends PE PT PW PA PS PSs PG PGs PI Cx Inv SqL SqT Rd upd upd_same upd_ne WX Room)

def fReprO (d : Nat → Option F) : F := fun ds h => match ds with
  | [x] => (match clsOf x h with
    | some _ => spc d bkStr x [] h
    | none => fRepr [x] h)
  | _ => .bad
instance (d : Nat → Option F) : CalmN (fReprO d) := ⟨fun a h c fs h' e => by
  unfold fReprO at e
  split at e
  · split at e
    · exact spc_no _ _ _ e
    · exact CalmN.no _ _ _ _ _ e
  · cases e⟩
section
variable {g : Bool} {C : Cx} {P : Pm} {w : WX} {k j n c : Nat} {f : Addr} {x m : Str} {fm : F} {d : Nat → Option F} {r : List Addr} {X : Hp} {h : H} {pins : List (Addr × Obj)} {σ : St} {s : Shared}
mutual
theorem dp_nodict {K : PySem.W.Frag} {X : Hp} : ∀ (p : PyData) (v : V), L2.Dp K X v p → p.hasDict = false
  | .none, _, _ => by simp only [PyData.hasDict]
  | .bool _, _, _ => by simp only [PyData.hasDict]
  | .int _, _, _ => by simp only [PyData.hasDict]
  | .str _, _, _ => by simp only [PyData.hasDict]
  | .list ps, _, q => by
    cases q with
    | lst _ q => simp only [PyData.hasDict]; exact dp_nodicts ps _ q
  | .tuple ps, _, q => by
    cases q with
    | tup _ q => simp only [PyData.hasDict]; exact dp_nodicts ps _ q
  | .dict _, _, q => nomatch q
theorem dp_nodicts {K : PySem.W.Frag} {X : Hp} : ∀ (ps : List PyData) (vs : List V), L2.DpAll K X vs ps → PyData.hasDictAll ps = false
  | [], _, _ => by simp only [PyData.hasDictAll]
  | p :: ps, _, .cons h1 h2 => by simp only [PyData.hasDictAll, dp_nodict p _ h1, dp_nodicts ps _ h2, Bool.or_self]
end
theorem cRepr (hK : C.K = P.K) (hg : C.A.guards = some []) (hr : Room j C.A) : L2.CallR C (.builtin "repr") (rN P fRepr) := fun pins s σ X xs us Q I rv ⟨r, h, ds, a1, rs, e⟩ => by
  have hu : C.A.units + (64 + 1) < cLine := by have := hr.un; omega
  have main : ∀ (d : D) (v : V) (p : PyData), ds = [d] → xs = [v] → RV P.K X r d v → toP h d = some p → p.showable = true ∧ p.depth ≤ 64 ∧ p.shown.length ≤ LIM → Q (.str p.shown) X → wpAny (model C.prog C.w) C.A (call (.builtin "repr") us) (L2.EP C pins σ Q) C.xe s := fun d v p _ ex rd ep ⟨hs, hd, hl⟩ q => by
    subst ex
    cases rv with
    | cons u1 u2 =>
      cases u2
      have dp := toP_dp a1 rd ep
      have dp' := dp
      rw [← hK] at dp'
      obtain ⟨as, R⟩ := L2.Dp.reads I p v _ dp' u1
      have hl' := lim hl
      cases p with
      | none =>
        cases dp
        cases u1
        exact PySem.P.repr_of_none ⟨.str _, X, I.tok _, ⟨_, rfl⟩, by simpa only [PyData.shown] using q⟩
      | bool b =>
        cases dp
        cases u1
        exact PySem.P.repr_of_bool ⟨.str _, X, I.tok _, ⟨_, rfl⟩, by simpa only [PyData.shown] using q⟩
      | int i =>
        cases dp
        obtain ⟨t, rfl⟩ := u1
        exact PySem.P.repr_of_int (by simpa [PyData.showable] using hs) ⟨.str _, X, I.tok _, ⟨_, rfl⟩, by simpa only [PyData.shown] using q⟩
      | str z =>
        cases dp
        obtain ⟨t, rfl⟩ := u1
        exact PySem.P.repr_of_str ⟨.str _, X, I.tok _, ⟨_, rfl⟩, by simpa only [PyData.shown] using q⟩ (by simpa only [PyData.shown] using hl')
      | list ps =>
        cases dp with
        | lst _ _ =>
          cases u1
          exact repr_of_reads' (h₀ := s.heap) R hs (fun z => by rw [dp_nodict _ _ dp'] at z; cases z) hg (by omega) (fun _ _ z => z) (fun h' u tk kp => ⟨.str _, X, I.kept (t' := tk) kp, ⟨u, rfl⟩, q⟩) hl'
      | tuple ps =>
        cases dp with
        | tup _ _ =>
          cases u1
          exact repr_of_reads' (h₀ := s.heap) R hs (fun z => by rw [dp_nodict _ _ dp'] at z; cases z) hg (by omega) (fun _ _ z => z) (fun h' u tk kp => ⟨.str _, X, I.kept (t' := tk) kp, ⟨u, rfl⟩, q⟩) hl'
      | dict _ => cases dp
  unfold fRepr at e
  split at e
  · rename_i i
    split at e
    · rename_i hs
      obtain ⟨v, rfl, b1⟩ := RVs.one rs
      cases b1
      refine SkE.call_repr_int pins s σ X _ us Q I rv ⟨i, rfl, small_log hs, ?_⟩
      exact e r X _ .refl a1 (.str _)
    · exact e.elim
  · rename_i d _
    obtain ⟨v, rfl, b1⟩ := RVs.one rs
    split at e
    · rename_i p ep
      split at e
      · rename_i hc
        exact main d v p rfl rfl b1 ep hc (e r X _ .refl a1 (.str _))
      · exact e.elim
    · exact e.elim
  · exact e.elim
theorem cReprO (hK : C.K = P.K) (hg : C.A.guards = some []) (hr : Room (j + 1) C.A) (hd : Spec C P j "__repr__" d) : L2.CallR C (.builtin "repr") (rN P (fReprO d)) := fun pins s σ X xs us Q I rv ⟨r, h, ds, a1, rs, e⟩ => by
  unfold fReprO at e
  split at e
  · obtain ⟨v, rfl, b1⟩ := RVs.one rs
    split at e
    · obtain ⟨c, a, dx, fs, fm, e0, rfl, e2, e3, ⟨f, F, h1, h2, h4, h5⟩, q⟩ := spcAt hd a1 b1 .nil e
      obtain ⟨ox, od, J⟩ := insAt I e2
      obtain ⟨m, hF⟩ := I.fr
      cases rv with
      | cons u1 u2 =>
        cases u2
        obtain rfl : _ = Value.ref a := u1
        refine PySem.W.repr_K (by have := hr.un; show C.A.units + 1 < cLine; omega) hF I.ok.mod.kin J h1 h2 (wpAny_mono (runT I.env0.in1 hr.in1 F I (.cons (rvRef a) .nil) q) (fun u s' z => ?_) fun _ _ z => z)
        obtain ⟨v, X1, I1, ru, r1, h1, z, b1, b2, b3⟩ := z
        unfold bkStr at b3
        split at b3
        · cases b2
          have q := b3 r1 X1 _ .refl b1 (.str _)
          obtain ⟨t, rfl⟩ := ru
          exact ⟨.str _, X1, I1, ⟨_, rfl⟩, q⟩
        · exact b3.elim
    · exact cRepr hK hg hr pins s σ X _ us Q I rv ⟨r, h, _, a1, rs, e⟩
  · exact e.elim
/-- a op b op' c -/
theorem xChain {a b e : Expr} {ma mb mc : E} {pos : Pos} {op op' : CmpOp} {f f' : D → D → H → Res D} [cf : Calm2 f] [cg : Calm2 f'] (ho : L2.OpR C (compareOp op) (r2 P f)) (ho' : L2.OpR C (compareOp op') (r2 P f')) (ha : PE C a (tE P w ma)) (hb : PE C b (tE P w mb)) (hc : PE C e (tE P w mc))
    (hm : lastMarks [op, op'] [b, e] = false := by with_unfolding_all rfl) : PE C (.Compare a [op, op'] [b, e] pos) (tE P w (eChain f f' ma mb mc)) := peW (L2.pe_chain ho ho' ha hb hc hm) fun σ X Q q => by
  obtain ⟨r, h, l, ds, a1, a2, a3, a4⟩ := bindE (R := relE) (m := ma) (k := fun x _ l h1 => (mb l h1).bind fun y h2 => (f x y h2).bind fun r h3 => match r with
    | .bl true => (mc l h3).bind fun z h4 => f' y z h4
    | .bl false => .ok (.bl false) h3
    | _ => .bad) q
  refine ⟨r, h, l, ds, a1, a2, a3, End.mono (fun x X1 q => ?_) a4⟩
  obtain ⟨r, h, l, ds, a1, a2, a3, a4⟩ := q
  cases a3 with
  | @cons dx _ _ _ b1 b2 =>
    cases b2
    refine ⟨r, h, l, [], a1, a2, .nil, End.mono (fun y X2 ⟨r1, h1, dy, s, c1, c2, c3⟩ => ?_) (End.bind (R0 := relE) a4)⟩
    have c2 : RV P.K X2 r1 dy y := c2
    refine ⟨r1, h1, dx, dy, c1, b1.mono s a1.own, c2, End.calm (cf.no _ _ _) (End.mono (fun z X3 ⟨r3, h3, dz, s3, d1, d2, d3⟩ => ?_) (End.bind (R0 := relE) c3))⟩
    have d2 : RV P.K X3 r3 dz z := d2
    cases d2 with
    | bl k =>
      refine ⟨k, rfl, ?_⟩
      cases k with
      | true =>
        rw [if_pos rfl]
        have a2' := (a2.mono s a1.own).mono s3 c1.own
        refine ⟨r3, h3, l, [], d1, a2', .nil, End.mono (fun u X4 ⟨r4, h4, du, s4, e1, e2, e3⟩ => ?_) (End.bind (R0 := relE) d3)⟩
        exact ⟨r4, h4, dy, du, e1, (c2.mono s3 c1.own).mono s4 d1.own, e2, End.calm (cg.no _ _ _) e3⟩
      | false =>
        rw [if_neg (by simp)]
        exact d3 r3 X3 (.bl false) .refl d1 (.bl false)
    | non => exact d3.elim
    | int _ => exact d3.elim
    | str _ => exact d3.elim
    | tup _ _ => exact d3.elim
    | scr _ => exact d3.elim
    | ref _ => exact d3.elim
    | gls _ => exact d3.elim
    | ftup _ _ _ _ => exact d3.elim
end
end FL

end

section
set_option Elab.async false
set_option linter.all false
set_option maxRecDepth 100000
set_option maxHeartbeats 3200000
/-! len(set(xs)), xs a tuple of tuples of whole numbers. -/
namespace FL
open PySem PyProof.Rows
open L2 (V Hp HO VK XK St TE TT TA TS TG TGs TI Ends PE PT PW PA PS PSs PG PGs PI Cx Inv SqL SqT Rd upd upd_same upd_ne WX Room IsT SetTR Got)

section
variable {prog : Program} {wd : World} {A : Around} {E : Value → Shared → Prop} {s : Shared}
abbrev bare (wd : World) : Obj := { cls := .type "set", dict := none, data := .set #[] 0 (.fresh 0 0 (!wd.params.followText "set-order")) }
theorem noneAt {h : Heap} (b : Addr) (hb : h.objs.size ≤ b) : h.get? b = none := by
  cases q : h.get? b with
  | none => rfl
  | some o => exact absurd (Heap.lt_size q) (Nat.not_lt.mpr hb)
/-- the items are read into the new set -/
theorem fill_tup {l : Addr} {its : Array Value} (qs : List (Addr × List Int)) (hh : A.handled = none) (hl : s.heap.IsTuple l its) (hi : its.toList = qs.map fun p => Value.ref p.1) (hq : ∀ p ∈ qs, IsT prog wd s.heap p.2 p.1) (few : qs.length < 64) (hu : A.units + 3 < cLine) :
    codeAny (model prog wd) A (.call (.builtin "set.__init__") ⟨[.ref s.heap.objs.size, .ref l], []⟩) (wants (fun r s2 => r = .none ∧ ∃ h' tk L es ep t, s2 = { s with heap := h', toks := tk } ∧ SetTR prog wd h' s.heap.objs.size L es ep t ∧ Got qs qs.length L ∧ (∀ b o, s.heap.get? b = some o → h'.get? b = some o)) E)
      { s with heap := s.heap.push (bare wd) } := by
  have hz : its.size = qs.length := by
    have e := congrArg List.length hi
    rwa [Array.length_toList, List.length_map] at e
  have gS : (s.heap.push (bare wd)).get? s.heap.objs.size = some (bare wd) := Heap.get?_push_size _ rfl
  have tS : Shared.TypeIs { s with heap := s.heap.push (bare wd) } (.ref s.heap.objs.size) "set" := ⟨_, gS, rfl⟩
  refine codeAny_call_builtin F.called_set.init.plain F.entry_set_init (check_set_init_1 tS ?_)
  have hl0 := hl
  obtain ⟨⟨oc, od, oda, osl⟩, go, ec, nl, ed⟩ := hl0
  simp only at ec ed
  subst ec; subst ed
  have g1 : (s.heap.push (bare wd)).get? l = some ⟨.type "tuple", od, .seq its nl, osl⟩ := Heap.get?_push_of_some _ go
  have f1 := F.sub_tuple_set
  have f2 := F.sub_tuple_frozenset
  have f3 : (Value.type "tuple" == Value.type "dict") = false := by decide
  have l1 : (s.heap.push (bare wd)).IsTuple l its := ⟨_, g1, rfl, nl, rfl⟩
  unfold Builtin.«set.__init__» noKeywords Builtin.Frozenset.updateFrom
  generalize hPI : pyIter = PI
  wp_walk
  subst hPI
  refine wpAny_pyIter_tuple l1 ?_
  refine wpAny_bind (wpAny_runValue ?_)
  have lt : l < s.heap.objs.size := Heap.lt_size go
  have h3 : A.in1.in1.handled = none := by simp [hh]
  have ne : l ≠ (s.heap.push (bare wd)).objs.size := by rw [Heap.size_push]; exact Nat.ne_of_lt (Nat.lt_succ_of_lt lt)
  have out : s.heap.objs.size ∉ [(s.heap.push (bare wd)).objs.size, l] := by
    rw [Heap.size_push]
    simp only [List.mem_cons, List.not_mem_nil, or_false, not_or]
    exact ⟨Nat.ne_of_lt (Nat.lt_succ_self _), Nat.ne_of_gt lt⟩
  have vals : ∀ (i : Nat) (v : Value), its[i]? = some v → ∃ p, qs[i]? = some p ∧ v = .ref p.1 := fun i v e => by
    have q : its.toList[i]? = some v := by rw [Array.getElem?_toList]; exact e
    rw [hi, List.getElem?_map] at q
    obtain ⟨p, e1, e2⟩ := Option.map_eq_some_iff.mp q
    exact ⟨p, e1, e2.symm⟩
  refine L2.set_update_tups ((Walks.tuple h3 _ l ne its).toS) s.heap.objs.size out qs hz few vals s.heap hq (noneAt _ (Nat.le_refl _)) (fun b hb => noneAt b (by rw [List.mem_singleton.mp hb, Heap.size_push]; exact Nat.le_succ _)) (by show A.units + 1 + 1 < cLine; omega) (its.size - 0) 0 _ (by omega) (Nat.zero_le _)
    ?start ?keep ?fresh ?out
  case start => exact ⟨⟨_, Heap.get?_push_size _ rfl, rfl, rfl⟩, (l1.at fun o e => Heap.get?_push_of_some _ e)⟩
  case keep => exact fun b o e => Heap.get?_push_of_some _ (Heap.get?_push_of_some _ e)
  case fresh =>
    have z := L2.setTR_fresh (P := prog) (w := wd) (Heap.get?_push_of_some { cls := .type "tuple_iterator", data := .fields #[.ref l, .int 0 0] } gS)
    exact ⟨[], #[], 0, _, z, Got.zero qs⟩
  intro s' L es ep t hm hS g hk
  obtain ⟨h', gg, dd, tk, os⟩ := s'
  obtain rfl : gg = s.gens := hm.gens
  obtain rfl : dd = s.drawn := hm.drawn
  obtain rfl : os = s.os := hm.os
  show wpAny _ _ _ _ _ _
  refine wpAny_pure ?_
  show wpAny _ _ (ret Value.none) _ _ _
  rw [hz] at g
  exact wpAny_pure ⟨rfl, h', tk, L, es, ep, t, rfl, hS, g, hk⟩
theorem set_tup {l : Addr} {its : Array Value} {Q : Value → Shared → Prop} (qs : List (Addr × List Int)) (hh : A.handled = none) (hl : s.heap.IsTuple l its) (hi : its.toList = qs.map fun p => Value.ref p.1) (hq : ∀ p ∈ qs, IsT prog wd s.heap p.2 p.1) (few : qs.length < 64) (hu : A.units + 8 < cLine)
    (h : ∀ (h' : Heap) (tk : Nat) L es ep t, SetTR prog wd h' s.heap.objs.size L es ep t → Got qs qs.length L → (∀ b o, s.heap.get? b = some o → h'.get? b = some o) → Q (.ref s.heap.objs.size) { s with heap := h', toks := tk }) : wpAny (model prog wd) A (call (.type "set") [.ref l]) Q E s := by
  obtain ⟨c, tl, m1⟩ := F.called_set.mro
  have m2 := F.called_set.made
  have m3 := F.called_set.sub
  refine wpAny_call (codeAny_of_tree ?_)
  show wpAny _ _ (callAny (.type "set") _) _ _ _
  refine wpAny_pure ⟨Code.quiet_builtin _ (by decide +kernel), codeAny_builtin F.entry_type_call ?_⟩
  rw [Around.under_plain (weight_type_call_type "set" [.ref l] []) rfl]
  have m4 := F.called_set.notType
  have m5 := F.called_set.canCreate
  have m6 := F.typeCall_set_1 (.ref l)
  repeat (any_goals (first | assumption | wp_step))
  refine codeAny_mono (L2.code_set_led1 (.ref l) (E := E) (Q₁ := fun obj s₁ => obj = .ref s.heap.objs.size ∧ s₁ = { s with heap := s.heap.push (bare wd) }) ⟨rfl, rfl⟩) fun r s1 hr => ?_
  match r, hr with
  | .error e, hr => exact hr
  | .ok (.ret obj), hr =>
    obtain ⟨rfl, rfl⟩ := hr
    have tS : Shared.TypeIs { s with heap := s.heap.push (bare wd) } (.ref s.heap.objs.size) "set" := ⟨_, Heap.get?_push_size _ rfl, rfl⟩
    have m7 := F.called_set.init.lookup
    have m8 := F.called_set.init.bind (.ref s.heap.objs.size)
    repeat (any_goals (first | assumption | wp_step))
    refine codeAny_mono (fill_tup (E := E) qs (A := A.in1) (by simpa using hh) hl hi hq few (by show A.units + 1 + 3 < cLine; omega)) fun r2 s2 h2 => ?_
    match r2, h2 with
    | .error e, h2 => exact h2
    | .ok (.ret r), h2 =>
      obtain ⟨rfl, h', tk, L, es, ep, t, rfl, hS, g, hk⟩ := h2
      repeat (any_goals (first | assumption | wp_step))
      exact h _ _ _ _ _ _ hS g hk
    | .ok .next, h2 => exact h2.elim
    | .ok .brk, h2 => exact h2.elim
    | .ok .cont, h2 => exact h2.elim
  | .ok .next, hr => exact hr.elim
  | .ok .brk, hr => exact hr.elim
  | .ok .cont, hr => exact hr.elim
end
/-! ### on values -/
/-- a value that is a tuple of whole numbers -/
def rowOf (d : D) : Option (List Int) := match d with
  | .tup xs => numsL xs
  | _ => none
def rowsL : List D → Option (List (List Int))
  | [] => some []
  | d :: ds => match rowOf d, rowsL ds with
    | some x, some xs => some (x :: xs)
    | _, _ => none
/-- without repetitions -/
def sole : List (List Int) → List (List Int)
  | [] => []
  | x :: xs => if x ∈ xs then sole xs else x :: sole xs
theorem mem_sole : ∀ (xs : List (List Int)) (y : List Int), y ∈ sole xs ↔ y ∈ xs
  | [], y => by simp [sole]
  | x :: xs, y => by
    unfold sole
    split
    · rename_i h
      rw [mem_sole xs y]
      exact ⟨fun z => List.mem_cons_of_mem _ z, fun z => (List.mem_cons.mp z).elim (fun e => e ▸ h) id⟩
    · rw [List.mem_cons, List.mem_cons, mem_sole xs y]
theorem nd_sole : ∀ xs : List (List Int), (sole xs).Nodup
  | [] => List.nodup_nil
  | x :: xs => by
    unfold sole
    split
    · exact nd_sole xs
    · rename_i h
      exact List.nodup_cons.mpr ⟨fun z => h ((mem_sole xs x).mp z), nd_sole xs⟩
theorem same_len {xs ys : List (List Int)} (a : xs.Nodup) (b : ys.Nodup) (h : ∀ z, z ∈ xs ↔ z ∈ ys) : xs.length = ys.length := ((List.perm_ext_iff_of_nodup a b).mpr h).length_eq
/-- len(set(e)) -/
def eLenSet (e : E) : E := fun l h => (e l h).bind fun x h1 => match x with
  | .tup ds => (match rowsL ds with
    | some rs => if rs.length < 64 then .ok (.int ((sole rs).length : Nat)) h1 else .bad
    | none => .bad)
  | .ref n => (match h1[n]? with
    | some (.lst ds) => (match rowsL ds with
      | some rs => if rs.length < 64 then .ok (.int ((sole rs).length : Nat)) h1 else .bad
      | none => .bad)
    | _ => .bad)
  | _ => .bad
section
variable {C : Cx} {P : Pm} {w : WX} {X : Hp} {r : List Addr}
theorem rows_rv (hK : C.K = P.K) : ∀ {ds : List D} {vs : List V} {rs : List (List Int)}, rowsL ds = some rs → RVs P.K X r ds vs → ∃ qs : List (Addr × List Int), vs = qs.map (fun p => V.ref p.1) ∧ qs.map (·.2) = rs ∧ ∀ p ∈ qs, SqT C.K X p.1 (p.2.map V.int)
  | [], _, _, e, .nil => by
    cases e
    exact ⟨[], rfl, rfl, fun p hp => by cases hp⟩
  | d :: ds, _, _, e, .cons h1 h2 => by
    unfold rowsL at e
    split at e
    · rename_i x xs e1 e2
      cases e
      obtain ⟨qs, f1, f2, f3⟩ := rows_rv hK e2 h2
      unfold rowOf at e1
      split at e1
      · cases h1 with
        | @tup a us es q1 q2 =>
          have q3 := ints_rv e1 q2
          subst q3
          refine ⟨(a, x) :: qs, by rw [f1]; rfl, by rw [← f2]; rfl, fun p hp => ?_⟩
          rcases List.mem_cons.mp hp with rfl | hp
          · rw [hK]
            exact q1
          · exact f3 p hp
      · cases e1
    · cases e
theorem xLenSet {a : Expr} {ma : E} {p p2 q pos : Pos} (hK : C.K = P.K) (hc : C.calm = true) (hu : C.A.units + 64 < cLine) (hg : L2.Gl C "len") (hm : C.mg "len" = none) (hg2 : L2.Gl C "set") (hm2 : C.mg "set" = none) (ha : PE C a (tE P w ma))
    (na : starEach [a] C.env = (false, eval a C.env) :: starEach [] C.env := by rfl) : PE C (.Call (.Name "len" p) [.Call (.Name "set" p2) [a] [] q] [] pos) (tE P w (eLenSet ma)) := by
  refine ⟨fun pins s σ X Q I h => ?_⟩
  refine PyProof.Rows.Call_ (L2.ld_blt I hg hm PySem.boot_len ?_)
  refine PyProof.Rows.callWith_builtin1 (PyProof.Rows.args_cons ?_ rfl) rfl rfl
  refine PyProof.Rows.Call_ (L2.ld_blt I hg2 hm2 PyProof.Rows.boot_set ?_)
  refine PyProof.Rows.callWith_type1 (PyProof.Rows.args_cons (L2.thn (ha.run pins s σ X _ I (bindE (R := relE) (m := ma) (k := fun x (_ : List D) _ h1 => match x with
    | .tup ds => (match rowsL ds with
      | some rs => if rs.length < 64 then .ok (.int ((sole rs).length : Nat)) h1 else .bad
      | none => .bad)
    | .ref n => (match h1[n]? with
      | some (.lst ds) => (match rowsL ds with
        | some rs => if rs.length < 64 then .ok (.int ((sole rs).length : Nat)) h1 else .bad
        | none => .bad)
      | _ => .bad)
    | _ => .bad) h)) fun v s1 ⟨y, X1, I1, ry, z⟩ => PyProof.Rows.args_nil ?_) na) na rfl
  obtain ⟨r, h, l, ds, a1, a2, a3, a4⟩ := z
  cases a3 with
  | @cons d _ _ _ b1 b2 =>
    cases b2
    dsimp only at a4
    split at a4
    · rename_i es
      split at a4
      · rename_i rs er
        split at a4
        · rename_i few
          cases b1 with
          | @tup t vs _ q1 q2 =>
            obtain ⟨qs, f1, f2, f3⟩ := rows_rv hK er q2
            obtain rfl : v = Value.ref t := ry
            rw [← hK] at q1
            obtain ⟨its, rv, pl, hz⟩ := I1.tuple q1
            have fl : qs.length = rs.length := by rw [← f2, List.length_map]
            subst f1
            refine set_tup qs (I1.ok.hd hc) pl (by simpa using L2.refs_of_vals rv) (fun p hp => I1.isT (f3 p hp)) (by omega) (by omega) fun h' tk L es2 ep t2 R g kp => ?_
            refine PyProof.Rows.args_nil ?_
            have I2 : Inv C pins σ X1 { s1 with heap := h', toks := tk } := I1.kept kp
            obtain ⟨o, ho, hex, hd⟩ := R.ob
            have hn : L.length = (sole rs).length := by
              have e := same_len R.nd (nd_sole rs) fun z => by
                rw [mem_sole, ← f2]
                constructor
                · intro hz
                  obtain ⟨p, hp, e⟩ := List.mem_map.mp hz
                  exact e ▸ List.mem_map.mpr ⟨p, List.mem_of_mem_take (g.sub p hp), rfl⟩
                · intro hz
                  obtain ⟨p, hp, e⟩ := List.mem_map.mp hz
                  exact e ▸ g.all p (by rw [List.take_length]; exact hp)
              rwa [List.length_map] at e
            have hs := L2.SetTR.size (s := { s1 with heap := h', toks := tk }) R
            have hfit := L2.SetTR.fits (s := { s1 with heap := h', toks := tk }) R
            have few2 := R.few
            exact call_len_set ho hex hd hfit (by rw [hs]; omega) ⟨.int ((sole rs).length : Nat), X1, I2.tok _, ⟨_, by rw [hs, hn]⟩, a4 r X1 _ .refl a1 (.int _)⟩
        · exact a4.elim
      · exact a4.elim
    · rename_i n
      cases b1 with
      | @ref _ t e1 =>
        split at a4
        · rename_i es ex
          split at a4
          · rename_i rs er
            split at a4
            · rename_i few
              obtain ⟨vs, q1, q2⟩ := a1.lst ex e1
              obtain ⟨qs, f1, f2, f3⟩ := rows_rv hK er q2
              obtain rfl : v = Value.ref t := ry
              have q1 : SqL C.K X1 t vs := .inl (.inl q1)
              obtain ⟨its, rv, pl, hz⟩ := I1.list q1
              have fl : qs.length = rs.length := by rw [← f2, List.length_map]
              subst f1
              refine L2.call_set_tups (P := C.prog) (w := C.w) qs (I1.ok.hd hc) pl.isList (by simpa using L2.refs_of_vals rv) (fun p hp => I1.isT (f3 p hp)) (by omega) (by omega) fun h' tk L es2 ep t2 R g kp => ?_
              refine PyProof.Rows.args_nil ?_
              have I2 : Inv C pins σ X1 { s1 with heap := h', toks := tk } := I1.kept kp
              obtain ⟨o, ho, hex, hd⟩ := R.ob
              have hn : L.length = (sole rs).length := by
                have e := same_len R.nd (nd_sole rs) fun z => by
                  rw [mem_sole, ← f2]
                  constructor
                  · intro hz
                    obtain ⟨p, hp, e⟩ := List.mem_map.mp hz
                    exact e ▸ List.mem_map.mpr ⟨p, List.mem_of_mem_take (g.sub p hp), rfl⟩
                  · intro hz
                    obtain ⟨p, hp, e⟩ := List.mem_map.mp hz
                    exact e ▸ g.all p (by rw [List.take_length]; exact hp)
                rwa [List.length_map] at e
              have hs := L2.SetTR.size (s := { s1 with heap := h', toks := tk }) R
              have hfit := L2.SetTR.fits (s := { s1 with heap := h', toks := tk }) R
              have few2 := R.few
              exact call_len_set ho hex hd hfit (by rw [hs]; omega) ⟨.int ((sole rs).length : Nat), X1, I2.tok _, ⟨_, by rw [hs, hn]⟩, a4 r X1 _ .refl a1 (.int _)⟩
            · exact a4.elim
          · exact a4.elim
        · exact a4.elim
    · exact a4.elim
end
end FL

end

section
set_option Elab.async false
set_option linter.all false
set_option maxRecDepth 100000
set_option maxHeartbeats 2000000
/-! What a head tells of own classes: a hook with a Bool of one's own, and with defs that stand behind properties and static methods. -/
namespace FL
open PySem
open He (ga ma fAd FnW DefD AlD frG asD frG_in obsD valD SaysD eqO eqO_ok ba dflB kwdB dflB_ok kwdB_ok)

/-- a closure but for the class's own cell -/
def frC (cl : List (Str × Addr)) : List (Str × Addr) := if cl.all (fun p => p.1 == ("__class__" : Str)) then [] else cl
def fnAt (K : PySem.W.Frag) (a : Addr) : FnW := match K.lookup a with
  | some ⟨_, _, .func fd, _⟩ => some (fd.name, fd.qualname, fd.params, fd.body, fd.scope, fd.globals, frC fd.closure, fd.builtins)
  | _ => none
def noClo (K : PySem.W.Frag) (a : Addr) : Bool := match K.lookup a with
  | some ⟨_, _, .func fd, _⟩ => fd.closure.isEmpty
  | _ => false
/-- the def says super() -/
def suD (d : DefD) : Bool := (d.scope.names.lookup ("__class__" : Str)).isSome
def okAt (K : PySem.W.Frag) (a : Addr) (q : Str) : Bool := match K.lookup a with
  | some ⟨_, _, .func fd, _⟩ => PySem.W.keepIn K (.ref a) && (PySem.W.codeIn K fd.code q && dflB K fd.defaults [])
  | _ => false
/-- a def found by a path -/
abbrev PD : Type := (PySem.W.Frag → Addr) × DefD
theorem funAt {K : PySem.W.Frag} {a : Addr} {d : DefD} (e : fnAt K a = d.val) (c : okAt K a d.qual = true) (c0 : noClo K a = true) : ∃ fd, L2.FunD K d.name d.qual d.params d.body d.scope [] [] a fd := by
  unfold fnAt at e
  unfold okAt at c
  unfold noClo at c0
  cases q : K.lookup a with
  | none =>
    rw [q] at c
    cases c
  | some o =>
    obtain ⟨o1, o2, dt, o4⟩ := o
    rw [q] at c e c0
    match dt, q, c, e, c0 with
    | .func ⟨n1, n2, n3, n4, n5, n6, n7, n8, n9, n10, n11, n12, n13, n14, n15⟩, q, c, e, c0 =>
      have e2 : (some (n1, n2, n3, n4, n5, n6, frC n7, n15) : FnW) = some (d.name, d.qual, d.params, .stmts d.body, d.scope, mainGlobals, [], builtinsNs) := e
      have c0 : n7.isEmpty = true := c0
      obtain rfl : n7 = [] := List.isEmpty_iff.mp c0
      simp only [Option.some.injEq, Prod.mk.injEq] at e2
      obtain ⟨rfl, rfl, rfl, rfl, rfl, rfl, _, rfl⟩ := e2
      obtain ⟨k0, c⟩ := ba c
      obtain ⟨k1, k3⟩ := ba c
      exact ⟨_, ⟨o1, o2, n8, n9, n10, n11, n12, n13, n14, o4, rfl, q, k1, dflB_ok k3, .inl rfl⟩, k0⟩
abbrev AlF : Type := AlD × Bool × List FnW
def obsF (fa : List He.Fa) (fn : List DefD) (ex : PySem.W.Frag → Bool) (pd : List PD) (K : PySem.W.Frag) : AlF := (obsD fa fn K, (ex K && pd.all fun q => okAt K (q.1 K) q.2.qual && (suD q.2 || noClo K (q.1 K))), pd.map fun q => fnAt K (q.1 K))
def valF (fn : List DefD) (pd : List PD) : AlF := (valD fn, true, pd.map fun q => q.2.val)
def SaysF (fa : List He.Fa) (fn : List DefD) (ex : PySem.W.Frag → Bool) (pd : List PD) (K : PySem.W.Frag) : Prop := obsF fa fn ex pd K = valF fn pd
def obsFG (n : Nat) (fa : List He.Fa) (fn : List DefD) (ex : PySem.W.Frag → Bool) (pd : List PD) (g : Addr → Option Obj) : AlF := obsF fa fn ex pd (frG g (cStatics :: asD g n))
def hookF (n : Nat) (fa : List He.Fa) (fn : List DefD) (ex : PySem.W.Frag → Bool) (pd : List PD) : PySem.W.Hook where
  α := AlF
  obs := fun s => obsFG n fa fn ex pd s.heap.get?
  val := fun _ => valF fn pd
  says := fun _ h => ∃ K : PySem.W.Frag, K.In h ∧ SaysF fa fn ex pd K
  of := fun _ _ e => ⟨_, frG_in, e⟩
  keeps := fun _ _ _ ⟨K, a, c⟩ k => ⟨K, a.keeps k, c⟩
theorem obsFG_eq {n : Nat} {fa : List He.Fa} {fn : List DefD} {ex : PySem.W.Frag → Bool} {pd : List PD} {g : Addr → Option Obj} {s : Shared} (h : ∀ a, g a = s.heap.get? a) : obsFG n fa fn ex pd g = (hookF n fa fn ex pd).obs s := by
  obtain rfl : g = s.heap.get? := funext h
  rfl
section
variable {fa : List He.Fa} {fn : List DefD} {xb : PySem.W.Frag → Bool} {pd : List PD} {K : PySem.W.Frag}
theorem SaysF.d (c : SaysF fa fn xb pd K) : SaysD fa fn K := congrArg (fun z : AlF => z.1) c
theorem SaysF.ex (c : SaysF fa fn xb pd K) : xb K = true := (ba (show (xb K && pd.all fun q => okAt K (q.1 K) q.2.qual && (suD q.2 || noClo K (q.1 K))) = true from congrArg (fun z : AlF => z.2.1) c)).1
theorem SaysF.at_ (c : SaysF fa fn xb pd K) (i : Nat) {q : PD} (h : pd[i]? = some q := by rfl) (hs : suD q.2 = false := by rfl) : ∃ fd, L2.FunD K q.2.name q.2.qual q.2.params q.2.body q.2.scope [] [] (q.1 K) fd := by
  have c1 := (ba (show (xb K && pd.all fun q => okAt K (q.1 K) q.2.qual && (suD q.2 || noClo K (q.1 K))) = true from congrArg (fun z : AlF => z.2.1) c)).2
  have c2 : (pd.map fun q => fnAt K (q.1 K)) = pd.map fun q => q.2.val := congrArg (fun z : AlF => z.2.2) c
  have c3 : (pd.map fun q => fnAt K (q.1 K))[i]? = (pd.map fun q => q.2.val)[i]? := by rw [c2]
  rw [List.getElem?_map, List.getElem?_map, h] at c3
  obtain ⟨c4, c5⟩ := ba (List.all_eq_true.mp c1 q (List.mem_of_getElem? h))
  rw [hs, Bool.false_or] at c5
  exact funAt (Option.some.inj c3) c4 c5
theorem SaysF.su_ (c : SaysF fa fn xb pd K) (i : Nat) {q : PD} (h : pd[i]? = some q := by rfl) : fnAt K (q.1 K) = q.2.val ∧ okAt K (q.1 K) q.2.qual = true := by
  have c1 := (ba (show (xb K && pd.all fun q => okAt K (q.1 K) q.2.qual && (suD q.2 || noClo K (q.1 K))) = true from congrArg (fun z : AlF => z.2.1) c)).2
  have c2 : (pd.map fun q => fnAt K (q.1 K)) = pd.map fun q => q.2.val := congrArg (fun z : AlF => z.2.2) c
  have c3 : (pd.map fun q => fnAt K (q.1 K))[i]? = (pd.map fun q => q.2.val)[i]? := by rw [c2]
  rw [List.getElem?_map, List.getElem?_map, h] at c3
  exact ⟨Option.some.inj c3, (ba (List.all_eq_true.mp c1 q (List.mem_of_getElem? h))).1⟩
end
/-! ### Bools -/
def recA (T : String) (x m : Str) (K : PySem.W.Frag) : Addr := match PySem.W.recIn K (ma K (ga K x) m) T with
  | some (.ref g :: _) => g
  | _ => 0
def recB (K : PySem.W.Frag) (T : String) (p : Addr) : Bool := match PySem.W.recIn K p T with
  | some (.ref _ :: _) => true
  | _ => false
theorem recB_ok {K : PySem.W.Frag} {T : String} {x m : Str} (h : recB K T (ma K (ga K x) m) = true) : ∃ rest, PySem.W.recIn K (ma K (ga K x) m) T = some (.ref (recA T x m K) :: rest) := by
  unfold recB at h
  unfold recA
  split at h
  · rename_i g r e
    rw [e]
    exact ⟨r, rfl⟩
  · cases h
def insB (x : Str) (K : PySem.W.Frag) : Bool := (He.Fa.cls x).ok K && (eqO (PySem.W.findIn K (.ref (ga K x)) "__class__") (some (some (.builtin "object.__class__"))) && (eqO (PySem.W.specialIn K (.builtin "object.__class__") "__get__") (some (some (.builtin "getset_descriptor.__get__"))) &&
  (decide (PySem.W.takesIn K (.builtin "object.__class__") = some true) && (decide (PySem.W.mroIn K (ga K x) (.type "object") = some true) && (["int", "bool", "tuple", "list", "str"].all fun T => decide (PySem.W.kitOne K (.ref (ga K x)) (.type T) = some false))))))
theorem insB_ok {x : Str} {K : PySem.W.Frag} (h : insB x K = true) : InsOk K (ga K x) := by
  obtain ⟨h1, h⟩ := ba h
  obtain ⟨h2, h⟩ := ba h
  obtain ⟨h3, h⟩ := ba h
  obtain ⟨h4, h⟩ := ba h
  obtain ⟨h5, h6⟩ := ba h
  exact ⟨He.cls_ok h1, eqO_ok h2, eqO_ok h3, of_decide_eq_true h4, of_decide_eq_true h5, fun T hT => of_decide_eq_true (List.all_eq_true.mp h6 T hT)⟩
def prpB (x m : Str) (K : PySem.W.Frag) : Bool := eqO (PySem.W.findIn K (.ref (ga K x)) m) (some (some (.ref (ma K (ga K x) m)))) && (eqO (PySem.W.specialIn K (.ref (ma K (ga K x) m)) "__get__") (some (some (.builtin "property.__get__"))) &&
  (decide (PySem.W.takesIn K (.ref (ma K (ga K x) m)) = some true) && recB K "property" (ma K (ga K x) m)))
theorem prpB_ok {x m : Str} {K : PySem.W.Frag} (h : prpB x m K = true) : L2.PropOf K (ga K x) m (ma K (ga K x) m) (recA "property" x m K) := by
  obtain ⟨h1, h⟩ := ba h
  obtain ⟨h2, h⟩ := ba h
  obtain ⟨h3, h4⟩ := ba h
  exact ⟨eqO_ok h1, eqO_ok h2, of_decide_eq_true h3, recB_ok h4⟩
def rdB (x : Str) (K : PySem.W.Frag) : Bool := PySem.W.readsIn K (ga K x) (.type "type") && eqO (PySem.W.specialIn K (.ref (ga K x)) "__getattribute__") (some (some (.builtin "type.__getattribute__")))
theorem rdB_ok {x : Str} {K : PySem.W.Frag} (h : rdB x K = true) : ClX.CRead K (ga K x) (.type "type") := by
  obtain ⟨h1, h2⟩ := ba h
  exact ⟨h1, eqO_ok h2⟩
/-- C.m is a static method, a class method -/
def smB (T id0 : String) (x m : Str) (K : PySem.W.Frag) : Bool := (match PySem.W.findCls K (.ref (ga K x)) (.type "type") m with
  | some (.get (.builtin id) p .none c) => decide (id = id0) && (decide (p = .ref (ma K (ga K x) m)) && decide (c = .ref (ga K x)))
  | _ => false) && recB K T (ma K (ga K x) m)
theorem smB_ok {T id0 : String} {x m : Str} {K : PySem.W.Frag} (h : smB T id0 x m K = true) : PySem.W.findCls K (.ref (ga K x)) (.type "type") m = some (.get (.builtin id0) (.ref (ma K (ga K x) m)) .none (.ref (ga K x))) ∧ ∃ rest, PySem.W.recIn K (ma K (ga K x) m) T = some (.ref (recA T x m K) :: rest) := by
  obtain ⟨h1, h2⟩ := ba h
  refine ⟨?_, recB_ok h2⟩
  split at h1
  · rename_i id p c e
    obtain ⟨h3, h4⟩ := ba h1
    obtain ⟨h5, h6⟩ := ba h4
    rw [e, of_decide_eq_true h3, of_decide_eq_true h5, of_decide_eq_true h6]
  · cases h1
end FL

end

section
set_option Elab.async false
set_option linter.all false
set_option maxRecDepth 100000
set_option maxHeartbeats 2000000
/-! A law's end: its function on values answers True at each script. -/
namespace FL
open PySem PyProof.Rows
open L2 (V Hp HO VK XK St Inv SqL SqT upd Room Only hidT)
section
variable {Pg : Program} {wd : World} {K : PySem.W.Frag} {mg mb : Str → Option Value} {k : Nat} {fa a : Addr} {s : Shared} {us : List Value} {ns : List Int} {P : Pm} {m : F}
theorem scrAt_of {X : Hp} {vs : List V} (o : Only X) (q : SqL K X a vs) : ScrAt K X a vs := by
  rcases q with (q | ⟨ob, q⟩) | q
  · rcases o a with z | ⟨ob, xs, z⟩ <;> rw [q] at z <;> cases z
  · exact .inl ⟨ob, q⟩
  · exact .inr (.inr q)
theorem sp_law (hPK : P.K = K) {X : Hp} (o : Only X) (q : SqL K X a (ns.map V.int)) (hm : ∃ h', m [.scr ns] [] = .ok (.bl true) h') : spF P 1 m [.ref a] X (fun v _ => v = .bl true) fun _ _ _ => False := by
  obtain ⟨h', e⟩ := hm
  subst hPK
  refine ⟨rfl, [], [], [.scr ns], ⟨rfl, List.nodup_nil, fun n c b e1 e2 => by simp at e1⟩, .cons (.scr (scrAt_of o q)) .nil, ?_⟩
  rw [e]
  intro r X1 b _ _ rb
  have rb : RV P.K X1 r (.bl true) b := rb
  cases rb
  rfl
/-- at the place of the call: nothing but the script is tracked -/
theorem law_at (KX : K.In s.heap) (g1 : s.heap.Ns mainGlobals mg) (g2 : s.heap.Ns builtinsNs mb) (g3 : ∀ x : Str, x ≠ "__name__" → mb x = bootBuiltins x) (g4 : s.heap.NoLimit) (g5 : s.gens = #[]) (go : s.heap.get? a = some { cls := .type "list", data := .seq us.toArray }) (rm : Room k callerA) (hg : callerA.guards = some [])
    (F : ∀ base : Heap, K.In base → base.Ns mainGlobals mg → FnX true Pg wd K mg base k fa (spF P 1 m)) (hPK : P.K = K) (hm : ∃ h', m [.scr ns] [] = .ok (.bl true) h') {X : Hp} (o : Only X) (q : SqL K X a (ns.map V.int)) (ok : L2.HOk Pg wd X s.heap) (one : ∀ b, X b ≠ none → b = a) (own : X a ≠ none → K.lookup a = none) :
    codeAny (model Pg wd) callerA (.call (.ref fa) ⟨[.ref a], []⟩) (fun r s' => r = .ok (.ret (.bool true)) ∧ OldK s.heap s'.heap ∧ s'.os = s.os ∧ AllBare s'.gens) s := by
  have nota : ∀ {b : Addr} {ob : Obj}, s.heap.get? b = some ob → ob ≠ { cls := .type "list", data := .seq us.toArray } → X b = none := fun {b ob} e ne => by
    cases z : X b with
    | none => rfl
    | some u =>
      obtain rfl : b = a := one b (by rw [z]; simp)
      rw [go] at e
      exact absurd (Option.some.inj e).symm ne
  have keepNs : ∀ {b : Addr} {f : Str → Option Value}, s.heap.Ns b f → (hidT s.heap X).Ns b f := fun {b f} ⟨ob, es, ep, e, d, r⟩ => ⟨ob, es, ep, L2.hidT_get e (nota e fun z => by rw [z] at d; cases d), d, r⟩
  have KB : K.In (hidT s.heap X) := fun b ob e => L2.hidT_get (KX b ob e) (by
    cases z : X b with
    | none => rfl
    | some u =>
      obtain rfl : b = a := one b (by rw [z]; simp)
      rw [own (by rw [z]; simp)] at e
      cases e)
  obtain ⟨mc, c1, c2⟩ := g4
  have M : L2.Mod K mg (hidT s.heap X) := ⟨KB, keepNs g1, ⟨mb, keepNs g2, g3⟩, ⟨mc, keepNs c1, c2⟩⟩
  have nofs : ∀ b : Addr, b ∈ ([] : List Addr) → X b = none := fun b z => by cases z
  have e0 : L2.Env0 Pg wd K mg (hidT s.heap X) callerA [] s X := ⟨rfl, M, fun b ob e => L2.of_hidT e, Nat.le_of_eq (L2.hidT_size _ _), trivial, nofs, ok, .of_eq g5⟩
  refine codeAny_mono (F _ KB (keepNs g1) callerA [] s X [.ref a] [.ref a] (fun v _ => v = .bl true) (fun _ _ _ => False) rm (fun _ => hg) e0 (.cons rfl .nil) (sp_law hPK o q hm)) fun z s' hz => ?_
  match z, hz with
  | .error u, hz =>
    obtain ⟨_, _, _, _, _, _, _, _, _, _, _, _, z⟩ := hz
    exact z.elim
  | .ok .next, hz => exact hz.elim
  | .ok .brk, hz => exact hz.elim
  | .ok .cont, hz => exact hz.elim
  | .ok (.ret u), hz =>
    obtain ⟨v, X', t1, t2, un, ok', ru, t3⟩ := hz
    obtain rfl : v = .bl true := t3
    obtain rfl : u = Value.bool true := ru
    refine ⟨rfl, OldK.of_keep fun b ob e => ?_, t1, t2⟩
    cases z : X b with
    | none => exact un.keep b ob e z (fun z => by cases (show b ∈ ([] : List Addr) from z)) (by simp)
    | some u =>
      rcases o b with y | ⟨oo, xs, y⟩
      · rw [z] at y
        cases y
      · obtain ⟨p1, _⟩ := ok b _ y
        obtain ⟨p2, _⟩ := ok' b _ (un.frzs b oo _ y)
        rw [e] at p1
        cases p1
        exact p2
theorem law_run (KX : K.In s.heap) (g1 : s.heap.Ns mainGlobals mg) (g2 : s.heap.Ns builtinsNs mb) (g3 : ∀ x : Str, x ≠ "__name__" → mb x = bootBuiltins x) (g4 : s.heap.NoLimit) (g5 : s.gens = #[]) (go : s.heap.get? a = some { cls := .type "list", data := .seq us.toArray }) (gi : IntsAre us ns) (gl : ns.length ≤ sizeLine)
    (rm : Room k callerA) (hg : callerA.guards = some []) (F : ∀ base : Heap, K.In base → base.Ns mainGlobals mg → FnX true Pg wd K mg base k fa (spF P 1 m)) (hPK : P.K = K) (hm : ∃ h', m [.scr ns] [] = .ok (.bl true) h') :
    codeAny (model Pg wd) callerA (.call (.ref fa) ⟨[.ref a], []⟩) (fun r s' => r = .ok (.ret (.bool true)) ∧ OldK s.heap s'.heap ∧ s'.os = s.os ∧ AllBare s'.gens) s := by
  have rv := L2.vals_ints gi
  have lv := gi.length
  cases hk : K.lookup a with
  | some ob =>
    have e := KX a ob hk
    rw [go] at e
    cases e
    refine law_at KX g1 g2 g3 g4 g5 go rm hg F hPK hm (X := fun _ => none) (fun _ => .inl rfl) (.inr ⟨_, us.toArray, _, hk, rfl, rfl, rfl, by rw [List.size_toArray, lv]; exact gl, by simpa using rv⟩) ?_ (fun b z => absurd rfl z) fun z => absurd rfl z
    intro b u z
    have z : (none : Option HO) = some u := z
    cases z
  | none =>
    let it : HO := .frz { cls := .type "list", data := .seq us.toArray } (.lst (ns.map V.int))
    have at1 : (fun b => if b = a then some it else none : Hp) a = some it := if_pos rfl
    have at0 : ∀ b, b ≠ a → (fun b => if b = a then some it else none : Hp) b = none := fun b z => if_neg z
    refine law_at KX g1 g2 g3 g4 g5 go rm hg F hPK hm (X := fun b => if b = a then some it else none) (fun b => ?_) (.inl (.inr ⟨_, at1⟩)) (fun b u z => ?_) (fun b z => ?_) fun _ => hk
    · by_cases e : b = a
      · subst e
        exact .inr ⟨_, _, at1⟩
      · exact .inl (at0 b e)
    · by_cases e : b = a
      · subst e
        have z := at1.symm.trans z
        cases z
        exact ⟨go, by rw [List.length_map]; exact gl, us, _, rv, go⟩
      · have z := (at0 b e).symm.trans z
        cases z
    · by_cases e : b = a
      · exact e
      · exact absurd (at0 b e) z
end
/-- from the facts behind the top to the law -/
theorem walkF {l : PySem.W.OpenLaw} {n k : Nat} {q : Program} {loose : List Str} {XP : (Str → Option Value) → Heap → Prop} {YP : World → Heap → Prop} {d : DefRec} (hn : l.most = some n) (hn2 : n ≤ sizeLine) (hdf : d.params.defaults = []) (rm : Room k callerA)
    (F : ∀ (w : World) (mg : Str → Option Value) (fa : Addr) (h : Heap), YP w h → h.Ns mainGlobals mg → mg d.name = some (.ref fa) → ∃ (K : PySem.W.Frag) (P : Pm) (m : FL.F), P.K = K ∧ K.In h ∧ (∀ base : Heap, FnX true l.prog w K mg base k fa (spF P 1 m)) ∧
      ∀ ns : List Int, ns.length ≤ n → ∃ h', m [.scr ns] [] = .ok (.bl true) h') : PySem.W.WalkO q loose XP YP l.row.toRowW d [] (fun f vs => PySem.call f vs) := by
  refine Att.attach_call hn hdf fun w s0 s1 mg mb fa ob pm cd doc a us ns G Y t1 t2 t3 hmg go gi gl g5 => ?_
  obtain ⟨K, P, m, hPK, KX, hF, hm⟩ := F w mg fa _ Y G.T.g hmg
  exact law_run KX G.T.g G.T.b G.T.builtins G.T.nolimit g5 go gi (Nat.le_trans gl hn2) rm rfl (fun base _ _ => hF base) hPK (hm ns gl)
end FL

end

section
set_option linter.all false
/-! while, x += e, stars in lists, tuples repeated: on values. -/
namespace FL
def whileF (t : T) (b : S) : Nat → S
  | 0 => sNever
  | f + 1 => fun l h => ofRes l (t l h) fun c h1 => if c = true then (match b l h1 with
    | .nx l2 h2 => whileF t b f l2 h2
    | .ct l2 h2 => whileF t b f l2 h2
    | .bk l2 h2 => .nx l2 h2
    | r => r) else .nx l h1
/-- while, so many turns at most -/
def sWhile (t : T) (b : S) : S := whileF t b 5000
/-- i += e, i -= e: whole numbers alone -/
def vPlus : D → D → H → Res D := fun a b h => match a, b with
  | .int i, .int j => .ok (.int (i + j)) h
  | _, _ => .bad
def vMinus : D → D → H → Res D := fun a b h => match a, b with
  | .int i, .int j => .ok (.int (i - j)) h
  | _, _ => .bad
def sAug (i : Nat) (f : D → D → H → Res D) (e : E) : S := fun l h => match l[i]? with
  | some (some x) => ofRes l (e l h) fun y h1 => ofRes l (f x y h1) fun z h2 => .nx (l.set i (some z)) h2
  | _ => .bad
/-- *e in a display or an argument list -/
def aStarQ (e : E) (r : A) : A := fun l h => (e l h).bind fun x h1 => match seqOf x h1 with
  | some xs => (r l h1).bind fun ys h2 => .ok (xs ++ ys) h2
  | none => .bad
/-- a tuple repeated -/
def vRep : D → D → H → Res D := fun a b h => match a, b with
  | .tup xs, .int k => if xs ≠ [] ∧ xs.length ≤ 1000 ∧ 0 ≤ k ∧ k ≤ 1000 ∧ xs.length * k.toNat ≤ LIM then .ok (.tup (List.replicate k.toNat xs).flatten) h else .bad
  | _, _ => .bad
end FL

end

section
set_option linter.all false
namespace FL
/-- isinstance of an own class -/
def vIsC (c : Nat) : D → H → Res D := fun d h => match d with
  | .ref n => (match h[n]? with
    | some (.ins c' _) => if c' = c then .ok (.bl true) h else .bad
    | some (.lst _) => .ok (.bl false) h
    | some (.dct _) => .ok (.bl false) h
    | some (.tbl _) => .bad
    | none => .bad)
  | .non => .ok (.bl false) h
  | .bl _ => .ok (.bl false) h
  | .int _ => .ok (.bl false) h
  | .str _ => .ok (.bl false) h
  | .tup _ => .ok (.bl false) h
  | .scr _ => .ok (.bl false) h
  | _ => .bad
end FL

end

section
set_option linter.all false
/-! Texts put together: on values. -/
namespace FL
/-- {x} of an f-string -/
def vFmt : D → H → Res D := fun a h => match a with
  | .str s => if s.length ≤ LIM then .ok (.str s) h else .bad
  | .int i => if smallI i = true then .ok (.str (intText i)) h else .bad
  | _ => .bad
/-- the parts one behind the other -/
def goF : List E → List Nat → E
  | [], acc => fun _ h => .ok (.str acc) h
  | m :: ms, acc => fun l h => (m l h).bind fun x h1 => match x with
    | .str s => if acc.length + s.length ≤ LIM then goF ms (acc ++ s) l h1 else .bad
    | _ => .bad
def eFs (ms : List E) : E := goF ms []
def glue (s : List Nat) : List (List Nat) → List Nat
  | [] => []
  | p :: ps => match ps with
    | [] => p
    | _ :: _ => p ++ (s ++ glue s ps)
def strsL : List D → Option (List (List Nat))
  | [] => some []
  | .str s :: ds => (match strsL ds with
    | some r => some (s :: r)
    | none => none)
  | _ => none
/-- sep.join(xs) -/
def mJoin : D → F := fun o ds h => match o, ds with
  | .str s, [d] => (match seqOf d h with
    | some xs => (match strsL xs with
      | some ps => if (ps.map List.length).sum + ps.length * s.length ≤ LIM then .ok (.str (glue s ps)) h else .bad
      | none => .bad)
    | none => .bad)
  | _, _ => .bad
def isStr (d : D) : Bool := match d with
  | .str _ => true
  | _ => false
/-- s.m(..) of a text -/
def eSm (f : D → F) (o : E) (a : A) : E := fun l h => (o l h).bind fun x h1 => if isStr x = true then (a l h1).bind fun xs h2 => f x xs h2 else .bad
end FL

end

section
set_option linter.all false
/-! Dicts, split, endswith: on values. -/
namespace FL
abbrev Ky := Sum Int (List Nat)
def keyD : D → Option Ky
  | .int i => some (.inl i)
  | .str s => some (.inr s)
  | _ => none
def kEq : Ky → Ky → Bool
  | .inl i, .inl j => decide (i = j)
  | .inr s, .inr t => decide (s = t)
  | _, _ => false
theorem kEq_iff {a b : Ky} : kEq a b = true ↔ a = b := by
  cases a <;> cases b <;> simp [kEq]
def dput (kvs : List (Ky × D)) (k : Ky) (v : D) : List (Ky × D) :=
  if (kvs.any fun p => kEq p.1 k) = true then kvs.map fun p => if kEq p.1 k = true then (p.1, v) else p else kvs ++ [(k, v)]
def dget : List (Ky × D) → Ky → Option D
  | [], _ => none
  | p :: r, k => if kEq p.1 k = true then some p.2 else dget r k
def dcTurn (g : G) (ek ev : E) (l : Loc) (d : D) (kvs : List (Ky × D)) (h : H) : Res (List (Ky × D)) := match g d l h with
  | some (l1, h1) => (match ek l1 h1 with
    | .ok y h2 => (match ev l1 h2 with
      | .ok z h3 => (match keyD y with
        | some k => if kvs.length < LIM then .ok (dput kvs k z) h3 else .bad
        | none => .bad)
      | _ => .bad)
    | _ => .bad)
  | none => .bad
def dcS (g : G) (ek ev : E) (l : Loc) : List D → List (Ky × D) → H → Res (List (Ky × D))
  | [], acc, h => .ok acc h
  | d :: ds, acc, h => match dcTurn g ek ev l d acc h with
    | .ok acc' h' => dcS g ek ev l ds acc' h'
    | _ => .bad
/-- {k: v for t in iter} -/
def eDc (w : W) (g : G) (ek ev : E) (vs : List Nat) : E := fun l h => (w l h).bind fun it h1 =>
  (match it with
  | .snap xs => dcS g ek ev (wipe l vs) xs [] h1
  | .live _ => .bad
  | .dyn _ _ => .bad).bind fun acc h2 => alloc (.dct acc) h2
/-- d.get(k) -/
def eGet (o e : E) : E := fun l h => (o l h).bind fun x h1 => match x with
  | .ref n => (match h1[n]? with
    | some (.dct _) => (e l h1).bind fun y h2 => (match keyD y, h2[n]? with
      | some k, some (.dct kvs) => .ok ((dget kvs k).getD .non) h2
      | _, _ => .bad)
    | _ => .bad)
  | _ => .bad
/-- cut at each c -/
def split1 (c : Nat) : List Nat → List (List Nat)
  | [] => [[]]
  | x :: xs => if x = c then [] :: split1 c xs else match split1 c xs with
    | [] => [[x]]
    | p :: ps => (x :: p) :: ps
def mSplit : D → F := fun o ds h => match o, ds with
  | .str s, [.str [c]] => if s.length + 2 ≤ LIM ∧ c < 256 then alloc (.lst ((split1 c s).map .str)) h else .bad
  | _, _ => .bad
def mEnds : D → F := fun o ds h => match o, ds with
  | .str s, [.str [c]] => .ok (.bl (decide (s.getLast? = some c))) h
  | _, _ => .bad
end FL

end

section
set_option linter.all false
namespace FL
/-- v(..), v holds the class at ca -/
def eMkW (ca c : Nat) (f : F) (v : E) (a : A) : E := fun l h => (v l h).bind fun y h1 => match y with
  | .gls x => if x = ca then (a l h1).bind fun xs h2 => mkObj c f xs h2 else .bad
  | _ => .bad
end FL

end

section
set_option Elab.async false
set_option linter.all false
set_option maxRecDepth 100000
set_option maxHeartbeats 1000000
/-! f-strings, join. -/
namespace FL
open PySem
open L2 (V Hp HO VK XK St TE TT TA TS TG TGs TI Ends PE PT PW PA PS PSs PG PGs PI Cx Inv SqL SqT Rd upd upd_same upd_ne WX Room)
section
variable {C : Cx} {P : Pm} {w : WX} {e : Expr} {es : List Expr} {me mo : E} {ms : List E} {pos apos cpos : Pos} {o : Expr} {X : Hp} {r : List Addr} {h : H}
theorem xFmt (he : PE C e (tE P w me)) : PE C (.FormattedValue e (-1) none pos) (tE P w (eUn vFmt me)) := peW (L2.pe_fmt he) fun σ X Q q => by
  obtain ⟨r, h, l, ds, a1, a2, a3, a4⟩ := bindE (R := relE) (m := me) (k := fun x _ l h => vFmt x h) q
  refine ⟨r, h, l, ds, a1, a2, a3, End.mono (fun x X1 q => ?_) a4⟩
  obtain ⟨r, h, l, ds, a1, a2, a3, a4⟩ := q
  cases a3 with
  | @cons d _ _ _ b1 b2 =>
    cases b2
    have a4 : End relE P w r X1 σ (vFmt d h) Q := a4
    unfold vFmt at a4
    cases b1 with
    | str y =>
      dsimp only at a4
      split at a4
      · rename_i hz
        refine .inl ⟨y, rfl, ?_, a4 r X1 (.str y) .refl a1 (.str y)⟩
        rw [Array.length_toList] at hz
        exact lim hz
      · exact a4.elim
    | int i =>
      dsimp only at a4
      split at a4
      · rename_i hz
        exact .inr ⟨i, rfl, small_log hz, a4 r X1 (.str (toString i)) .refl a1 (.str _)⟩
      · exact a4.elim
    | non => exact a4.elim
    | bl _ => exact a4.elim
    | tup _ _ => exact a4.elim
    | ref _ => exact a4.elim
    | scr _ => exact a4.elim
    | gls _ => exact a4.elim
    | ftup _ _ _ _ => exact a4.elim
theorem rvStr {K : PySem.W.Frag} {s : List Nat} {x : Str} (e : x.cps.toList = s) : RV K X r (.str s) (.str x) := e ▸ RV.str x
/-- the parts' derivations -/
inductive Pj (C : Cx) (P : Pm) (w : WX) : List Expr → List E → Prop where
  | nil : Pj C P w [] []
  | cons {e : Expr} {m : E} {es : List Expr} {ms : List E} : PE C e (tE P w m) → Pj C P w es ms → Pj C P w (e :: es) (m :: ms)
theorem Pj.pj (q : Pj C P w es ms) : L2.PJ C es (ms.map (tE P w)) := by
  induction q with
  | nil => exact .nil
  | cons a _ ih => exact .cons a ih
theorem cat_list (x y : Str) : (x ++ y).cps.toList = x.cps.toList ++ y.cps.toList := TL.tl_append x y
theorem goF_js : ∀ (ms : List E) (acc : Str) {σ : St} {X : Hp} {Q : VK}, tE P w (goF ms acc.cps.toList) σ X Q → L2.tJs (ms.map (tE P w)) acc σ X (fun out H1 => Q (.str out) H1)
  | [], acc, σ, X, Q, q => by
    obtain ⟨r, h, l, ds, a1, a2, a3, a4⟩ := q
    exact a4 r X (.str acc) .refl a1 (.str acc)
  | m :: ms, acc, σ, X, Q, q => by
    obtain ⟨r, h, l, ds, a1, a2, a3, a4⟩ := bindE (R := relE) (m := m) (k := fun x _ l h1 => match x with
      | .str s => if acc.cps.toList.length + s.length ≤ LIM then goF ms (acc.cps.toList ++ s) l h1 else .bad
      | _ => .bad) q
    refine ⟨r, h, l, ds, a1, a2, a3, End.mono (fun x X1 q => ?_) a4⟩
    obtain ⟨r, h, l, ds, a1, a2, a3, a4⟩ := q
    cases a3 with
    | @cons d _ _ _ b1 b2 =>
      cases b2
      cases b1 with
      | str y =>
        dsimp only at a4
        split at a4
        · rename_i hz
          refine ⟨y, rfl, ?_, goF_js ms (acc ++ y) ⟨r, h, l, [], a1, a2, .nil, ?_⟩⟩
          · rw [Array.length_toList, Array.length_toList] at hz
            rw [Str.length_append]
            exact lim hz
          · rw [cat_list]
            exact a4
        · exact a4.elim
      | int _ => exact a4.elim
      | non => exact a4.elim
      | bl _ => exact a4.elim
      | tup _ _ => exact a4.elim
      | ref _ => exact a4.elim
      | scr _ => exact a4.elim
      | gls _ => exact a4.elim
      | ftup _ _ _ _ => exact a4.elim
/-- f'..' of two parts or more -/
theorem xFs {v1 v2 : Expr} {rest : List Expr} (q : Pj C P w (v1 :: v2 :: rest) ms) : PE C (.JoinedStr (v1 :: v2 :: rest) pos) (tE P w (eFs ms)) :=
  peW (L2.pe_joined q.pj) fun σ X Q q => goF_js ms Str.empty q
/-! methods of texts -/
instance : CalmM mJoin := ⟨fun o a h c fs h' e => by
  unfold mJoin at e
  repeat' (split at e)
  all_goals cases e⟩
theorem wSm {f : D → F} [cf : CalmM f] {mas : A} {σ : St} {X : Hp} {Q : VK} (q : tE P w (eSm f mo mas) σ X Q) : L2.tBM C.K "str" (rM P f) (tE P w mo) (tA P w mas) σ X Q := by
  obtain ⟨r, h, l, ds, a1, a2, a3, a4⟩ := bindE (R := relE) (m := mo) (k := fun x _ l h => if isStr x = true then (mas l h).bind fun xs h2 => f x xs h2 else .bad) q
  refine ⟨r, h, l, ds, a1, a2, a3, End.mono (fun v X1 q => ?_) a4⟩
  obtain ⟨r, h, l, ds, a1, a2, a3, a4⟩ := q
  cases a3 with
  | cons b1 b2 =>
    cases b2
    rename_i d
    have a4 : End relE P w r X1 σ (if isStr d = true then (mas l h).bind fun xs h2 => f d xs h2 else .bad) Q := a4
    by_cases hz : isStr d = true
    · rw [if_pos hz] at a4
      refine ⟨?_, r, h, l, [], a1, a2, .nil, End.mono (fun vs X2 ⟨r2, h2, xs, s2, c1, c2, c3⟩ => ?_) (End.bind (R0 := relA) a4)⟩
      · cases b1 with
        | str y => exact rfl
        | _ => cases hz
      · exact ⟨r2, h2, d, xs, c1, b1.mono s2 a1.own, c2, End.calm (cf.ne _ _ _) c3⟩
    · rw [if_neg hz] at a4
      exact a4.elim
theorem strs_rv : ∀ {xs : List D} {vs : List V} {ps : List (List Nat)}, RVs P.K X r xs vs → strsL xs = some ps → ∃ ys : List Str, vs = ys.map V.str ∧ ps = ys.map TL.tl
  | [], _, _, .nil, e => by
    cases e
    exact ⟨[], rfl, rfl⟩
  | d :: ds, _, _, .cons h1 h2, e => by
    cases h1 with
    | str y =>
      unfold strsL at e
      split at e
      · rename_i q eq
        cases e
        obtain ⟨ys, rfl, rfl⟩ := strs_rv h2 eq
        exact ⟨y :: ys, rfl, rfl⟩
      · cases e
    | _ => cases e
theorem glue_eq (s : List Nat) : ∀ ps : List (List Nat), glue s ps = TL.joinL s ps
  | [] => rfl
  | [p] => rfl
  | p :: q :: ps => by
    show p ++ (s ++ glue s (q :: ps)) = p ++ (s ++ TL.joinL s (q :: ps))
    rw [glue_eq s (q :: ps)]
theorem lens_tl : ∀ ys : List Str, ((ys.map TL.tl).map List.length).sum = (ys.map (·.length)).sum
  | [] => rfl
  | y :: ys => by
    rw [List.map_cons, List.map_cons, List.sum_cons, List.map_cons, List.sum_cons, lens_tl ys, TL.len_tl]
theorem tmJoin (hK : C.K = P.K) : L2.MtR C "str.join" (rM P mJoin) := mtW L2.mt_join fun x vs X Q ⟨r, h, a, ds, hr, ra, rs, e⟩ => by
  unfold mJoin at e
  split at e
  · rename_i s d
    obtain ⟨v, rfl, rv⟩ := rs.one
    cases ra with
    | str y =>
      split at e
      · rename_i xs ex
        split at e
        · rename_i ps eps
          split at e
          · rename_i hz
            obtain ⟨pp, us, rfl, q1, q2⟩ := seq_of hr rv ex
            obtain ⟨ys, rfl, rfl⟩ := strs_rv q1 eps
            refine ⟨y, pp, ys, rfl, rfl, by rw [hK]; exact q2, ?_, ?_⟩
            · rw [lens_tl, List.length_map] at hz
              have hz : (ys.map (·.length)).sum + ys.length * y.length ≤ LIM := hz
              unfold LIM at hz
              omega
            · have t : glue y.cps.toList (ys.map TL.tl) = (Txt.join y ys).cps.toList := by
                rw [glue_eq, TL.join_eq]
                exact (TL.tl_join y ys).symm
              rw [t] at e
              exact e r X (.str (Txt.join y ys)) .refl hr (.str _)
          · exact e.elim
        · exact e.elim
      · exact e.elim
  · exact e.elim
theorem xJoin (hK : C.K = P.K) (ho : PE C o (tE P w mo)) (he : PE C e (tE P w me)) (hbase : attributeBase o "join" C.env (eval o C.env) = eval o C.env := by rfl) (hline : (apos.endLine == cpos.line) = true := by rfl)
    (hs : starEach [e] C.env = (false, eval e C.env) :: starEach [] C.env := by rfl) : PE C (.Call (.Attribute o "join" apos) [e] [] cpos) (tE P w (eSm mJoin mo (aCons me aNil))) :=
  peW (L2.pe_bm PySem.F.plainAttrs_str PySem.F.slot_str_join PySem.F.type_str_join (tmJoin (P := P) hK) ho (xCons he xNil hs) hbase (by rw [hs]; rfl) hline hs rfl) fun σ X Q q => wSm q
end
end FL

end

section
set_option Elab.async false
set_option linter.all false
set_option maxRecDepth 100000
set_option maxHeartbeats 1000000
/-! Dict comprehensions, get, split, endswith. -/
namespace FL
open PySem
open L2 (V Hp HO VK XK St TE TT TA TS TG TGs TI Ends PE PT PW PA PS PSs PG PGs PI Cx Inv SqL SqT Rd upd upd_same upd_ne WX Room)
section
variable {C : Cx} {P : Pm} {w : WX} {X X1 : Hp} {r : List Addr} {h : H} {σ : St} {l : Loc}
theorem keyOf_inj {a b : Ky} (e : keyOf a = keyOf b) : a = b := by
  cases a <;> cases b <;> simp [keyOf] at e ⊢ <;> exact e
theorem key_rv {K : PySem.W.Frag} {d : D} {v : V} {k : Ky} (q : RV K X r d v) (e : keyD d = some k) : v = L2.kV (keyOf k) := by
  cases q with
  | int i => cases e; rfl
  | str x => cases e; rfl
  | _ => cases e
/-- the pairs on both sides -/
inductive Kvs (K : PySem.W.Frag) (X : Hp) (r : List Addr) : List (Ky × D) → List (L2.Key × V) → Prop
  | nil : Kvs K X r [] []
  | cons {k : Ky} {d : D} {v : V} {kvs : List (Ky × D)} {zs : List (L2.Key × V)} : RV K X r d v → Kvs K X r kvs zs → Kvs K X r ((k, d) :: kvs) ((keyOf k, v) :: zs)
theorem Kvs.of {K : PySem.W.Frag} : ∀ {kvs : List (Ky × D)} {vs : List V}, RVs K X r (kvs.map (·.2)) vs → Kvs K X r kvs ((kvs.map fun p => keyOf p.1).zip vs)
  | [], _, .nil => .nil
  | (k, d) :: kvs, _, .cons a b => .cons a (Kvs.of b)
theorem Kvs.to {K : PySem.W.Frag} {kvs : List (Ky × D)} {zs : List (L2.Key × V)} (q : Kvs K X r kvs zs) : ∃ vs, zs = (kvs.map fun p => keyOf p.1).zip vs ∧ RVs K X r (kvs.map (·.2)) vs := by
  induction q with
  | nil => exact ⟨[], rfl, .nil⟩
  | cons a _ ih =>
    obtain ⟨vs, e, q⟩ := ih
    exact ⟨_ :: vs, by rw [e]; rfl, .cons a q⟩
theorem Kvs.len {K : PySem.W.Frag} {kvs : List (Ky × D)} {zs : List (L2.Key × V)} (q : Kvs K X r kvs zs) : kvs.length = zs.length := by
  induction q with
  | nil => rfl
  | cons _ _ ih => rw [List.length_cons, List.length_cons, ih]
theorem kEq_dec (a b : Ky) : kEq a b = decide (keyOf a = keyOf b) := by
  rw [Bool.eq_iff_iff, kEq_iff, decide_eq_true_eq]
  exact ⟨fun e => e ▸ rfl, keyOf_inj⟩
theorem Kvs.any {K : PySem.W.Frag} {kvs : List (Ky × D)} {zs : List (L2.Key × V)} (q : Kvs K X r kvs zs) (k : Ky) : (kvs.any fun p => kEq p.1 k) = zs.any fun p => decide (p.1 = keyOf k) := by
  induction q with
  | nil => rfl
  | cons _ _ ih => rw [List.any_cons, List.any_cons, ih, kEq_dec]
theorem Kvs.get {K : PySem.W.Frag} {kvs : List (Ky × D)} {zs : List (L2.Key × V)} (q : Kvs K X r kvs zs) (k : Ky) : RV K X r ((dget kvs k).getD .non) ((L2.valV zs (keyOf k)).getD .non) := by
  induction q with
  | nil => exact .non
  | @cons k0 d v kvs zs a _ ih =>
    unfold dget
    by_cases e : kEq k0 k = true
    · rw [if_pos e, L2.valV_pos (p := (keyOf k0, v)) (by rw [kEq_iff.mp e])]
      exact a
    · rw [if_neg e, L2.valV_neg (p := (keyOf k0, v)) (fun z => e (kEq_iff.mpr (keyOf_inj z)))]
      exact ih
theorem Kvs.put {K : PySem.W.Frag} {kvs : List (Ky × D)} {zs : List (L2.Key × V)} (q : Kvs K X r kvs zs) (k : Ky) {d : D} {v : V} (a : RV K X r d v) : Kvs K X r (dput kvs k d) (L2.putK zs (keyOf k) v) := by
  unfold dput L2.putK
  rw [q.any k]
  by_cases e : (zs.any fun p => decide (p.1 = keyOf k)) = true
  · rw [if_pos e, if_pos e]
    clear e
    induction q with
    | nil => exact .nil
    | @cons k0 d0 v0 kvs zs b _ ih =>
      rw [List.map_cons, List.map_cons]
      by_cases e : kEq k0 k = true
      · rw [if_pos e, if_pos (by rw [kEq_iff.mp e])]
        exact .cons a ih
      · rw [if_neg e, if_neg (fun z => e (kEq_iff.mpr (keyOf_inj z)))]
        exact .cons b ih
  · rw [if_neg e, if_neg e]
    clear e
    induction q with
    | nil => exact .cons a .nil
    | cons b _ ih => exact .cons b ih
theorem Kvs.map {K : PySem.W.Frag} (t : ∀ a vs, SqT K X a vs → SqT K X1 a vs) (s : ∀ a vs, ScrAt K X a vs → ScrAt K X1 a vs) (f : ∀ (a : Addr) (o : Obj) (u : HO), X a = some (.frz o u) → X1 a = some (.frz o u)) {kvs : List (Ky × D)} {zs : List (L2.Key × V)} (q : Kvs K X r kvs zs) : Kvs K X1 r kvs zs := by
  induction q with
  | nil => exact .nil
  | cons a _ ih => exact .cons (a.map t s f) ih
theorem Kvs.mono {r' : List Addr} {K : PySem.W.Frag} (s : Stp r X r' X1) (o : Own r X) {kvs : List (Ky × D)} {zs : List (L2.Key × V)} (q : Kvs K X r kvs zs) : Kvs K X1 r' kvs zs := by
  induction q with
  | nil => exact .nil
  | cons a _ ih => exact .cons (a.mono s o) ih
theorem frz_updK {p a : Addr} {ws ws' : List (L2.Key × V)} {o : Obj} {u : HO} (hp : X p = some (.dK ws)) (q : X a = some (.frz o u)) : upd X p (.dK ws') a = some (.frz o u) := by rw [upd_ne (fun z => by rw [z, hp] at q; cases q)]; exact q
theorem sqT_updK {K : PySem.W.Frag} {p a : Addr} {ws ws' : List (L2.Key × V)} {vs : List V} (hp : X p = some (.dK ws)) (q : SqT K X a vs) : SqT K (upd X p (.dK ws')) a vs := by
  rcases q with (q | ⟨o, q⟩) | q
  · exact .inl (.inl (by rw [upd_ne (fun z => by rw [z, hp] at q; cases q)]; exact q))
  · exact .inl (.inr ⟨o, by rw [upd_ne (fun z => by rw [z, hp] at q; cases q)]; exact q⟩)
  · exact .inr q
theorem scr_updK {K : PySem.W.Frag} {p a : Addr} {ws ws' : List (L2.Key × V)} {vs : List V} (hp : X p = some (.dK ws)) (q : ScrAt K X a vs) : ScrAt K (upd X p (.dK ws')) a vs := by
  rcases q with ⟨o, q⟩ | q
  · exact .inl ⟨o, by rw [upd_ne (fun z => by rw [z, hp] at q; cases q)]; exact q⟩
  · exact .inr q
theorem HR.out_updK {p : Addr} {ws ws' : List (L2.Key × V)} (R : HR P r h X) (hp : X p = some (.dK ws)) (hn : p ∉ r) : HR P r h (upd X p (.dK ws')) := by
  refine ⟨R.len, R.nd, fun n c a e1 e2 => ?_⟩
  have ne : a ≠ p := fun z => hn (by rw [← z]; exact List.mem_of_getElem? e2)
  have q := R.cell n c a e1 e2
  have m : ∀ {ds vs}, RVs P.K X r ds vs → RVs P.K (upd X p (.dK ws')) r ds vs := fun q => q.map (fun _ _ => sqT_updK hp) (fun _ _ => scr_updK hp) (fun _ _ _ => frz_updK hp)
  cases c with
  | lst xs =>
    obtain ⟨vs, q1, q2⟩ := q
    exact ⟨vs, by rw [upd_ne ne]; exact q1, m q2⟩
  | dct kvs =>
    obtain ⟨vs, q1, q2⟩ := q
    exact ⟨vs, q1.upd ne, m q2⟩
  | ins c fs =>
    obtain ⟨dx, vs, q1, q2, q3, q4⟩ := q
    exact ⟨dx, vs, by rw [upd_ne ne]; exact q1, by rw [upd_ne (fun z => by rw [z, hp] at q2; cases q2)]; exact q2, m q3, q4⟩
  | tbl t =>
    obtain ⟨h0, ps, h1, h2, h3⟩ := q
    refine ⟨h0, ps, by rw [upd_ne ne]; exact h1, h2, fun pos cv hc => ?_⟩
    obtain ⟨c, e1, e2⟩ := h3 pos cv hc
    exact ⟨c, e1, by rw [upd_ne (fun z => by rw [z, hp] at e2; unfold LamX.CodeO at e2; cases e2)]; exact e2⟩
/-- the state of a dict comprehension behind some turns -/
structure DcSt (P : Pm) (r0 : List Addr) (X0 : Hp) (Dl : Addr) (r : List Addr) (h : H) (acc : List (Ky × D)) (X : Hp) : Prop where
  st : Stp r0 X0 r X
  hr : HR P r h X
  out : Dl ∉ r
  at_ : ∃ zs, X Dl = some (.dK zs) ∧ Kvs P.K X r acc zs
theorem DcSt.go {r0 : List Addr} {X0 : Hp} {Dl : Addr} {acc : List (Ky × D)} (L : DcSt P r0 X0 Dl r h acc X) {r' : List Addr} {X' : Hp} {h' : H} (s : Stp r X r' X') (hr : HR P r' h' X') : DcSt P r0 X0 Dl r' h' acc X' := by
  obtain ⟨ws, w1, w2⟩ := L.at_
  refine ⟨L.st.trans s, hr, fun hm => ?_, ws, s.kp _ _ w1 L.out (fun _ z => by cases z), w2.mono s L.hr.own⟩
  obtain ⟨_, z⟩ := s.new _ hm L.out _ w1
  cases z
theorem dc_turn {gL : TG} {g : G} {vs : List Nat} {ek ev : E} {d : D} {x : V} {acc acc' : List (Ky × D)} {h' : H} {r0 : List Addr} {X0 : Hp} {Dl : Addr} {Nx : Hp → Prop} (tg : TgOk P gL g vs) (L : DcSt P r0 X0 Dl r h acc X) (h0 : X0 Dl = none) (q : SL P.K X r l σ) (hd : RV P.K X r d x)
    (ez : dcTurn g ek ev l d acc h = .ok acc' h') (k : ∀ r' X', Stp r0 X0 r' X' → DcSt P r0 X0 Dl r' h' acc' X' → Nx X') :
    gL x σ X fun σ2 X2 => L2.wipe σ2 vs = L2.wipe σ vs ∧ tT P w0 tYes σ2 X2 fun b X3 => if b = true then tE P w0 ek σ2 X3 fun y X4 => tE P w0 ev σ2 X4 fun z X5 => ∃ kvs k, y = L2.kV k ∧ X5 Dl = some (.dK kvs) ∧ kvs.length < sizeLine ∧ Nx (upd X5 Dl (.dK (L2.putK kvs k z))) else Nx X3 := by
  unfold dcTurn at ez
  cases eg : g d l h with
  | none =>
    rw [eg] at ez
    cases ez
  | some z =>
    obtain ⟨l1, h1⟩ := z
    rw [eg] at ez
    have eh := tg.same _ _ _ _ _ eg
    subst eh
    refine tg.ok x σ X r h1 l d _ l1 h1 q hd eg fun σ' w1 s1 => ⟨w1, r, h1, l1, [], L.hr, s1, .nil, ?_⟩
    refine fun r2 X2 b' s2 hr2 eb => ?_
    obtain rfl : true = b' := eb
    have L2' := L.go s2 hr2
    rw [if_pos rfl]
    dsimp only at ez
    refine ⟨r2, h1, l1, [], hr2, s1.mono s2 L.hr.own, .nil, ?_⟩
    cases ek1 : ek l1 h1 with
    | ex _ _ _ =>
      rw [ek1] at ez
      cases ez
    | bad =>
      rw [ek1] at ez
      cases ez
    | ok y h2 =>
      rw [ek1] at ez
      show End relE P w0 r2 X2 σ' (ek l1 h1) _
      rw [ek1]
      dsimp only at ez
      refine fun r3 X3 yv s3 hr3 hy => ?_
      have L3 := L2'.go s3 hr3
      refine ⟨r3, h2, l1, [], hr3, (s1.mono s2 L.hr.own).mono s3 hr2.own, .nil, ?_⟩
      cases ev1 : ev l1 h2 with
      | ex _ _ _ =>
        rw [ev1] at ez
        cases ez
      | bad =>
        rw [ev1] at ez
        cases ez
      | ok z h3 =>
        rw [ev1] at ez
        show End relE P w0 r3 X3 σ' (ev l1 h2) _
        rw [ev1]
        dsimp only at ez
        cases ekd : keyD y with
        | none =>
          rw [ekd] at ez
          cases ez
        | some kk =>
          rw [ekd] at ez
          dsimp only at ez
          by_cases hz : acc.length < LIM
          · rw [if_pos hz] at ez
            cases ez
            refine fun r4 X4 v s4 hr4 hv => ?_
            have L4 := L3.go s4 hr4
            obtain ⟨ws, a1, a2⟩ := L4.at_
            have hy2 := key_rv hy ekd
            refine ⟨ws, keyOf kk, hy2, a1, limLt (by rw [← a2.len]; exact hz), ?_⟩
            have st := L4.st.late (o := .dK (L2.putK ws (keyOf kk) v)) h0
            exact k r4 _ st ⟨st, hr4.out_updK a1 L4.out, L4.out, _, upd_same, (a2.put kk hv).map (fun _ _ => sqT_updK a1) (fun _ _ => scr_updK a1) (fun _ _ _ => frz_updK a1)⟩
          · rw [if_neg hz] at ez
            cases ez
theorem DcSt.fin {r0 : List Addr} {X0 : Hp} {Dl : Addr} {acc : List (Ky × D)} {Q : VK} (L : DcSt P r0 X0 Dl r h acc X) (h0 : X0 Dl = none) (e : End relE P w r0 X0 σ (alloc (.dct acc) h) Q) : Q (.ref Dl) X := by
  obtain ⟨ws, a1, a2⟩ := L.at_
  obtain ⟨vs, rfl, a3⟩ := a2.to
  refine e (r ++ [Dl]) X (.ref Dl) ⟨?_, fun a h1 h2 => ?_, L.st.kp⟩ (L.hr.push L.out ⟨vs, .inl a1, a3.ext _⟩) (.ref L.hr.last)
  · obtain ⟨t, et⟩ := L.st.pre
    exact ⟨t ++ [Dl], by rw [et, List.append_assoc]⟩
  · rcases List.mem_append.mp h1 with z | z
    · exact L.st.new a z h2
    · intro u e
      rw [List.mem_singleton.mp z, h0] at e
      cases e
theorem wDc {m : W} {gL : TG} {g : G} {ek ev : E} {vs : List Nat} {σ : St} {X : Hp} {Q : VK} (tg : TgOk P gL g vs) (q : tE P w (eDc m g ek ev vs) σ X Q) : L2.tDc (tW P w m) gL (tT P w0 tYes) (tE P w0 ek) (tE P w0 ev) vs σ X Q := by
  obtain ⟨r, h, l, ds, a1, a2, a3, a4⟩ := q
  refine ⟨r, h, l, ds, a1, a2, a3, End.mono (fun J X1 ⟨r1, h1, it, st, b1, b2, b3⟩ => fun Dl hD => ?_) (End.bind (R0 := relW) a4)⟩
  have sl := (a2.mono st a1.own).wipe vs
  have L0 : DcSt P r1 X1 Dl r1 h1 [] (upd X1 Dl (.dK [])) := ⟨Stp.fresh hD, b1.fresh hD, b1.out hD, [], upd_same, .nil⟩
  have slot : ∀ {r' X'}, Stp r1 X1 r' X' → SL P.K X' r' (wipe l vs) (L2.wipe σ vs) := fun s => sl.mono s b1.own
  cases it with
  | snap xs =>
    refine ⟨fun i m X' => m = xs.length - i ∧ i ≤ xs.length ∧ ∃ r' h' acc, DcSt P r1 X1 Dl r' h' acc X' ∧ End relE P w r1 X1 σ ((dcS g ek ev (wipe l vs) (xs.drop i) acc h').bind fun acc h2 => alloc (.dct acc) h2) Q, ⟨xs.length, by omega, Nat.zero_le _, r1, h1, [], L0, b3⟩, ?_⟩
    rintro i m X' ⟨rfl, hi, r', h', acc, L, c4⟩
    have Y := b2 r' X' h' L.st L.hr i
    by_cases hlt : i < xs.length
    · obtain ⟨Yg, Yy⟩ := Y.1 xs[i] (List.getElem?_eq_getElem hlt)
      refine .inr ⟨Yg, fun X2 => (i + 1) ≤ xs.length ∧ ∃ r' h' acc, DcSt P r1 X1 Dl r' h' acc X2 ∧ End relE P w r1 X1 σ ((dcS g ek ev (wipe l vs) (xs.drop (i + 1)) acc h').bind fun acc h2 => alloc (.dct acc) h2) Q, fun X2 q => ⟨xs.length - (i + 1), by omega, rfl, q⟩, fun x X'' hy => ?_⟩
      obtain ⟨s2, hr2, hx⟩ := Yy x X'' hy
      have L' := L.go s2 hr2
      rw [List.drop_eq_getElem_cons hlt] at c4
      have c5 : End relE P w r1 X1 σ ((match dcTurn g ek ev (wipe l vs) xs[i] acc h' with
        | .ok acc' h' => dcS g ek ev (wipe l vs) (xs.drop (i + 1)) acc' h'
        | _ => .bad).bind fun acc h2 => alloc (.dct acc) h2) Q := c4
      cases ez : dcTurn g ek ev (wipe l vs) xs[i] acc h' with
      | ex _ _ _ =>
        rw [ez] at c5
        exact c5.elim
      | bad =>
        rw [ez] at c5
        exact c5.elim
      | ok acc' h2 =>
        rw [ez] at c5
        have z := dc_turn (Nx := fun X2 => (i + 1) ≤ xs.length ∧ ∃ r' h' acc, DcSt P r1 X1 Dl r' h' acc X2 ∧ End relE P w r1 X1 σ ((dcS g ek ev (wipe l vs) (xs.drop (i + 1)) acc h').bind fun acc h2 => alloc (.dct acc) h2) Q) tg L' hD (slot L'.st) hx ez fun r2 X2 s3 L2 => ⟨hlt, r2, h2, acc', L2, c5⟩
        rw [wipe_wipe σ vs vs fun _ h => h] at z
        exact z
    · have ei : i = xs.length := by omega
      subst ei
      rw [List.drop_length] at c4
      exact .inl ⟨Y.2 (List.getElem?_eq_none (Nat.le_refl _)), L.fin hD c4⟩
  | live n => exact b3.elim
  | dyn u k => exact b3.elim
theorem xDc {kx vx tg iter : Expr} {scope : Scope} {own : List (Str × Nat)} {pos : Pos} {m : W} {gL : TG} {g : G} {ek ev : E} (hc : C.calm = true) (hN : C.N.Nodup) (hi : PI C tg iter (tW P w m)) (ok : L2.BlkOk C.N C.env.scope scope own) (tk : TgOk P gL g (own.map (·.2)))
    (hg : Blk C scope fun C' => PG C' tg gL) (ht : Blk C scope fun C' => L2.PTs C' [] (tT P w0 tYes)) (hk : Blk C scope fun C' => PE C' kx (tE P w0 ek)) (he : Blk C scope fun C' => PE C' vx (tE P w0 ev)) (hs : ∀ x, foldedSetIterable iter C.env x = pure x := by intro _; rfl) :
    PE C (.DictComp kx vx [⟨tg, iter, [], 0⟩] scope pos) (tE P w (eDc m g ek ev (own.map (·.2)))) :=
  peW (L2.pe_dc hc hN hi ok hg ht hk he hs) fun σ X Q q => wDc tk q
theorem xGet {o e : Expr} {mo me : E} {apos cpos : Pos} (hu : C.A.units + 64 < cLine) (ho : PE C o (tE P w mo)) (he : PE C e (tE P w me)) (m : L2.M1 C o "get" apos e cpos) : PE C (.Call (.Attribute o "get" apos) [e] [] cpos) (tE P w (eGet mo me)) :=
  peW (L2.pe_dget1 (by omega) ho he m) fun σ X Q q => by
    obtain ⟨r, h, l, ds, a1, a2, a3, a4⟩ := bindE (R := relE) (m := mo) (k := fun x _ l h1 => match x with
      | .ref n => (match h1[n]? with
        | some (.dct _) => (me l h1).bind fun y h2 => (match keyD y, h2[n]? with
          | some k, some (.dct kvs) => .ok ((dget kvs k).getD .non) h2
          | _, _ => .bad)
        | _ => .bad)
      | _ => .bad) q
    refine ⟨r, h, l, ds, a1, a2, a3, End.mono (fun x X1 q => ?_) a4⟩
    obtain ⟨r, h, l, ds, a1, a2, a3, a4⟩ := q
    cases a3 with
    | @cons d _ _ _ b1 b2 =>
      cases b2
      cases b1 with
      | @ref n a en =>
        dsimp only at a4
        split at a4
        · rename_i kvs0 ek0
          obtain ⟨vs0, c1, c2⟩ := a1.cell n _ a ek0 en
          refine ⟨a, rfl, .inl ⟨_, c1⟩, r, h, l, [], a1, a2, .nil, End.mono (fun y X2 ⟨r2, h2, yd, s2, d1, d2, d3⟩ => ?_) (End.bind (R0 := relE) a4)⟩
          have d2 : RV P.K X2 r2 yd y := d2
          split at d3
          · rename_i k kvs e1 e2
            have en2 : r2[n]? = some a := by
              obtain ⟨t, et⟩ := s2.pre
              rw [et, List.getElem?_append_left (List.getElem?_eq_some_iff.mp en).1, en]
            obtain ⟨vs, c3, c4⟩ := d1.cell n _ a e2 en2
            obtain rfl := key_rv d2 e1
            exact ⟨_, .inl ⟨_, _, c3, rfl, rfl⟩, d3 r2 X2 _ .refl d1 ((Kvs.of c4).get k)⟩
          · exact d3.elim
        · exact a4.elim
      | non => exact a4.elim
      | bl _ => exact a4.elim
      | int _ => exact a4.elim
      | str _ => exact a4.elim
      | tup _ _ => exact a4.elim
      | scr _ => exact a4.elim
      | gls _ => exact a4.elim
      | ftup _ _ _ _ => exact a4.elim
end
end FL

end

section
set_option Elab.async false
set_option linter.all false
set_option maxRecDepth 100000
set_option maxHeartbeats 1000000
/-! split, endswith. -/
namespace FL
open PySem
open L2 (V Hp HO VK XK St TE TT TA TS TG TGs TI Ends PE PT PW PA PS PSs PG PGs PI Cx Inv SqL SqT Rd upd upd_same upd_ne WX Room)
section
variable {C : Cx} {P : Pm} {w : WX} {X : Hp} {r : List Addr} {h : H}
instance : CalmM mSplit := ⟨fun o a h c fs h' e => by
  unfold mSplit at e
  repeat' (split at e)
  all_goals first | cases e | (unfold alloc at e; cases e)⟩
instance : CalmM mEnds := ⟨fun o a h c fs h' e => by
  unfold mEnds at e
  repeat' (split at e)
  all_goals cases e⟩
theorem split1_ne (c : Nat) : ∀ s : List Nat, ∃ p ps, split1 c s = p :: ps
  | [] => ⟨[], [], rfl⟩
  | x :: xs => by
    obtain ⟨p, ps, e⟩ := split1_ne c xs
    unfold split1
    by_cases hx : x = c
    · rw [if_pos hx]
      exact ⟨_, _, rfl⟩
    · rw [if_neg hx, e]
      exact ⟨_, _, rfl⟩
theorem spl_one (c : Nat) : ∀ (s acc : List Nat) (p : List Nat) (ps : List (List Nat)), split1 c s = p :: ps → TL.spl [c] 0 acc s = (acc ++ p) :: ps
  | [], acc, p, ps, e => by
    cases e
    rw [TL.spl_nil, List.append_nil]
  | x :: xs, acc, p, ps, e => by
    obtain ⟨q, qs, eq⟩ := split1_ne c xs
    unfold split1 at e
    by_cases hx : x = c
    · subst hx
      rw [if_pos rfl] at e
      cases e
      rw [TL.spl_hit (by simp [TL.pre])]
      show acc :: TL.spl [x] 0 [] xs = _
      rw [spl_one x xs [] q qs eq, List.append_nil, List.nil_append, eq]
    · rw [if_neg hx, eq] at e
      have e1 : x :: q = p := (List.cons.inj e).1
      have e2 : qs = ps := (List.cons.inj e).2
      rw [← e1, ← e2, TL.spl_miss (by simp [TL.pre, hx]), spl_one c xs (acc ++ [x]) q qs eq, List.append_assoc]
      rfl
theorem str_rv {K : PySem.W.Frag} {s : List Nat} {v : V} (q : RV K X r (.str s) v) : ∃ y : Str, v = .str y ∧ TL.tl y = s := by
  generalize hd : D.str s = d at q
  cases q <;> cases hd
  exact ⟨_, rfl, rfl⟩
theorem strs_new {K : PySem.W.Frag} : ∀ {ys : List Str} {ps : List (List Nat)}, ys.map TL.tl = ps → RVs K X r (ps.map .str) (ys.map V.str)
  | [], _, e => by
    subst e
    exact .nil
  | y :: ys, _, e => by
    subst e
    exact .cons (.str y) (strs_new rfl)
theorem tmSplit : L2.MtR C "str.split" (rM P mSplit) := mtW L2.mt_split fun x vs X Q ⟨r, h, a, ds, hr, ra, rs, e⟩ => by
  unfold mSplit at e
  split at e
  · rename_i s c
    obtain ⟨v, rfl, rv⟩ := rs.one
    split at e
    · rename_i hz
      obtain ⟨y, rfl, ey⟩ := str_rv ra
      obtain ⟨b, rfl, eb⟩ := str_rv rv
      have bl : b.length = 1 := by rw [TL.len_tl, eb]; rfl
      refine ⟨y, b, rfl, rfl, by rw [bl]; rfl, lim (by rw [TL.len_tl, ey]; exact hz.1), fun p hp => ?_⟩
      have hk : ¬ Builtin.Str.strKind y < Builtin.Str.strKind b := TL.kind_ok (by
        rw [Array.all_eq_true_iff_forall_mem]
        intro z hz2
        have : z ∈ TL.tl b := by simpa [TL.tl] using hz2
        rw [eb] at this
        simp at this
        simp
        omega)
      have e1 := TL.split_spl y b (by rw [eb]; simp) hk
      obtain ⟨q, qs, eq⟩ := split1_ne c s
      rw [eb, ey, spl_one c s [] q qs eq, List.nil_append, ← eq] at e1
      exact e _ _ _ (Stp.new' hp) (hr.newL hp (strs_new e1)) (.ref hr.last)
    · exact e.elim
  · exact e.elim
theorem tmEnds : L2.MtR C "str.endswith" (rM P mEnds) := mtW L2.mt_endswith fun x vs X Q ⟨r, h, a, ds, hr, ra, rs, e⟩ => by
  unfold mEnds at e
  split at e
  · rename_i s c
    obtain ⟨v, rfl, rv⟩ := rs.one
    obtain ⟨y, rfl, ey⟩ := str_rv ra
    obtain ⟨b, rfl, eb⟩ := str_rv rv
    have bl : b.length = 1 := by rw [TL.len_tl, eb]; rfl
    have yl : y.length = s.length := by rw [TL.len_tl, ey]
    have t : Txt.endswith y b = decide (s.getLast? = some c) := by
      unfold Txt.endswith
      rw [StrLaws.subAt_eq, bl, yl]
      have ey2 : y.cps.toList = s := ey
      have eb2 : b.cps.toList = [c] := eb
      rw [ey2, eb2]
      rcases s.eq_nil_or_concat with rfl | ⟨s', z, rfl⟩
      · rfl
      · simp
        rw [Bool.eq_iff_iff]
        simp
    refine ⟨y, b, rfl, rfl, ?_⟩
    rw [t]
    exact e r X (.bl _) .refl hr (.bl _)
  · exact e.elim
variable {o e : Expr} {mo me : E} {apos cpos : Pos}
theorem xSplit (ho : PE C o (tE P w mo)) (he : PE C e (tE P w me)) (hbase : attributeBase o "split" C.env (eval o C.env) = eval o C.env := by rfl) (hline : (apos.endLine == cpos.line) = true := by rfl)
    (hs : starEach [e] C.env = (false, eval e C.env) :: starEach [] C.env := by rfl) : PE C (.Call (.Attribute o "split" apos) [e] [] cpos) (tE P w (eSm mSplit mo (aCons me aNil))) :=
  peW (L2.pe_bm PySem.F.plainAttrs_str PySem.F.slot_str_split PySem.F.type_str_split (tmSplit (P := P)) ho (xCons he xNil hs) hbase (by rw [hs]; rfl) hline hs rfl) fun σ X Q q => wSm q
theorem xEnds (ho : PE C o (tE P w mo)) (he : PE C e (tE P w me)) (hbase : attributeBase o "endswith" C.env (eval o C.env) = eval o C.env := by rfl) (hline : (apos.endLine == cpos.line) = true := by rfl)
    (hs : starEach [e] C.env = (false, eval e C.env) :: starEach [] C.env := by rfl) : PE C (.Call (.Attribute o "endswith" apos) [e] [] cpos) (tE P w (eSm mEnds mo (aCons me aNil))) :=
  peW (L2.pe_bm PySem.F.plainAttrs_str PySem.F.slot_str_endswith PySem.F.type_str_endswith (tmEnds (P := P)) ho (xCons he xNil hs) hbase (by rw [hs]; rfl) hline hs rfl) fun σ X Q q => wSm q
end
end FL

end

section
set_option Elab.async false
set_option linter.all false
set_option maxRecDepth 100000
set_option maxHeartbeats 1000000
/-! Classes held in names; class methods at the head; a dict comprehension that is stored. -/
namespace FL
open PySem
open L2 (V Hp HO VK XK St TE TT TA TS TG TGs TI Ends PE PT PW PA PS PSs PG PGs PI Cx Inv SqL SqT Rd upd upd_same upd_ne WX Room)
section
variable {g : Bool} {C : Cx} {P : Pm} {w : WX} {k j n c : Nat} {f : Addr} {x m : Str} {p p2 pos apos : Pos} {e o fe : Expr} {es : List Expr} {mas : A} {mo me mv : E} {fm : F}
theorem xMkW (B : Bd g C w k) (M : MkAt C P j c fm) (hj : j + 1 ≤ k) (hv : PE C (.Name x p) (tE P w mv)) (ha : PA C (e :: es) (tA P w mas))
    (he : starEach (e :: es) C.env = (false, eval e C.env) :: starEach es C.env := by rfl) (hpl : (backTo pos (starEach es C.env)).any (·.1) = false := by rfl) : PE C (.Call (.Name x p) (e :: es) [] pos) (tE P w (eMkW (P.ca c) c fm mv mas)) := by
  refine ⟨fun pins s σ X Q I h => ?_⟩
  obtain ⟨f, F, M1⟩ := id M.ex
  refine wpAny_Call_Name_kw (L2.thn (hv.run pins s σ X _ I (bindE (R := relE) (m := mv) (k := fun y (_ : List D) l h1 => match y with
    | .gls a => if a = P.ca c then (mas l h1).bind fun xs h2 => mkObj c fm xs h2 else .bad
    | _ => .bad) h)) fun u s1 ⟨v, X1, I1, ru, q⟩ => ?_)
  obtain ⟨r, h, l, ds, a1, a2, a3, a4⟩ := q
  cases a3 with
  | @cons d _ _ _ b1 b2 =>
    cases b2
    cases b1 with
    | non => exact a4.elim
    | bl _ => exact a4.elim
    | int _ => exact a4.elim
    | str _ => exact a4.elim
    | tup _ _ => exact a4.elim
    | scr _ => exact a4.elim
    | ref _ => exact a4.elim
    | ftup _ _ _ _ => exact a4.elim
    | gls a =>
      dsimp only at a4
      by_cases ha2 : a = P.ca c
      · rw [if_pos ha2] at a4
        subst ha2
        obtain rfl : u = Value.ref (P.ca c) := ru
        refine PySem.W.callWith_K (h₀ := C.base) I1.ok.mod.kin M1.kp (L2.thn (ha.run pos pins s1 σ X1 _ I1 (bindA (R := relE) (vs := []) (m := mas) (k := fun xs _ l h => mkObj c fm xs h) ⟨r, h, l, [], a1, a2, .nil, a4⟩)) fun us s2 ⟨vs, X2, I2, rv, q⟩ => ⟨I2.kIn, ?_⟩) he hpl
        obtain ⟨r, h, l, xs, ds, a1, a2, a3, a5, a4⟩ := q
        exact runMk B M hj I2 rv a1 a3 a4
      · rw [if_neg ha2] at a4
        exact a4.elim
end
section
variable {C : Cx} {P : Pm} {w : WX}
theorem ySetDc {i : Nat} {nm : Str} {pn : Pos} {kx vx tg iter : Expr} {scope : Scope} {own : List (Str × Nat)} {qpos spos : Pos} {m : W} {gL : TG} {g : G} {ek ev : E} (hc : C.calm = true) (hN : C.N.Nodup) (hy : C.N[i]? = some nm) (hyl : C.env.scope.names.lookup nm = some .local)
    (hsw : swapsWith (.DictComp kx vx [⟨tg, iter, [], 0⟩] scope qpos) (some (.Name nm pn)) spos.line C.env = pure true) (hi : PI C tg iter (tW P w m)) (ok : L2.BlkOk C.N C.env.scope scope own) (tk : TgOk P gL g (own.map (·.2)))
    (hg : Blk C scope fun C' => PG C' tg gL) (ht : Blk C scope fun C' => L2.PTs C' [] (tT P w0 tYes)) (hk : Blk C scope fun C' => PE C' kx (tE P w0 ek)) (he : Blk C scope fun C' => PE C' vx (tE P w0 ev)) (hs : ∀ x, foldedSetIterable iter C.env x = pure x := by intro _; rfl) :
    PS C (.Assign [.Name nm pn] (.DictComp kx vx [⟨tg, iter, [], 0⟩] scope qpos) spos) (tS P w (sAsg (eDc m g ek ev (own.map (·.2))) (gName i))) := by
  refine ⟨fun pins s σ X D I q => ?_⟩
  rw [exec_Assign_Name_used _ _ _ _ hsw]
  refine wpAny_bind (wpAny_standAt (wpAny_bind ?_))
  have q1 : L2.tDc (tW P w m) gL (tT P w0 tYes) (tE P w0 ek) (tE P w0 ev) (own.map (·.2)) σ X (fun v X1 => D.nx (σ.set i (some v)) X1) := by
    obtain ⟨r, h, l, a1, a2, a3⟩ := q
    have z := EndS.ofRes (R := relE) a1 a2 a3
    exact wDc (w := w) tk ⟨r, h, l, [], a1, a2, .nil, End.mono (fun v X1 ⟨r1, h1, d, s, b1, b2, b3, b4⟩ => b4 r1 X1 _ .refl b1 (b2.set i b3)) z⟩
  show wpAny _ C.A (do let _ ← comprehension (.DictComp kx vx [⟨tg, iter, [], 0⟩] scope qpos) scope C.env (firstIterPos [⟨tg, iter, [], 0⟩] qpos) newDict false (eval iter C.env) (some (assign (.Name nm pn) C.env))) _ _ s
  refine wpAny_bind (L2.thn (L2.dc_core (Qf := fun _ s' => L2.SP C pins D .next s') hc hN I hi ok hg ht hk he hs q1 fun Da Ca s' m' X' I' q hn fo => ?_) fun _ s' hq => wpAny_pure (wpAny_pure hq))
  refine wpAny_assign_Name (L2.store_ok2 (v := V.ref Da) I' hN hy (.inl hyl) rfl (fun s2 I2 ⟨a, sb, ha⟩ => ?_) (.inr hyl))
  obtain ⟨f0, f1, f2, f3, f4, f5⟩ := fo
  have ne : Ca ≠ a := ha.elim (fun z => by rw [z]; exact f1) fun z e => f4 nm a z e.symm
  exact ⟨m', hn.sameBut sb ne, fun h3 sb3 => ⟨_, X', I2.turned (t' := s2.toks) (fun b o hb e => (sb3.2 b hb).trans e) f0 f1 f3 f4 f5, q⟩⟩
end
end FL

end

section
set_option Elab.async false
set_option linter.all false
set_option maxRecDepth 100000
set_option maxHeartbeats 1000000
/-! isinstance of an own class. -/
namespace FL
open PySem
open L2 (V Hp HO VK XK St TE TT TA TS TG TGs TI Ends PE PT PW PA PS PSs PG PGs PI Cx Inv SqL SqT Rd upd upd_same upd_ne WX Room)
def kinds : List String := ["NoneType", "bool", "int", "str", "tuple", "list", "dict"]
/-- the class at A is what isinstance asks for -/
def IsiOk (K : PySem.W.Frag) (A : Addr) : Prop := PySem.W.kitOne K (.ref A) (.ref A) = some true ∧ ∀ T ∈ kinds, PySem.W.kitOne K (.type T) (.ref A) = some false
def isiB (x : Str) (K : PySem.W.Frag) : Bool := decide (PySem.W.kitOne K (.ref (He.ga K x)) (.ref (He.ga K x)) = some true) && (kinds.all fun T => decide (PySem.W.kitOne K (.type T) (.ref (He.ga K x)) = some false))
theorem isiB_ok {x : Str} {K : PySem.W.Frag} (h : isiB x K = true) : IsiOk K (He.ga K x) := by
  obtain ⟨h1, h2⟩ := He.ba h
  exact ⟨of_decide_eq_true h1, fun T hT => of_decide_eq_true (List.all_eq_true.mp h2 T hT)⟩
section
variable {C : Cx} {P : Pm} {w : WX} {X : Hp} {r : List Addr} {h : H}
theorem isC_ok (hK : C.K = P.K) (R : HR P r h X) {d : D} {v : V} {c : Nat} {b : Bool} {hh : H} (io : IsiOk P.K (P.ca c)) (q : RV P.K X r d v) (e : vIsC c d h = .ok (.bl b) hh) : hh = h ∧ ∃ u, L2.TyX C.K X v u ∧ PySem.W.kitOne C.K u (.ref (P.ca c)) = some b := by
  have nk : ∀ T, T ∈ kinds → PySem.W.kitOne C.K (.type T) (.ref (P.ca c)) = some false := fun T hT => by rw [hK]; exact io.2 T hT
  cases q with
  | non => cases e; exact ⟨rfl, _, .base .non, nk _ (by decide)⟩
  | bl x => cases e; exact ⟨rfl, _, .base (.bl x), nk _ (by decide)⟩
  | int i => cases e; exact ⟨rfl, _, .base (.int i), nk _ (by decide)⟩
  | str x => cases e; exact ⟨rfl, _, .base (.str x), nk _ (by decide)⟩
  | tup q1 q2 =>
    cases e
    refine ⟨rfl, .type "tuple", ?_, nk _ (by decide)⟩
    rcases q1 with (q1 | ⟨o, q1⟩) | ⟨o, its, n, k1, k2, _⟩
    · exact .base (.tup q1)
    · exact .fTuple q1
    · rw [← hK] at k1
      exact .kTuple k1 k2
  | scr q1 =>
    cases e
    refine ⟨rfl, .type "list", ?_, nk _ (by decide)⟩
    rcases q1 with ⟨o, q1⟩ | (q1 | ⟨o, q1⟩) | ⟨o, its, n, k1, k2, _⟩
    · exact .base (.frz q1)
    · cases q1
    · cases q1
    · rw [← hK] at k1
      exact .kList k1 k2
  | gls _ => cases e
  | ftup _ _ _ _ => cases e
  | @ref n p q1 =>
    unfold vIsC at e
    dsimp only at e
    cases hc : h[n]? with
    | none => rw [hc] at e; cases e
    | some cl =>
      rw [hc] at e
      have q := R.cell n cl p hc q1
      cases cl with
      | lst xs =>
        cases e
        obtain ⟨vs, q2, _⟩ := q
        exact ⟨rfl, _, .base (.lst q2), nk _ (by decide)⟩
      | dct kvs =>
        cases e
        obtain ⟨vs, q2, _⟩ := q
        exact ⟨rfl, .type "dict", q2.elim (fun z => .base (.dK z)) (fun ⟨_, z⟩ => .fDict z), nk _ (by decide)⟩
      | tbl _ => cases e
      | ins c' fs =>
        dsimp only at e
        by_cases ec : c' = c
        · rw [if_pos ec] at e
          cases e
          subst ec
          obtain ⟨dx, vs, q2, _, _, I⟩ := q
          rw [← hK] at I
          exact ⟨rfl, _, .base (.ins q2 I.cl I.ha I.hn I.ht I.hm), by rw [hK]; exact io.1⟩
        · rw [if_neg ec] at e
          cases e
theorem xIsC {a : Expr} {ma : E} {c : Nat} {x : Str} {p p2 pos : Pos} (hK : C.K = P.K) (io : IsiOk P.K (P.ca c)) (ha : PE C a (tE P w ma)) (hg : L2.Gl C "isinstance") (hm : C.mg "isinstance" = none) (hx : PE C (.Name x p2) (L2.tC (.ref (P.ca c))))
    (h1 : starEach [a, .Name x p2] C.env = (false, eval a C.env) :: starEach [.Name x p2] C.env := by rfl) (h2 : starEach [.Name x p2] C.env = (false, eval (.Name x p2) C.env) :: starEach [] C.env := by rfl)
    (hpl : (backTo pos (starEach [.Name x p2] C.env)).any (·.1) = false := by rfl) : PE C (.Call (.Name "isinstance" p) [a, .Name x p2] [] pos) (tE P w (eUn (vIsC c) ma)) :=
  peW (L2.pe_callB L2.call_isi hg hm (by decide +kernel) (L2.pa_cons ha (L2.pa_cons hx L2.pa_nil h2) h1) (by decide) (by decide) h1 hpl) fun σ X Q e => by
    obtain ⟨r, h, l, ds, a1, a2, a3, a4⟩ := bindE (R := relE) (m := ma) (k := fun x _ l h => vIsC c x h) e
    refine ⟨r, h, l, ds, a1, a2, a3, End.mono (fun v X1 q => ?_) a4⟩
    obtain ⟨r, h, l, ds, a1, a2, a3, a4⟩ := q
    cases a3 with
    | cons b1 b2 =>
      cases b2
      rename_i d
      have a4 : End relE P w r X1 σ (vIsC c d h) Q := a4
      have bl : ∀ z, vIsC c d h = z → (∃ b hh, z = .ok (.bl b) hh) ∨ z = .bad := fun z ez => by
        unfold vIsC at ez
        repeat' (split at ez)
        all_goals first | exact .inl ⟨_, _, ez.symm⟩ | exact .inr ez.symm
      rcases bl _ rfl with ⟨b, hh, eb⟩ | eb
      · obtain ⟨rfl, u, u1, u2⟩ := isC_ok hK a1 io b1 eb
        rw [eb] at a4
        exact ⟨v, .ref (P.ca c), u, _, b, rfl, .own _, u1, u2, a4 r X1 _ .refl a1 (.bl _)⟩
      · rw [eb] at a4
        exact a4.elim
end
end FL

end

section
set_option Elab.async false
set_option linter.all false
set_option maxRecDepth 100000
set_option maxHeartbeats 1000000
/-! while, x += e, stars in lists. -/
namespace FL
open PySem
open L2 (V Hp HO VK XK St TE TT TA TS TG TGs TI Ends PE PT PW PA PS PSs PG PGs PI Cx Inv SqL SqT Rd upd upd_same upd_ne WX Room)
section
variable {C : Cx} {P : Pm} {w : WX} {e c : Expr} {body : List Stmt} {pos pos' : Pos} {mt : T} {s : S} {me : E} {es : List Expr} {mas : A} {p : Pos}
theorem yWhile (hp : PassesOwn (model C.prog C.w) C.A C.env C.xe) (ht : PT C c (tT P w mt)) (hb : PSs C body (tS P w s)) : PS C (.While c body [] pos) (tS P w (sWhile mt s)) := psW (L2.ps_while hp ht hb) fun D σ X ⟨r, h, l, a1, a2, a3⟩ => by
  refine ⟨fun m σ' X' => ∃ r' h' l', HR P r' h' X' ∧ SL P.K X' r' l' σ' ∧ EndS P w r' X' (whileF mt s m l' h') D, ⟨5000, r, h, l, a1, a2, a3⟩, ?_⟩
  rintro m σ' X' ⟨r', h', l', c1, c2, c3⟩
  cases m with
  | zero => exact c3.elim
  | succ f =>
    have z := EndS.ofRes (R := relT) c1 c2 c3
    refine ⟨r', h', l', [], c1, c2, .nil, End.mono (fun b X1 ⟨r1, h1, d, s0, b1, b2, b3, b4⟩ => ?_) z⟩
    obtain rfl : d = b := b3
    cases d with
    | false => exact b4 r1 X1 σ' .refl b1 b2
    | true =>
      rw [if_pos rfl]
      refine ⟨fun σ2 X2 => ∃ r' h' l', HR P r' h' X2 ∧ SL P.K X2 r' l' σ2 ∧ EndS P w r' X2 (whileF mt s f l' h') D, fun σ2 X2 q => ⟨f, Nat.lt_succ_self _, q⟩, r1, h1, l', b1, b2, ?_⟩
      rw [if_pos rfl] at b4
      revert b4
      cases s l' h1 with
      | nx l2 h2 => exact fun e r3 X3 σ3 s3 hr3 hl3 => ⟨r3, h2, l2, hr3, hl3, EndS.step s3 e⟩
      | ct l2 h2 => exact fun e r3 X3 σ3 s3 hr3 hl3 => ⟨r3, h2, l2, hr3, hl3, EndS.step s3 e⟩
      | bk l2 h2 => exact fun e => e
      | rt d h2 => exact fun e => e
      | ex c fs l2 h2 => exact fun e => e
      | bad => exact fun e => e
/-- in place, on whole numbers -/
class Plain2 (f : D → D → H → Res D) (g : Int → Int → Int) : Prop where
  ok : ∀ a b h, (∃ i j, a = .int i ∧ b = .int j ∧ f a b h = .ok (.int (g i j)) h) ∨ f a b h = .bad
instance : Plain2 vPlus (fun i j => i + j) := ⟨fun a b h => by
  unfold vPlus
  split
  · exact .inl ⟨_, _, rfl, rfl, rfl⟩
  · exact .inr rfl⟩
instance : Plain2 vMinus (fun i j => i - j) := ⟨fun a b h => by
  unfold vMinus
  split
  · exact .inl ⟨_, _, rfl, rfl, rfl⟩
  · exact .inr rfl⟩
theorem yAug {i : Nat} {x : Str} {op : Operator} {f : D → D → H → Res D} {g : Int → Int → Int} [pl : Plain2 f g] (hN : C.N.Nodup) (hi : C.N[i]? = some x) (hx : L2.Loc C.env.scope x) (ho : L2.PIp C op (L2.ipI g)) (he : PE C e (tE P w me))
    (hf : C.fn x = true ∨ C.env.scope.names.lookup x = some .local := by first | exact Or.inl rfl | exact Or.inr rfl) : PS C (.AugAssign (.Name x pos') op e pos) (tS P w (sAug i f me)) := psW (L2.ps_aug hN hi hx he ho hf) fun D σ X ⟨r, h, l, a1, a2, a3⟩ => by
  unfold sAug at a3
  cases hl : l[i]? with
  | none =>
    rw [hl] at a3
    exact a3.elim
  | some o =>
    cases o with
    | none =>
      rw [hl] at a3
      exact a3.elim
    | some d =>
      rw [hl] at a3
      obtain ⟨v, e1, e2⟩ := a2.2 i d hl
      have z := EndS.ofRes (R := relE) a1 a2 a3
      refine ⟨v, e1, r, h, l, [], a1, a2, .nil, End.mono (fun y X1 ⟨r1, h1, dy, s0, b1, b2, b3, b4⟩ => ?_) z⟩
      have b3 : RV P.K X1 r1 dy y := b3
      rcases pl.ok d dy h1 with ⟨a, b, rfl, rfl, ef⟩ | ef
      · rw [ef] at b4
        cases e2
        cases b3
        exact ⟨a, b, rfl, rfl, b4 r1 X1 _ .refl b1 (b2.set i (.int _))⟩
      · rw [ef] at b4
        exact b4.elim
theorem xStarQ (hK : C.K = P.K) (he : PE C e (tE P w me)) (hr : PA C es (tA P w mas)) (hs : starEach (.Starred e p :: es) C.env = (true, eval e C.env) :: starEach es C.env := by rfl) : PA C (.Starred e p :: es) (tA P w (aStarQ me mas)) :=
  paW (StX.pa_star he hr hs) fun σ X Q q => by
    obtain ⟨r, h, l, ds, a1, a2, a3, a4⟩ := bindE (R := relA) (m := me) (k := fun x _ l h1 => match seqOf x h1 with
      | some xs => (mas l h1).bind fun ys h2 => .ok (xs ++ ys) h2
      | none => .bad) q
    refine ⟨r, h, l, ds, a1, a2, a3, End.mono (fun x X1 q => ?_) a4⟩
    obtain ⟨r, h, l, ds, a1, a2, a3, a4⟩ := q
    cases a3 with
    | @cons d _ _ _ b1 b2 =>
      cases b2
      dsimp only at a4
      cases e1 : seqOf d h with
      | none =>
        rw [e1] at a4
        exact a4.elim
      | some xs =>
        rw [e1] at a4
        obtain ⟨pp, vs, rfl, rv, hs⟩ := seq_of a1 b1 e1
        refine ⟨pp, vs, rfl, by rw [hK]; exact hs.symm, r, h, l, [], a1, a2, .nil, End.mono (fun ys X2 ⟨r2, h2, zs, s2, c1, c2, c3⟩ => ?_) (End.bind (R0 := relA) a4)⟩
        exact c3 r2 X2 _ .refl c1 (RVs.append (rv.mono s2 a1.own) c2)
end
end FL

end

section
set_option Elab.async false
set_option linter.all false
set_option maxRecDepth 100000
set_option maxHeartbeats 4000000
/-! A tuple repeated, also once and not at all. -/
namespace FL
open PySem PySem.Spec PyProof.Rows
open L2 (V Hp HO VK XK St Cx Inv SqL SqT upd upd_same upd_ne WX)
theorem tm_one (at' : Addr) (its : Array Value) (m : Nat) (dx : Option Addr) (sl : Array (Option Value)) (tk : Tok) (ne : its.isEmpty = false) :
    Meets (Builtin.«tuple.__mul__» ⟨[.ref at', .int 1 tk], []⟩) (fun _ R s => s.heap.get? at' = some { cls := .type "tuple", dict := dx, data := .seq its m, slots := sl } ∧ R (.ok (.ret (Value.ref at'))) s) :=
  .of_wp fun prog w A R s h => by
    obtain ⟨hp, g, d, tk2, os⟩ := s
    obtain ⟨hl, h⟩ := h
    have f1 := AutoSeq1.idx_int
    have c0 : (decide ((1 : Int) < -(2 ^ 63)) || decide ((1 : Int) ≥ 2 ^ 63)) = false := by decide
    have c1 : (its.isEmpty || (1 : Int) == 1) = true := by rw [ne]; rfl
    wp_walk using wpAny_loadPart' hl
    repeat (first
      | (refine wpAny_ite_false (decide_eq_false (by rw [c0]; exact Bool.false_ne_true)) ?_; wp_walk using wpAny_loadPart' hl)
      | (refine wpAny_ite_true (decide_eq_true c1) ?_; wp_walk using wpAny_loadPart' hl))
    exact ⟨_, rfl, h⟩
theorem tm_none (at' : Addr) (its : Array Value) (m : Nat) (dx : Option Addr) (sl : Array (Option Value)) (tk : Tok) (ne : its.isEmpty = false) :
    Meets (Builtin.«tuple.__mul__» ⟨[.ref at', .int 0 tk], []⟩) (fun _ R s => s.heap.get? at' = some { cls := .type "tuple", dict := dx, data := .seq its m, slots := sl } ∧
      R (.ok (.ret (Value.ref s.heap.objs.size))) { s with heap := s.heap.push { cls := Value.type "tuple", data := Data.seq #[] }, toks := s.toks }) :=
  .of_wp fun prog w A R s h => by
    obtain ⟨hp, g, d, tk2, os⟩ := s
    obtain ⟨hl, h⟩ := h
    have f1 := AutoSeq1.idx_int
    have c0 : (decide ((0 : Int) < -(2 ^ 63)) || decide ((0 : Int) ≥ 2 ^ 63)) = false := by decide
    have c1 : (its.isEmpty || (0 : Int) == 1) = false := by rw [ne]; rfl
    have c2 : (decide ((0 : Int) ≤ 0) || its.isEmpty) = true := by rw [ne]; rfl
    wp_walk using wpAny_loadPart' hl
    repeat (first
      | (refine wpAny_ite_false (decide_eq_false (by rw [c0]; exact Bool.false_ne_true)) ?_; wp_walk using wpAny_loadPart' hl)
      | (refine wpAny_ite_false (decide_eq_false (by rw [c1]; exact Bool.false_ne_true)) ?_; wp_walk using wpAny_loadPart' hl)
      | (refine wpAny_ite_true (decide_eq_true c2) ?_; wp_walk using wpAny_loadPart' hl))
    exact ⟨_, rfl, h⟩
section
variable {C : Cx} {P : Pm} {X : Hp} {r : List Addr} {h : H}
/-- the tuple at a, nought or one times -/
def rFew (K : PySem.W.Frag) : L2.R2 := fun x y X Q => ∃ a k xs, x = .ref a ∧ y = .int k ∧ SqT K X a xs ∧ xs ≠ [] ∧ ((k = 1 ∧ Q (.ref a) X) ∨ (k = 0 ∧ ∀ p, X p = none → Q (.ref p) (upd X p (.tup []))))
theorem op_few : L2.OpR C (binaryOp .Mult) (rFew C.K) := by
  intro pins s σ X x y v u Q I rx ry ⟨a, k, xs, ex, ey, hT, hne, q⟩
  subst ex ey
  obtain rfl : v = Value.ref a := rx
  obtain ⟨tk, rfl⟩ := ry
  obtain ⟨its, rv, ⟨⟨cl, dx, dat, sl⟩, ho, hc, m, hd⟩, hs⟩ := I.tuple hT
  simp only at hc hd
  subst hc hd
  have ne : its.toArray.isEmpty = false := by
    cases its with
    | nil => exact absurd (List.eq_nil_of_length_eq_zero rv.length) hne
    | cons b bs => rfl
  rcases q with ⟨rfl, q⟩ | ⟨rfl, q⟩
  · refine wpAny_binaryOp_repeat_ref (T := "tuple") (U := "int") (by decide) ⟨_, ho, rfl⟩ (fun s' => typeIs_int s' 1 tk) L2.noFill_tuple_mul F.fills_int_mul F.slot_int_rmul L2.repeat_tuple F.slot_int_index.lookup
      (call_meets F.slot_int_rmul (typeIs_int s 1 tk) F.entry_int_rmul (F.args_int_rmul_2 _ _) (L2.int_rmul_tuple 1 tk a its.toArray m dx sl)
        ⟨ho, rfl, ⟨_, ho, rfl⟩, call_meets F.slot_tuple_mul ⟨_, ho, rfl⟩ F.entry_tuple_mul (F.args_tuple_mul_2 _ _) (tm_one a its.toArray m dx sl tk ne) ⟨ho, ?_⟩⟩)
    exact ⟨.ref a, X, I, rfl, q⟩
  · refine wpAny_binaryOp_repeat_ref (T := "tuple") (U := "int") (by decide) ⟨_, ho, rfl⟩ (fun s' => typeIs_int s' 0 tk) L2.noFill_tuple_mul F.fills_int_mul F.slot_int_rmul L2.repeat_tuple F.slot_int_index.lookup
      (call_meets F.slot_int_rmul (typeIs_int s 0 tk) F.entry_int_rmul (F.args_int_rmul_2 _ _) (L2.int_rmul_tuple 0 tk a its.toArray m dx sl)
        ⟨ho, rfl, ⟨_, ho, rfl⟩, call_meets F.slot_tuple_mul ⟨_, ho, rfl⟩ F.entry_tuple_mul (F.args_tuple_mul_2 _ _) (tm_none a its.toArray m dx sl tk ne) ⟨ho, ?_⟩⟩)
    refine ⟨.ref s.heap.objs.size, _, I.laid (t' := s.toks) (o := .tup []) (fun b ob q => Heap.get?_push_of_some _ q) (Nat.le_refl _) ?_, rfl, q _ (I.hok.fresh (Nat.le_refl _))⟩
    exact ⟨Nat.zero_le _, [], .nil, IsTup.new _ _⟩
instance : Calm2 vRep := ⟨fun a b h c fs h' e => by
  unfold vRep at e
  repeat' (split at e)
  all_goals cases e⟩
theorem rep_flat {K : PySem.W.Frag} {ds : List D} {vs : List V} (q : RVs K X r ds vs) : ∀ n : Nat, RVs K X r (List.replicate n ds).flatten (List.replicate n vs).flatten
  | 0 => .nil
  | n + 1 => by
    rw [List.replicate_succ, List.replicate_succ, List.flatten_cons, List.flatten_cons]
    exact RVs.append q (rep_flat q n)
theorem oRep (hK : C.K = P.K) : L2.OpR C (binaryOp .Mult) (r2 P vRep) := opW (op_few.or L2.op_repT) fun x y X Q ⟨r, h, a, b, hr, ra, rb, e⟩ => by
  unfold vRep at e
  split at e
  · rename_i xs k
    split at e
    · rename_i c
      cases ra with
      | @tup p vs _ q1 q2 =>
        cases rb
        have nv : vs ≠ [] := fun z => by
          rw [z] at q2
          cases q2
          exact c.1 rfl
        have lv := q2.length
        by_cases k1 : k = 1
        · subst k1
          have e' : xs = (List.replicate (1 : Int).toNat xs).flatten := by simp
          rw [← e'] at e
          exact .inl ⟨p, 1, vs, rfl, rfl, by rw [hK]; exact q1, nv, .inl ⟨rfl, e r X (.ref p) .refl hr (.tup q1 q2)⟩⟩
        · by_cases k0 : k = 0
          · subst k0
            refine .inl ⟨p, 0, vs, rfl, rfl, by rw [hK]; exact q1, nv, .inr ⟨rfl, fun t ht => ?_⟩⟩
            exact e r _ (.ref t) (Stp.fresh ht) (hr.fresh ht) (RV.newT hr ht .nil)
          · refine .inr ⟨p, k, vs, rfl, rfl, by rw [hK]; exact q1, nv, by omega, c.2.2.2.1, by omega, fun t ht => ?_⟩
            exact e r _ (.ref t) (Stp.fresh ht) (hr.fresh ht) (RV.newT hr ht (rep_flat q2 _))
    · exact e.elim
  · exact e.elim
end
end FL

end

section
set_option linter.all false
/-! enumerate and zip: on values. -/
namespace FL
def enumG : Nat → List D → List D
  | _, [] => []
  | i, x :: xs => .tup [.int (i : Nat), x] :: enumG (i + 1) xs
def zipG : List D → List D → List D
  | x :: xs, y :: ys => .tup [x, y] :: zipG xs ys
  | _, _ => []
def lstAt (n : Nat) (h : H) : Option (List D) := match h[n]? with
  | some (.lst xs) => some xs
  | _ => none
def enumAt (n : Nat) (h : H) : Option (List D) := (lstAt n h).map (enumG 0)
def zipAt (n m : Nat) (h : H) : Option (List D) := (lstAt n h).bind fun xs => (lstAt m h).map fun ys => zipG xs ys
/-- enumerate(e) -/
def wEnum (a : A) : W := fun l h => (a l h).bind fun ds h1 => match ds with
  | [.tup xs] => .ok (.snap (enumG 0 xs)) h1
  | [.ref n] => (match h1[n]? with
    | some (.lst xs) => .ok (.dyn (enumAt n) (xs.length + 1)) h1
    | _ => .bad)
  | _ => .bad
/-- zip of two lists -/
def wZip (a : A) : W := fun l h => (a l h).bind fun ds h1 => match ds with
  | [.ref n, .ref m] => (match h1[n]?, h1[m]? with
    | some (.lst xs), some (.lst _) => .ok (.dyn (zipAt n m) (xs.length + 1)) h1
    | _, _ => .bad)
  | _ => .bad
theorem enumG_at : ∀ (xs : List D) (i k : Nat), (enumG i xs)[k]? = xs[k]?.map fun x => .tup [.int ((i + k : Nat) : Nat), x]
  | [], i, k => by simp [enumG]
  | x :: xs, i, 0 => by simp [enumG]
  | x :: xs, i, k + 1 => by
    show (enumG (i + 1) xs)[k]? = _
    rw [enumG_at xs (i + 1) k, show i + 1 + k = i + (k + 1) by omega]
    rfl
theorem zipG_at : ∀ (xs ys : List D) (k : Nat), (zipG xs ys)[k]? = match xs[k]?, ys[k]? with
    | some x, some y => some (.tup [x, y])
    | _, _ => none
  | [], ys, k => by simp [zipG]
  | x :: xs, [], k => by
    simp only [zipG, List.getElem?_nil]
    cases (x :: xs)[k]? <;> rfl
  | x :: xs, y :: ys, 0 => by simp [zipG]
  | x :: xs, y :: ys, k + 1 => by
    show (zipG xs ys)[k]? = _
    rw [zipG_at xs ys k]
    rfl
end FL

end

section
set_option Elab.async false
set_option linter.all false
set_option maxRecDepth 100000
set_option maxHeartbeats 1000000
/-! enumerate over a tuple that stands, over a list; zip of two lists. -/
namespace FL
open PySem PySem.Spec PyProof.Rows
open L2 (V Hp HO VK XK St TE TT TA TS TG TGs TI Ends PE PT PW PA PS PSs PG PGs PI Cx Inv SqL SqT Rd upd upd_same upd_ne WX FpOk RelV ObjOk Turn)

/-- the walk's own object -/
def enOb (a : Addr) : Obj := { cls := .type "enumerate", data := .fields #[.none, .bool false, .ref a, rawInt 0, .none, .none] }
theorem enNew {v : Value} {ob : Obj} {St : Heap → Prop} (B : Begins v ob St) :
    Meets (Builtin.«enumerate.__new__» ⟨[.type "enumerate", v], []⟩) fun _ G z => St z.heap ∧ G (.ok (.ret (.ref (z.heap.push ob).objs.size))) { z with heap := (z.heap.push ob).push (enOb z.heap.objs.size) } :=
  .of_wp fun pr wd Ar G z ⟨hs, hg⟩ => by
    obtain ⟨hp, ge, dr, tk, os⟩ := z
    have sb := sub_enumerate
    have go : ∀ {A' : Around} {E : Value → Shared → Prop} {Q : Value → Shared → Prop}, Q (.ref hp.objs.size) ⟨hp.push ob, ge, dr, tk, os⟩ → wpAny (model pr wd) A' (pyIter v) Q E ⟨hp, ge, dr, tk, os⟩ := fun q => B.iter pr wd _ _ ⟨hp, ge, dr, tk, os⟩ _ hs q
    wp_walk using go
    refine wpAny_stack_any fun _ => wpAny_pure ?_
    split
    · rename_i kl _ _ _ _ _
      cases (kl == Value.type "enumerate") <;> (wp_walk using go; exact ⟨_, rfl, hg⟩)
    · wp_walk using go
      exact ⟨_, rfl, hg⟩
theorem enCall {pr : Program} {wd : World} {Ar : Around} {E : Value → Shared → Prop} {z : Shared} {v : Value} {ob : Obj} {St : Heap → Prop} {Q : Value → Shared → Prop} (B : Begins v ob St) (hs : St z.heap)
    (k : ∀ h', IsEnum h' (z.heap.objs.size + 1) z.heap.objs.size 0 .none → h'.get? z.heap.objs.size = some ob → (∀ b u, z.heap.get? b = some u → h'.get? b = some u) → Q (.ref (z.heap.objs.size + 1)) { z with heap := h' }) :
    wpAny (model pr wd) Ar (call (.type "enumerate") [v]) Q E z := by
  have hz : (z.heap.push ob).objs.size = z.heap.objs.size + 1 := Heap.size_push ..
  have he : IsEnum ((z.heap.push ob).push (enOb z.heap.objs.size)) (z.heap.objs.size + 1) z.heap.objs.size 0 .none := by
    have q := Heap.get?_push_size (z.heap.push ob) (o := enOb z.heap.objs.size) rfl
    rw [hz] at q
    exact q
  refine callType_new F.called_enumerate (by decide) (F.typeCall_enumerate_1 _) (F.newCall_enumerate_1 _) (fun u => F.args_object_init_2 u _) F.entry_enumerate_new (enNew B) ⟨hs, ?_⟩
  show _ ∧ _
  rw [hz]
  exact ⟨⟨_, he, rfl⟩, k _ he (Heap.get?_push_of_some _ (Heap.get?_push_size _ B.free)) fun b u e => Heap.get?_push_of_some _ (Heap.get?_push_of_some _ e)⟩
/-- the tuple at a, each item in a new pair -/
def ItE (K : PySem.W.Frag) (a : Addr) : L2.It :=
  ⟨fun i X => ∃ (vs : List V) (v : V), SqT K X a vs ∧ vs[i]? = some v,
    fun i X v X' => ∃ p u, v = .ref p ∧ X p = none ∧ X' = upd X p (.tup [.int (i : Nat), u]) ∧ ∀ vs, SqT K X a vs → vs[i]? = some u,
    fun i X => ∃ vs : List V, SqT K X a vs ∧ vs.length ≤ i⟩
theorem turnE {pr : Program} {wd : World} {K : PySem.W.Frag} {elts : List Expr} {kk : Nat} {tpos : Pos} (a e it : Addr) :
    Turn pr wd K (.Tuple elts kk tpos) (ItE K a) [e, it] e fun i h => (∃ old, IsEnum h e it ((i : Nat) : Int) old) ∧ h.IsTupleIter it a i where
  mem := List.mem_cons_self
  obj := fun i h ⟨⟨old, he⟩, o, ho, hc, hd⟩ b hb => by
    rcases List.mem_cons.mp hb with z | z
    · rw [z]
      exact ⟨_, he, fun v q => nomatch q⟩
    · rw [List.mem_singleton.mp z]
      exact ⟨o, ho, fun v q => by rw [hd] at q; cases q⟩
  keep := fun i h h' ⟨⟨old, he⟩, hi⟩ k => ⟨⟨old, k e List.mem_cons_self _ he⟩, hi.at fun o q => k it (by simp) o q⟩
  item := by
    intro X hP hw hK hc i pins s σ H E I hf st hg
    subst hP hw hK
    obtain ⟨⟨old, he⟩, hit⟩ := st
    obtain ⟨vs, x, hq, hx⟩ := hg
    obtain ⟨its, rv, p, hz⟩ := I.tuple hq
    have p' : s.heap.IsTuple a its.toArray := p
    obtain ⟨u, hu, ru⟩ := rv.get hx
    have hu' : its.toArray[i]? = some u := by simpa using hu
    have lt : i < its.toArray.size := (Array.getElem?_eq_some_iff.mp hu').1
    have el : e < s.heap.objs.size := Heap.lt_size he
    have il : it < s.heap.objs.size := by obtain ⟨_, q, _⟩ := hit; exact Heap.lt_size q
    have ne1 : e ≠ it := fun z => by
      obtain ⟨o, ho, c, _⟩ := hit
      rw [← z, he] at ho
      cases ho
      exact absurd (Value.type.inj c) (by decide)
    have ne2 : a ≠ it := fun z => by
      obtain ⟨o, ho, c, _⟩ := hit
      obtain ⟨o2, ho2, c2, _⟩ := p'
      rw [z, ho] at ho2
      cases ho2
      rw [c] at c2
      exact absurd (Value.type.inj c2) (by decide)
    have ne3 : e ≠ a := fun z => by
      obtain ⟨o2, ho2, c2, _⟩ := p'
      rw [← z, he] at ho2
      cases ho2
      exact absurd (Value.type.inj c2) (by decide)
    have D := Draws.tuple (prog := X.prog) (w := X.w) (A := X.A.in1) (I.ok.hd hc) it a ne2 its.toArray
    refine wpAny_pyNext_enum_itemD D he ⟨hit, p'⟩ lt ne1 (by simp [ne1, ne3]) fun y h' tk hP ho hs' hT hsz hk => ?_
    have hP : its.toArray[i]? = some y := hP
    rw [hu'] at hP
    cases hP
    refine ⟨_, rfl, wpAny_letOwnedTupleGo_enum (s := { s with heap := h', toks := tk + 1 }) ho fun h2 he2 sb => ?_⟩
    have hT2 : h2.get? s.heap.objs.size = some { cls := .type "tuple", data := .seq #[.int i tk, u] } := (sb.2 _ (Nat.ne_of_gt el)).trans hT
    have nw : ObjOk X.prog X.w (upd H s.heap.objs.size (.tup [.int (i : Nat), x])) h2 s.heap.objs.size (.tup [.int (i : Nat), x]) := ⟨by show 2 ≤ sizeLine; decide, [.int i tk, u], .cons ⟨_, rfl⟩ (.cons ru .nil), ⟨_, hT2, rfl, _, rfl⟩⟩
    have I1 : Inv X pins σ (upd H s.heap.objs.size (.tup [.int (i : Nat), x])) { s with heap := h2, toks := tk + 1 } := I.turnedNew (ch := [e, it]) (fun b o hb q => (sb.2 b fun z => hb (by simp [z])).trans (hk b o (fun z => hb (by simp [z])) (fun z => hb (by simp [z])) q)) hf (Nat.le_refl _) nw
    refine ⟨.ref s.heap.objs.size, _, I1, rfl, ⟨_, x, rfl, I.hok.fresh (Nat.le_refl _), rfl, fun ys hy => by rw [I.tuple_inj hy hq]; exact hx⟩, ⟨⟨u, ?_⟩, hs'.1.at fun o q => (sb.2 it (Ne.symm ne1)).trans q⟩, fun b hb => ?_⟩
    · rw [show ((i + 1 : Nat) : Int) = (i : Int) + 1 by omega]
      exact he2
    · have lb : b < s.heap.objs.size := by
        rcases List.mem_cons.mp hb with z | z
        · rw [z]; exact el
        · rw [List.mem_singleton.mp z]; exact il
      rw [upd_ne (Nat.ne_of_lt lb)]
      exact (hf b hb).1
  done := by
    intro X hP hw hK hc i pins s σ H E I hf st hg
    subst hP hw hK
    obtain ⟨⟨old, he⟩, hit⟩ := st
    obtain ⟨vs, hq, hx⟩ := hg
    obtain ⟨its, rv, p, hz⟩ := I.tuple hq
    have p' : s.heap.IsTuple a its.toArray := p
    have hl := rv.length
    obtain ⟨f0, f1, f2, f3, f4, f5⟩ := hf it (by simp)
    have hT : s.TypeIs (.ref e) "enumerate" := ⟨_, he, rfl⟩
    unfold pyNext
    refine wpAny_bind (wpAny_attempt (wpAny_callSpecial?_slot (name := Str.ofString "__next__") hT F.slot_enumerate_next (wpAny_call_entry F.slot_enumerate_next hT F.entry_enumerate_next ?_ (F.args_enumerate_next_1 _))))
    show wpAny _ _ (field (.ref e) 2 >>= _) _ _ _
    refine wpAny_bind (wpAny_field he rfl (x := .ref it) rfl ?_)
    refine wpAny_bind (wpAny_nextOf_tuple_end (I.ok.hd hc) hit p' (by simp; omega) fun h' y eb hy => ?_)
    obtain ⟨o, ho, co⟩ := hy
    exact wpAny_bind (wpAny_isInstance (T := "StopIteration") (b := true) ⟨o, ho, co⟩ isSubtype_stop (wpAny_pure ⟨rfl, I.turned (t' := s.toks) (fun b o hb q => eb b o hb q) f0 f1 f3 f4 f5⟩))
  self := fun Ar i s Q E ⟨⟨_, he⟩, _⟩ q => wpAny_pyIter_enum he q
section
variable {C : Cx} {P : Pm} {w : WX} {a b : Expr} {pos : Pos} {mas : A}
theorem piEnR {tl : TA} {p tpos : Pos} {elts : List Expr} {kk : Nat} (hg : L2.Gl C "enumerate") (hm : C.mg "enumerate" = none) (ha : PA C [a] tl) (hs : starEach [a] C.env = [(false, eval a C.env)] := by rfl) :
    PI C (.Tuple elts kk tpos) (.Call (.Name "enumerate" p) [a] [] pos) fun σ X R => tl σ X fun vs X1 => ∃ at', vs = [.ref at'] ∧ ((∃ xs, SqL C.K X1 at' xs) ∧ R (L2.Ite C.K at') X1 ∨ (∃ xs, SqT C.K X1 at' xs) ∧ R (ItE C.K at') X1) := by
  refine ⟨fun pins s σ X R I h => PyProof.Rows.Call_ (L2.ld_blt I hg hm boot_enumerate (callWith_type1 (L2.thn (ha.run pos pins s σ X _ I h) fun us s1 q => ?_) hs rfl))⟩
  obtain ⟨vs, X1, I1, r1, at', ex, q1⟩ := q
  subst ex
  cases r1 with
  | cons r rr =>
    cases rr
    cases r
    have fp : ∀ b ∈ [s1.heap.objs.size + 1, s1.heap.objs.size], FpOk C pins X1 b := fun b hb => by
      have le : s1.heap.objs.size ≤ b := by
        rcases List.mem_cons.mp hb with z | z
        · rw [z]; exact Nat.le_add_right _ _
        · rw [List.mem_singleton.mp z]; exact Nat.le_refl _
      exact I1.fpOk le (I1.hok.fresh le)
    rcases q1 with ⟨⟨xs, hq⟩, q⟩ | ⟨⟨xs, hq⟩, q⟩
    · obtain ⟨its, rv, p', hz⟩ := I1.list hq
      exact call_enumerate_list p'.isList fun h' he hit hsz hk => wpAny_pyIter_enum he ⟨_, _, _, _, X1, rfl, I1.kept (t' := s1.toks) hk, L2.turn_enum at' (s1.heap.objs.size + 1) s1.heap.objs.size, ⟨⟨.none, he⟩, hit, Nat.succ_ne_self _⟩, fp, q⟩
    · obtain ⟨its, rv, p', hz⟩ := I1.tuple hq
      have p2 : s1.heap.IsTuple at' its.toArray := p'
      exact enCall (begins_tuple at' its.toArray) p2 fun h' he hit hk => wpAny_pyIter_enum he ⟨_, _, _, _, X1, rfl, I1.kept (t' := s1.toks) hk, turnE at' (s1.heap.objs.size + 1) s1.heap.objs.size, ⟨⟨.none, he⟩, _, hit, rfl, rfl⟩, fp, q⟩
theorem two_new {r' : List Addr} {X' : Hp} {h' : H} {p : Addr} {d1 d2 : D} {v1 v2 : V} (hr : HR P r' h' X') (hp : X' p = none) (q1 : RV P.K X' r' d1 v1) (q2 : RV P.K X' r' d2 v2) : Stp r' X' r' (upd X' p (.tup [v1, v2])) ∧ HR P r' h' (upd X' p (.tup [v1, v2])) ∧ RV P.K (upd X' p (.tup [v1, v2])) r' (.tup [d1, d2]) (.ref p) :=
  have s : Stp r' X' r' (upd X' p (.tup [v1, v2])) := Stp.fresh hp
  ⟨s, hr.fresh hp, .tup (.inl (.inl upd_same)) (.cons (q1.mono s hr.own) (.cons (q2.mono s hr.own) .nil))⟩
theorem yl_enT {r' : List Addr} {X' : Hp} {h' : H} {at' : Addr} {vs : List V} {ds : List D} (q : SqT P.K X' at' vs) (qs : RVs P.K X' r' ds vs) (hr : HR P r' h' X') : Yields P (ItE P.K at') (enumG 0 ds) r' X' h' := fun i => by
  rw [enumG_at]
  refine ⟨fun d hd => ?_, fun hd => ⟨vs, q, qs.none_of (Option.map_eq_none_iff.mp hd)⟩⟩
  obtain ⟨x, hx, rfl⟩ := Option.map_eq_some_iff.mp hd
  obtain ⟨v, e1, e2⟩ := qs.get hx
  refine ⟨⟨vs, v, q, e1⟩, fun y X'' ⟨p, u, ey, hp, eX, hu⟩ => ?_⟩
  subst ey eX
  have e3 : some v = some u := e1.symm.trans (hu vs q)
  cases e3
  rw [show 0 + i = i by omega]
  exact two_new hr hp (.int _) e2
theorem yl_enL {r' : List Addr} {X' : Hp} {h' : H} {at' : Addr} {vs : List V} {ds : List D} (q : SqL P.K X' at' vs) (qs : RVs P.K X' r' ds vs) (hr : HR P r' h' X') : Yields P (L2.Ite P.K at') (enumG 0 ds) r' X' h' := fun i => by
  rw [enumG_at]
  refine ⟨fun d hd => ?_, fun hd => ⟨vs, q, qs.none_of (Option.map_eq_none_iff.mp hd)⟩⟩
  obtain ⟨x, hx, rfl⟩ := Option.map_eq_some_iff.mp hd
  obtain ⟨v, e1, e2⟩ := qs.get hx
  refine ⟨⟨vs, v, q, e1⟩, fun y X'' ⟨p, u, ey, hp, eX, hu⟩ => ?_⟩
  subst ey eX
  have e3 : some v = some u := e1.symm.trans (hu vs q)
  cases e3
  rw [show 0 + i = i by omega]
  exact two_new hr hp (.int _) e2
theorem yl_zip {r' : List Addr} {X' : Hp} {h' : H} {a1 a2 : Addr} {vs us : List V} {ds es : List D} (q : SqL P.K X' a1 vs) (q2 : SqL P.K X' a2 us) (qs : RVs P.K X' r' ds vs) (qs2 : RVs P.K X' r' es us) (hr : HR P r' h' X') : Yields P (L2.Itz P.K a1 a2) (zipG ds es) r' X' h' := fun i => by
  have ez := zipG_at ds es i
  cases h1 : ds[i]? with
  | none =>
    have e0 : (zipG ds es)[i]? = none := by
      rw [ez, h1]
    rw [e0]
    exact ⟨fun d hd => (Option.some_ne_none d hd.symm).elim, fun _ => ⟨vs, us, q, q2, .inl (qs.none_of h1)⟩⟩
  | some x =>
    cases h2 : es[i]? with
    | none =>
      have e0 : (zipG ds es)[i]? = none := by rw [ez, h1, h2]
      rw [e0]
      exact ⟨fun d hd => (Option.some_ne_none d hd.symm).elim, fun _ => ⟨vs, us, q, q2, .inr (qs2.none_of h2)⟩⟩
    | some y =>
      have e0 : (zipG ds es)[i]? = some (.tup [x, y]) := by rw [ez, h1, h2]
      rw [e0]
      refine ⟨fun d hd => ?_, fun hd => (Option.some_ne_none _ hd).elim⟩
      cases hd
      obtain ⟨v, e1, e2⟩ := qs.get h1
      obtain ⟨v', e1', e2'⟩ := qs2.get h2
      refine ⟨⟨vs, us, v, v', q, q2, e1, e1'⟩, fun z X'' ⟨p, u, u', ey, hp, eX, hu, hu'⟩ => ?_⟩
      subst ey eX
      have e3 : some v = some u := e1.symm.trans (hu vs q)
      have e4 : some v' = some u' := e1'.symm.trans (hu' us q2)
      cases e3
      cases e4
      exact two_new hr hp e2 e2'
theorem at_of {r r' : List Addr} {X X' : Hp} {n : Nat} {a' : Addr} (s : Stp r X r' X') (e : r[n]? = some a') : r'[n]? = some a' := by
  obtain ⟨t, et⟩ := s.pre
  rw [et, List.getElem?_append_left (List.getElem?_eq_some_iff.mp e).1]
  exact e
theorem lstAt_some {n : Nat} {h : H} {xs : List D} (e : lstAt n h = some xs) : h[n]? = some (.lst xs) := by
  unfold lstAt at e
  split at e
  · rename_i ys hy
    cases e
    exact hy
  · cases e
theorem piEnum {p tpos : Pos} {elts : List Expr} {kk : Nat} (hK : C.K = P.K) (hg : L2.Gl C "enumerate") (hm : C.mg "enumerate" = none) (ha : PA C [a] (tA P w mas)) (hs : starEach [a] C.env = [(false, eval a C.env)] := by rfl) :
    PI C (.Tuple elts kk tpos) (.Call (.Name "enumerate" p) [a] [] pos) (tW P w (wEnum mas)) :=
  piW (piEnR hg hm ha hs) fun σ X Q e => by
    obtain ⟨r, h, l, ds, a1, a2, a3, a4⟩ := bindA (R := relW) (m := mas) (k := fun ds _ l h1 => match ds with
      | [.tup xs] => .ok (.snap (enumG 0 xs)) h1
      | [.ref n] => (match h1[n]? with
        | some (.lst xs) => .ok (.dyn (enumAt n) (xs.length + 1)) h1
        | _ => .bad)
      | _ => .bad) e
    refine ⟨r, h, l, ds, a1, a2, a3, End.mono (fun vs X1 q => ?_) a4⟩
    obtain ⟨r, h, l, ys, ds, a1, a2, a3, a5, a4⟩ := q
    rw [hK]
    cases a3 with
    | nil => exact (show False from a4).elim
    | cons b1 b2 =>
      cases b2 with
      | cons _ _ => cases b1 <;> exact (show False from a4).elim
      | nil =>
        cases b1 with
        | @tup at' vs ds q1 q2 => exact ⟨at', rfl, .inr ⟨⟨vs, q1⟩, a4 r X1 _ .refl a1 fun r' X' h' s hr => yl_enT (s.sqT a1.own q1) (q2.mono s a1.own) hr⟩⟩
        | @ref n at' q1 =>
          have a4 : End relW P w r X1 σ (match h[n]? with
            | some (.lst xs) => .ok (.dyn (enumAt n) (xs.length + 1)) h
            | _ => .bad) Q := a4
          cases hc : h[n]? with
          | none =>
            rw [hc] at a4
            exact a4.elim
          | some c =>
            cases c with
            | dct _ =>
              rw [hc] at a4
              exact a4.elim
            | ins _ _ =>
              rw [hc] at a4
              exact a4.elim
            | tbl _ =>
              rw [hc] at a4
              exact a4.elim
            | lst xs =>
              rw [hc] at a4
              obtain ⟨vs, z1, z2⟩ := a1.lst hc q1
              refine ⟨at', rfl, .inl ⟨⟨vs, .inl (.inl z1)⟩, a4 r X1 _ .refl a1 fun r' X' h' ys s hr hn => ?_⟩⟩
              obtain ⟨zs, ez, rfl⟩ := Option.map_eq_some_iff.mp hn
              obtain ⟨vs', z1', z2'⟩ := hr.lst (lstAt_some ez) (at_of s q1)
              exact yl_enL (.inl (.inl z1')) z2' hr
        | _ => exact (show False from a4).elim
theorem piZip {p tpos : Pos} {elts : List Expr} {kk : Nat} (hK : C.K = P.K) (hg : L2.Gl C "zip") (hm : C.mg "zip" = none) (ha : PA C [a, b] (tA P w mas)) (hs : starEach [a, b] C.env = (false, eval a C.env) :: starEach [b] C.env := by rfl) (hpl : (backTo pos (starEach [b] C.env)).any (·.1) = false := by rfl) :
    PI C (.Tuple elts kk tpos) (.Call (.Name "zip" p) [a, b] [] pos) (tW P w (wZip mas)) :=
  piW (L2.pi_zip hg hm ha hs hpl) fun σ X Q e => by
    obtain ⟨r, h, l, ds, a1, a2, a3, a4⟩ := bindA (R := relW) (m := mas) (k := fun ds _ l h1 => match ds with
      | [.ref n, .ref m] => (match h1[n]?, h1[m]? with
        | some (.lst xs), some (.lst _) => .ok (.dyn (zipAt n m) (xs.length + 1)) h1
        | _, _ => .bad)
      | _ => .bad) e
    refine ⟨r, h, l, ds, a1, a2, a3, End.mono (fun vs X1 q => ?_) a4⟩
    obtain ⟨r, h, l, ys, ds, a1, a2, a3, a5, a4⟩ := q
    rw [hK]
    cases a3 with
    | nil => exact (show False from a4).elim
    | cons b1 b2 =>
      cases b2 with
      | nil => cases b1 <;> exact (show False from a4).elim
      | cons b3 b4 =>
        cases b4 with
        | cons _ _ => cases b1 <;> cases b3 <;> exact (show False from a4).elim
        | nil =>
          cases b1 with
          | @ref n at' q1 =>
            cases b3 with
            | @ref m bt' q2 =>
              have a4 : End relW P w r X1 σ (match h[n]?, h[m]? with
                | some (.lst xs), some (.lst _) => .ok (.dyn (zipAt n m) (xs.length + 1)) h
                | _, _ => .bad) Q := a4
              cases hc : h[n]? with
              | none =>
                rw [hc] at a4
                exact a4.elim
              | some c =>
                cases hd : h[m]? with
                | none =>
                  rw [hc, hd] at a4
                  cases c <;> exact a4.elim
                | some d =>
                  rw [hc, hd] at a4
                  cases c with
                  | lst xs =>
                    cases d with
                    | lst ys =>
                      obtain ⟨vs, z1, z2⟩ := a1.lst hc q1
                      obtain ⟨us, y1, y2⟩ := a1.lst hd q2
                      refine ⟨at', bt', vs, us, rfl, .inl (.inl z1), .inl (.inl y1), a4 r X1 _ .refl a1 fun r' X' h' ys s hr hn => ?_⟩
                      obtain ⟨zs, ez, hn⟩ := Option.bind_eq_some_iff.mp hn
                      obtain ⟨ws, ew, rfl⟩ := Option.map_eq_some_iff.mp hn
                      obtain ⟨vs', z1', z2'⟩ := hr.lst (lstAt_some ez) (at_of s q1)
                      obtain ⟨us', y1', y2'⟩ := hr.lst (lstAt_some ew) (at_of s q2)
                      exact yl_zip (.inl (.inl z1')) (.inl (.inl y1')) z2' y2' hr
                    | _ => exact a4.elim
                  | _ => exact a4.elim
            | _ => exact (show False from a4).elim
          | _ => cases b3 <;> exact (show False from a4).elim
end
end FL

end

section
set_option linter.all false
/-! A comprehension with a second walk over a range; lists repeated: on values. -/
namespace FL
def lc2Turn (g : G) (u : A) (g1 : G) (t1 : T) (e : E) (vs1 : List Nat) (l : Loc) (d : D) (acc : List D) (h : H) : Res (List D) := match g d l h with
  | some (l1, h1) => (match u l1 h1 with
    | .ok [.int j] h2 => if -LIM ≤ j ∧ j ≤ LIM then lcS g1 t1 e (wipe l1 vs1) (rng 0 j) acc h2 else .bad
    | _ => .bad)
  | none => .bad
def lc2S (g : G) (u : A) (g1 : G) (t1 : T) (e : E) (vs1 : List Nat) (l : Loc) : List D → List D → H → Res (List D)
  | [], acc, h => .ok acc h
  | d :: ds, acc, h => match lc2Turn g u g1 t1 e vs1 l d acc h with
    | .ok acc' h' => lc2S g u g1 t1 e vs1 l ds acc' h'
    | _ => .bad
/-- [e for g in w for g1 in range(u) if t1] -/
def eComp2 (w : W) (g : G) (u : A) (g1 : G) (t1 : T) (e : E) (vs vs1 : List Nat) : E := fun l h => (w l h).bind fun it h1 =>
  (match it with
  | .snap xs => lc2S g u g1 t1 e vs1 (wipe l vs) xs [] h1
  | _ => .bad).bind fun acc h2 => alloc (.lst acc) h2
/-- a list repeated -/
def vRepL : D → D → H → Res D := fun a b h => match a, b with
  | .ref n, .int k => (match h[n]? with
    | some (.lst xs) => if xs.length ≤ 1000 ∧ 0 ≤ k ∧ k ≤ 1000 ∧ xs.length * k.toNat ≤ LIM then alloc (.lst (List.replicate k.toNat xs).flatten) h else .bad
    | _ => .bad)
  | _, _ => .bad
end FL

end

section
set_option Elab.async false
set_option linter.all false
set_option maxRecDepth 100000
set_option maxHeartbeats 1000000
namespace FL
open PySem PySem.Spec PyProof.Rows
open L2 (V Hp HO VK XK TE TT TA TS TG TGs TI Ends PE PT PW PA PS PSs PG PGs PI Cx Inv SqL SqT Rd upd upd_same upd_ne WX FpOk RelV ObjOk Turn)
/-- turns that ask for nothing of what stands -/
def relN : Rel It L2.It := fun P X r it J => match it with
  | .snap xs => ∀ r' X' h', HR P r' h' X' → Yields P J xs r' X' h'
  | _ => False
def tN (P : Pm) (w : WX) (m : W) : TI := tK relN P w (fun _ => m) []
section
variable {C : Cx} {P : Pm} {w : WX} {tg a : Expr} {pos : Pos} {mas : A}
theorem piRngN {p : Pos} (hg : L2.Gl C "range") (hm : C.mg "range" = none) (ha : PA C [a] (tA P w mas)) (hs : starEach [a] C.env = [(false, eval a C.env)] := by rfl) : PI C tg (.Call (.Name "range" p) [a] [] pos) (tN P w (wRng1 mas)) :=
  piW (L2.pi_range1 hg hm ha hs) fun σ X Q e => by
    obtain ⟨r, h, l, ds, a1, a2, a3, a4⟩ := bindA (R := relN) (m := mas) (k := fun ds _ l h1 => match ds with
      | [.int j] => if -LIM ≤ j ∧ j ≤ LIM then .ok (.snap (rng 0 j)) h1 else .bad
      | _ => .bad) e
    refine ⟨r, h, l, ds, a1, a2, a3, End.mono (fun vs X1 q => ?_) a4⟩
    obtain ⟨r, h, l, ys, ds, a1, a2, a3, a5, a4⟩ := q
    cases a3 with
    | nil => exact (show False from a4).elim
    | cons b1 b2 =>
      cases b2 with
      | cons _ _ => cases b1 <;> exact (show False from a4).elim
      | nil =>
        cases b1 with
        | int j =>
          have a4 : End relN P w r X1 σ (if -LIM ≤ j ∧ j ≤ LIM then .ok (.snap (rng 0 j)) h else .bad) Q := a4
          by_cases hz : -LIM ≤ j ∧ j ≤ LIM
          · rw [if_pos hz] at a4
            refine ⟨j, rfl, limI' hz.1, limI hz.2, a4 r X1 _ .refl a1 fun r' X' h' hr => ?_⟩
            have z := yl_rng (P := P) (lo := 0) (hi := j) hr
            rw [Int.sub_zero] at z
            exact z
          · rw [if_neg hz] at a4
            exact a4.elim
        | _ => exact (show False from a4).elim
end
section
variable {P : Pm} {w : WX}
theorem _root_.FL.SL.upd_lst {K : PySem.W.Frag} {X : Hp} {r : List Addr} {l : Loc} {σ : L2.St} {p : Addr} {ws ws' : List V} (q : SL K X r l σ) (hp : X p = some (.lst ws)) : SL K (upd X p (.lst ws')) r l σ := ⟨q.1, fun i d e => by
  obtain ⟨v, h1, h2⟩ := q.2 i d e
  exact ⟨v, h1, h2.map (fun _ _ => sqT_upd hp) (fun _ _ => scr_upd hp) (fun _ _ _ => frz_upd hp)⟩⟩
theorem lc_turn2 {r : List Addr} {X : Hp} {h : H} {l lk : Loc} {σ σk : L2.St} {gL : TG} {g : G} {vs : List Nat} {t : T} {e : E} {d : D} {x : V} {acc acc' : List D} {h' : H} {r0 : List Addr} {X0 : Hp} {Dl : Addr} {Nx : Hp → Prop} (tg : TgOk P gL g vs) (L : LcSt P r0 X0 Dl r h acc X) (h0 : X0 Dl = none) (q : SL P.K X r l σ) (qk : SL P.K X r lk σk) (hd : RV P.K X r d x)
    (ez : lcTurn g t e l d acc h = .ok acc' h') (k : ∀ r' X', LcSt P r0 X0 Dl r' h' acc' X' → SL P.K X' r' lk σk → Nx X') :
    gL x σ X fun σ2 X2 => L2.wipe σ2 vs = L2.wipe σ vs ∧ tT P w0 t σ2 X2 fun b X3 => if b = true then tE P w0 e σ2 X3 fun y X4 => ∃ acc, X4 Dl = some (.lst acc) ∧ acc.length < sizeLine ∧ Nx (upd X4 Dl (.lst (acc ++ [y]))) else Nx X3 := by
  unfold lcTurn at ez
  cases eg : g d l h with
  | none =>
    rw [eg] at ez
    cases ez
  | some z =>
    obtain ⟨l1, h1⟩ := z
    rw [eg] at ez
    have eh := tg.same _ _ _ _ _ eg
    subst eh
    refine tg.ok x σ X r h1 l d _ l1 h1 q hd eg fun σ' w1 s1 => ⟨w1, r, h1, l1, [], L.hr, s1, .nil, ?_⟩
    dsimp only at ez
    cases et : t l1 h1 with
    | ex _ _ _ =>
      rw [et] at ez
      cases ez
    | bad =>
      rw [et] at ez
      cases ez
    | ok b h2 =>
      rw [et] at ez
      show End relT P w0 r X σ' (t l1 h1) _
      rw [et]
      refine fun r2 X2 b' s2 hr2 eb => ?_
      have eb : b = b' := eb
      subst eb
      have L2' := L.go s2 hr2
      have k2 := qk.mono s2 L.hr.own
      cases b with
      | false =>
        cases ez
        exact k _ _ L2' k2
      | true =>
        refine ⟨r2, h2, l1, [], hr2, s1.mono s2 L.hr.own, .nil, ?_⟩
        dsimp only at ez
        cases ee : e l1 h2 with
        | ex _ _ _ =>
          rw [ee] at ez
          cases ez
        | bad =>
          rw [ee] at ez
          cases ez
        | ok y h3 =>
          rw [ee] at ez
          show End relE P w0 r2 X2 σ' (e l1 h2) _
          rw [ee]
          dsimp only at ez
          by_cases hz : acc.length < LIM
          · rw [if_pos hz] at ez
            cases ez
            refine fun r3 X3 v s3 hr3 hv => ?_
            have L3 := L2'.go s3 hr3
            obtain ⟨ws, a1, a2⟩ := L3.at_
            refine ⟨ws, a1, limLt (by rw [← a2.length]; exact hz), ?_⟩
            have m : ∀ {ds vs}, RVs P.K X3 r3 ds vs → RVs P.K (upd X3 Dl (.lst (ws ++ [v]))) r3 ds vs := fun q => q.map (fun _ _ => sqT_upd a1) (fun _ _ => scr_upd a1) (fun _ _ _ => frz_upd a1)
            exact k r3 _ ⟨L3.st.late (o := .lst (ws ++ [v])) h0, hr3.out_upd a1 L3.out, L3.out, _, upd_same, m (a2.append (.cons hv .nil))⟩ ((k2.mono s3 L2'.hr.own).upd_lst a1)
          · rw [if_neg hz] at ez
            cases ez
theorem wComp2 {m : W} {gL gL1 : TG} {g g1 : G} {u : A} {t1 : T} {e : E} {vs vs1 : List Nat} {σ : L2.St} {X : Hp} {Q : VK} (tg : TgOk P gL g vs) (tg1 : TgOk P gL1 g1 vs1) (sub : ∀ i ∈ vs1, i ∈ vs) (q : tE P w (eComp2 m g u g1 t1 e vs vs1) σ X Q) :
    L2.tLc2 (tW P w m) gL (tT P w0 tYes) (tN P w0 (wRng1 u)) gL1 (tT P w0 t1) (tE P w0 e) vs vs1 σ X Q := by
  obtain ⟨r, h, l, ds, a1, a2, a3, a4⟩ := q
  refine ⟨r, h, l, ds, a1, a2, a3, End.mono (fun J X1 ⟨r1, h1, it, st, b1, b2, b3⟩ => fun Dl hD => ?_) (End.bind (R0 := relW) a4)⟩
  have sl := (a2.mono st a1.own).wipe vs
  have L0 : LcSt P r1 X1 Dl r1 h1 [] (upd X1 Dl (.lst [])) := ⟨Stp.fresh hD, b1.fresh hD, b1.out hD, [], upd_same, .nil⟩
  have slot : ∀ {r' X'}, Stp r1 X1 r' X' → SL P.K X' r' (wipe l vs) (L2.wipe σ vs) := fun s => sl.mono s b1.own
  cases it with
  | live n => exact b3.elim
  | dyn f k => exact b3.elim
  | snap xs =>
    refine ⟨fun i m X' => m = xs.length - i ∧ i ≤ xs.length ∧ ∃ r' h' acc, LcSt P r1 X1 Dl r' h' acc X' ∧ End relE P w r1 X1 σ ((lc2S g u g1 t1 e vs1 (wipe l vs) (xs.drop i) acc h').bind fun acc h2 => alloc (.lst acc) h2) Q, ⟨xs.length, by omega, Nat.zero_le _, r1, h1, [], L0, b3⟩, ?_⟩
    rintro i m X' ⟨rfl, hi, r', h', acc, L, c4⟩
    have Y := b2 r' X' h' L.st L.hr i
    by_cases hlt : i < xs.length
    · obtain ⟨Yg, Yy⟩ := Y.1 xs[i] (List.getElem?_eq_getElem hlt)
      refine .inr ⟨Yg, fun X2 => (i + 1) ≤ xs.length ∧ ∃ r' h' acc, LcSt P r1 X1 Dl r' h' acc X2 ∧ End relE P w r1 X1 σ ((lc2S g u g1 t1 e vs1 (wipe l vs) (xs.drop (i + 1)) acc h').bind fun acc h2 => alloc (.lst acc) h2) Q, fun X2 q => ⟨xs.length - (i + 1), by omega, rfl, q⟩, fun x X'' hy => ?_⟩
      obtain ⟨s2, hr2, hx⟩ := Yy x X'' hy
      have L' := L.go s2 hr2
      rw [List.drop_eq_getElem_cons hlt] at c4
      have c5 : End relE P w r1 X1 σ ((match lc2Turn g u g1 t1 e vs1 (wipe l vs) xs[i] acc h' with
        | .ok acc' h' => lc2S g u g1 t1 e vs1 (wipe l vs) (xs.drop (i + 1)) acc' h'
        | _ => .bad).bind fun acc h2 => alloc (.lst acc) h2) Q := c4
      cases ez : lc2Turn g u g1 t1 e vs1 (wipe l vs) xs[i] acc h' with
      | ex _ _ _ =>
        rw [ez] at c5
        exact c5.elim
      | bad =>
        rw [ez] at c5
        exact c5.elim
      | ok accF hF =>
        rw [ez] at c5
        have fin : ∀ r2 X2, LcSt P r1 X1 Dl r2 hF accF X2 → (i + 1) ≤ xs.length ∧ ∃ r' h' acc, LcSt P r1 X1 Dl r' h' acc X2 ∧ End relE P w r1 X1 σ ((lc2S g u g1 t1 e vs1 (wipe l vs) (xs.drop (i + 1)) acc h').bind fun acc h2 => alloc (.lst acc) h2) Q := fun r2 X2 L2 => ⟨hlt, r2, hF, accF, L2, c5⟩
        unfold lc2Turn at ez
        cases eg : g xs[i] (wipe l vs) h' with
        | none =>
          rw [eg] at ez
          cases ez
        | some zz =>
          obtain ⟨l1, h1'⟩ := zz
          rw [eg] at ez
          have eh := tg.same _ _ _ _ _ eg
          subst eh
          dsimp only at ez
          refine tg.ok x (L2.wipe σ vs) X'' r' h1' (wipe l vs) xs[i] _ l1 h1' (slot L'.st) hx eg fun σ2 w1 s1 => ?_
          have w2 : L2.wipe σ2 vs = L2.wipe σ vs := w1.trans (wipe_wipe σ vs vs fun _ h => h)
          refine ⟨w2, r', h1', l1, [], L'.hr, s1, .nil, fun r2 X2 b' s3 hr3 eb => ?_⟩
          have eb : true = b' := eb
          subst eb
          have L2' := L'.go s3 hr3
          have s1' := s1.mono s3 L'.hr.own
          refine ⟨r2, h1', l1, [], hr3, s1', .nil, ?_⟩
          show End relN P w0 r2 X2 σ2 ((u l1 h1').bind fun ds h1 => match ds with
            | [.int j] => if -LIM ≤ j ∧ j ≤ LIM then .ok (.snap (rng 0 j)) h1 else .bad
            | _ => .bad) _
          cases eu : u l1 h1' with
          | ex _ _ _ =>
            rw [eu] at ez
            cases ez
          | bad =>
            rw [eu] at ez
            cases ez
          | ok us hu =>
            rw [eu] at ez
            dsimp only [bind_ok] at ez ⊢
            match us, ez with
            | [.int j], ez =>
              dsimp only at ez ⊢
              by_cases hz : -LIM ≤ j ∧ j ≤ LIM
              · rw [if_pos hz] at ez ⊢
                refine fun r3 X3 J1 s4 hr4 hJ => ?_
                have L3 := L2'.go s4 hr4
                refine ⟨fun jj k X' => k = (rng 0 j).length - jj ∧ jj ≤ (rng 0 j).length ∧ ∃ r' h' acc, LcSt P r1 X1 Dl r' h' acc X' ∧ SL P.K X' r' (wipe l1 vs1) (L2.wipe σ2 vs1) ∧ lcS g1 t1 e (wipe l1 vs1) ((rng 0 j).drop jj) acc h' = .ok accF hF, ⟨(rng 0 j).length, by omega, Nat.zero_le _, r3, hu, acc, L3, (s1'.mono s4 L2'.hr.own).wipe vs1, ez⟩, ?_⟩
                rintro jj k X4 ⟨rfl, hj, r4, h4, acc4, L4, sl4, ez4⟩
                have Y4 := hJ r4 X4 h4 L4.hr jj
                by_cases hlt4 : jj < (rng 0 j).length
                · obtain ⟨Yg4, Yy4⟩ := Y4.1 (rng 0 j)[jj] (List.getElem?_eq_getElem hlt4)
                  refine .inr ⟨Yg4, fun X5 => jj + 1 ≤ (rng 0 j).length ∧ ∃ r' h' acc, LcSt P r1 X1 Dl r' h' acc X5 ∧ SL P.K X5 r' (wipe l1 vs1) (L2.wipe σ2 vs1) ∧ lcS g1 t1 e (wipe l1 vs1) ((rng 0 j).drop (jj + 1)) acc h' = .ok accF hF, fun X5 q => ⟨(rng 0 j).length - (jj + 1), by omega, rfl, q⟩, fun y X5 hy5 => ?_⟩
                  obtain ⟨s5, hr5, hx5⟩ := Yy4 y X5 hy5
                  have L5 := L4.go s5 hr5
                  have sl5 := sl4.mono s5 L4.hr.own
                  rw [List.drop_eq_getElem_cons hlt4] at ez4
                  have ez5 : (match lcTurn g1 t1 e (wipe l1 vs1) (rng 0 j)[jj] acc4 h4 with
                    | .ok acc' h' => lcS g1 t1 e (wipe l1 vs1) ((rng 0 j).drop (jj + 1)) acc' h'
                    | _ => .bad) = .ok accF hF := ez4
                  cases e5 : lcTurn g1 t1 e (wipe l1 vs1) (rng 0 j)[jj] acc4 h4 with
                  | ex _ _ _ =>
                    rw [e5] at ez5
                    cases ez5
                  | bad =>
                    rw [e5] at ez5
                    cases ez5
                  | ok acc5 h5 =>
                    rw [e5] at ez5
                    dsimp only at ez5
                    have zz := lc_turn2 (Nx := fun X5 => jj + 1 ≤ (rng 0 j).length ∧ ∃ r' h' acc, LcSt P r1 X1 Dl r' h' acc X5 ∧ SL P.K X5 r' (wipe l1 vs1) (L2.wipe σ2 vs1) ∧ lcS g1 t1 e (wipe l1 vs1) ((rng 0 j).drop (jj + 1)) acc h' = .ok accF hF) tg1 L5 hD sl5 sl5 hx5 e5 fun r6 X6 L6 sl6 => ⟨hlt4, r6, h5, acc5, L6, sl6, ez5⟩
                    rw [wipe_wipe σ2 vs1 vs1 fun _ h => h] at zz
                    exact zz
                · have ei : jj = (rng 0 j).length := by omega
                  subst ei
                  rw [List.drop_length] at ez4
                  cases ez4
                  exact .inl ⟨Y4.2 (List.getElem?_eq_none (Nat.le_refl _)), fin _ _ L4⟩
              · rw [if_neg hz] at ez
                cases ez
            | [], ez => cases ez
            | .non :: _, ez => cases ez
            | .bl _ :: _, ez => cases ez
            | .str _ :: _, ez => cases ez
            | .tup _ :: _, ez => cases ez
            | .ref _ :: _, ez => cases ez
            | .scr _ :: _, ez => cases ez
            | .clo _ _ :: _, ez => cases ez
            | .exn _ _ :: _, ez => cases ez
            | .gls _ :: _, ez => cases ez
            | .int _ :: _ :: _, ez => cases ez
    · have ei : i = xs.length := by omega
      subst ei
      rw [List.drop_length] at c4
      exact .inl ⟨Y.2 (List.getElem?_eq_none (Nat.le_refl _)), L.fin hD c4⟩
end
section
variable {C : Cx} {P : Pm} {w : WX} {pos : Pos}
theorem xComp2 {elt tg iter tg1 iter1 : Expr} {ifs1 : List Expr} {scope : Scope} {own : List (Str × Nat)} {vs1 : List Nat} {m : W} {gL gL1 : TG} {g g1 : G} {u : A} {t1 : T} {e : E} (hc : C.calm = true) (hN : C.N.Nodup) (hi : PI C tg iter (tW P w m)) (ok : L2.BlkOk C.N C.env.scope scope own) (sub : ∀ i ∈ vs1, i ∈ own.map (·.2)) (tk : TgOk P gL g (own.map (·.2))) (tk1 : TgOk P gL1 g1 vs1)
    (hg : Blk C scope fun C' => PG C' tg gL) (ht : Blk C scope fun C' => L2.PTs C' [] (tT P w0 tYes)) (hi1 : Blk C scope fun C' => PI C' tg1 iter1 (tN P w0 (wRng1 u))) (hg1 : Blk C scope fun C' => PG C' tg1 gL1) (ht1 : Blk C scope fun C' => L2.PTs C' ifs1 (tT P w0 t1)) (he : Blk C scope fun C' => PE C' elt (tE P w0 e))
    (hs : ∀ x, foldedSetIterable iter C.env x = pure x := by intro _; rfl) (hs1 : ∀ env x, foldedSetIterable iter1 env x = pure x := by intro _ _; rfl) :
    PE C (.ListComp elt [⟨tg, iter, [], 0⟩, ⟨tg1, iter1, ifs1, 0⟩] scope pos) (tE P w (eComp2 m g u g1 t1 e (own.map (·.2)) vs1)) := peW (L2.pe_lc2 hc hN hi ok sub hg ht hi1 hg1 ht1 he hs hs1) fun _ _ _ q => wComp2 tk tk1 sub q
instance : Calm2 vRepL := ⟨fun a b h c fs h' e => by
  unfold vRepL alloc at e
  repeat' (split at e)
  all_goals cases e⟩
theorem oRepL {C : Cx} {P : Pm} (hK : C.K = P.K) : L2.OpR C (binaryOp .Mult) (r2 P vRepL) := opW L2.op_rep fun x y X Q ⟨r, h, a, b, hr, ra, rb, e⟩ => by
  unfold vRepL at e
  split at e
  · rename_i n k
    cases ra with
    | @ref _ at' q1 =>
      cases rb
      split at e
      · rename_i xs hn
        split at e
        · rename_i c
          obtain ⟨vs, z1, z2⟩ := hr.lst hn q1
          have lv := z2.length
          have h63 : (1000 : Int) < 2 ^ 63 := by decide
          refine ⟨at', k, vs, rfl, rfl, z1, by omega, by omega, lim (by rw [← lv]; exact c.2.2.2), fun p hp => ?_⟩
          exact e _ _ _ (Stp.new' hp) (hr.newL hp (rep_flat z2 _)) (.ref hr.last)
        · exact e.elim
      · exact e.elim
  · exact e.elim
end
end FL

end

section
set_option linter.all false
/-! Backwards; max with a default; max and index of a tuple: on values. -/
namespace FL
/-- x[::-1] -/
def vBack : D → D → H → Res D := fun x y h => match x, y with
  | .tup xs, .int k => if k = -1 then .ok (.tup xs.reverse) h else .bad
  | .ref n, .int k => if k = -1 then (match h[n]? with
    | some (.lst xs) => alloc (.lst xs.reverse) h
    | _ => .bad) else .bad
  | _, _ => .bad
end FL

end

section
set_option Elab.async false
set_option linter.all false
set_option maxRecDepth 100000
set_option maxHeartbeats 1000000
namespace FL
open PySem PySem.Spec PyProof.Rows
open L2 (V Hp HO VK XK TE TT TA TS TG TGs TI Ends PE PT PW PA PS PSs PG PGs PI Cx Inv SqL SqT Rd upd upd_same upd_ne WX RelV)
theorem back_pick (xs : Array Value) : ((List.range xs.size).filterMap fun (m : Nat) => xs[(((xs.size : Nat) : Int) - 1 + (m : Int) * (-1)).toNat]?).toArray = xs.toList.reverse.toArray := by
  have e : ((List.range xs.size).filterMap fun (m : Nat) => xs[(((xs.size : Nat) : Int) - 1 + (m : Int) * (-1)).toNat]?) = ((List.range xs.size).map fun k => xs.size - 1 - k).filterMap (xs[·]?) := by
    rw [List.filterMap_map]
    have go : ∀ ms : List Nat, (∀ m ∈ ms, m < xs.size) → (ms.filterMap fun (m : Nat) => xs[(((xs.size : Nat) : Int) - 1 + (m : Int) * (-1)).toNat]?) = ms.filterMap ((xs[·]?) ∘ fun k => xs.size - 1 - k) := fun ms => by
      induction ms with
      | nil => intro _; rfl
      | cons m ms ih =>
        intro hm
        have lm := hm m List.mem_cons_self
        have e1 : xs[(((xs.size : Nat) : Int) - 1 + (m : Int) * (-1)).toNat]? = ((xs[·]?) ∘ fun k => xs.size - 1 - k) m := by
          show _ = xs[xs.size - 1 - m]?
          rw [show (((xs.size : Nat) : Int) - 1 + (m : Int) * (-1)).toNat = xs.size - 1 - m by omega]
        rw [List.filterMap_cons, List.filterMap_cons, ih fun k hk => hm k (List.mem_cons_of_mem _ hk), e1]
    exact go _ fun m hm => List.mem_range.mp hm
  rw [e, PySem.W.krv_range, List.filterMap_reverse, PySem.W.krv_all]
section
variable {pr : Program} {wd : World} {Ar : Around} {E : Value → Shared → Prop} {s : Shared}
theorem applied_back {sl : Addr} {u : Tok} {n : Nat} {Q : Int × Int × Nat → Shared → Prop} (hs : s.heap.IsSliceOf sl .none .none (.int (-1) u)) (h : Q ((n : Int) - 1, -1, n) s) : wpAny (model pr wd) Ar (Builtin.Slice.sliceApplied (.ref sl) (pure (n : Int))) Q E s := by
  obtain ⟨ob, ho, hc, hd⟩ := id hs
  unfold Builtin.Slice.sliceApplied Builtin.Slice.sliceFields
  refine wpAny_bind (wpAny_bind (wpAny_field ho hd (x := .none) rfl (wpAny_bind (wpAny_field ho hd (x := .none) rfl (wpAny_bind (wpAny_field ho hd (x := .int (-1) u) rfl (wpAny_pure ?_)))))))
  refine wpAny_bind (slicePart_int ?_)
  show wpAny _ _ (if ((-1 : Int) == 0) = true then _ else _) _ _ s
  rw [if_neg (by decide)]
  refine wpAny_bind (slicePart_none (wpAny_bind (slicePart_none (wpAny_bind (wpAny_pure ?_)))))
  show wpAny _ _ (pure ((n : Int) - 1, (-1 : Int), Builtin.Slice.slicePlaces ((n : Int) - 1) (-1) (-1))) _ _ s
  have e : Builtin.Slice.slicePlaces ((n : Int) - 1) (-1) (-1) = n := by
    unfold Builtin.Slice.slicePlaces
    rw [if_neg (by decide)]
    by_cases c : (n : Int) - 1 > -1
    · rw [if_pos c, show (- -1 : Int) = 1 from rfl, Int.ediv_one]
      omega
    · rw [if_neg c]
      omega
  rw [e]
  exact wpAny_pure h
theorem tuple_back {t sl : Addr} {items : Array Value} {u : Tok} {Q : Value → Shared → Prop} (ht : IsTup s.heap t items) (hs : s.heap.IsSliceOf sl .none .none (.int (-1) u))
    (h : Q (.ref s.heap.objs.size) { s with heap := s.heap.push { cls := .type "tuple", data := .seq items.toList.reverse.toArray } }) (hsz : items.size ≤ sizeLine) : wpAny (model pr wd) Ar (getItem (.ref t) (.ref sl)) Q E s := by
  have so : sizeOk (.seq items.toList.reverse.toArray) := by
    show items.toList.reverse.toArray.size ≤ sizeLine
    simpa using hsz
  obtain ⟨ob, ho, hc, hd⟩ := id hs
  have ts : s.TypeIs (.ref sl) "slice" := ⟨ob, ho, hc⟩
  unfold getItem
  try with_reducible refine wpAny_holding ?_
  first | refine wpAny_bind (wpAny_pure ?_) | skip
  refine wpAny_bind (wpAny_sequenceKey ht.typeIs (by decide) (wpAny_bind (wpAny_callSpecial?_slot (name := Str.ofString "__getitem__") ht.typeIs PyProof.Rows.slot_tuple_getitem (wpAny_call_entry PyProof.Rows.slot_tuple_getitem ht.typeIs entry_tuple_getitem ?_ (args_tuple_getitem _ _)))))
  show wpAny _ _ (Builtin.Tuple.tupleItemsOf (.ref t) >>= _) _ _ s
  refine wpAny_bind (tupleItemsOf_ ht (wpAny_bind (wpAny_typeOf ts ?_)))
  rw [if_pos (by decide)]
  refine wpAny_bind (applied_back hs ?_)
  show wpAny _ _ (if (((items.size : Nat) : Int) - 1 == 0 && (-1 : Int) == 1 && items.size == items.size) = true then _ else _) _ _ s
  rw [if_neg (by rw [show ((-1 : Int) == 1) = false from rfl, Bool.and_false, Bool.false_and]; decide), back_pick]
  first
    | exact wpAny_bind (m := Builtin.Tuple.tupleExact _) (wpAny_newObj_type (wpAny_pure ⟨_, rfl, wpAny_pure h⟩) so)
    | exact wpAny_bind (m := Builtin.Tuple.tupleExact _) (wpAny_newObj_type (wpAny_bind (wpAny_pure (wpAny_pure ⟨_, rfl, wpAny_pure h⟩))) so)
    | exact wpAny_bind (wpAny_bind (m := Builtin.Tuple.tupleExact _) (wpAny_newObj_type (wpAny_pure (wpAny_pure ⟨_, rfl, wpAny_pure h⟩)) so))
    | exact wpAny_bind (wpAny_bind (m := Builtin.Tuple.tupleExact _) (wpAny_newObj_type (wpAny_pure ⟨_, rfl, wpAny_pure h⟩) so))
end
def rBack (K : PySem.W.Frag) : L2.R2 := fun x y X Q => ∃ a xs, x = .ref a ∧ y = .int (-1) ∧ ((SqL K X a xs ∧ ∀ p, X p = none → Q (.ref p) (upd X p (.lst xs.reverse))) ∨ (SqT K X a xs ∧ ∀ p, X p = none → Q (.ref p) (upd X p (.tup xs.reverse))))
theorem vals_rev {xs : List V} {us : List Value} (r : L2.Vals xs us) : L2.Vals xs.reverse us.reverse := by
  induction r with
  | nil => exact .nil
  | cons a b ih =>
    rw [List.reverse_cons, List.reverse_cons]
    exact L2.Vals.append ih (.cons a .nil)
section
variable {C : Cx} {P : Pm} {w : WX} {a st : Expr} {pos p2 : Pos} {ma ms : E}
theorem pe_back {ta ts : TE} {r : L2.R2} (hr : ∀ x y X Q, r x y X Q → rBack C.K x y X Q) (ha : PE C a ta) (hs : PE C st ts) (sb : ∀ b i : Addr, subscripted (Expr.Slice none none (some st) p2) false (Value.ref b) (Value.ref i) = operate [Value.ref b, Value.ref i] (getItem (Value.ref b) (Value.ref i))) : PE C (.Subscript a (.Slice none none (some st) p2) pos) (L2.tOp r ta ts) := by
  refine ⟨fun pins s σ X Q I h => Subscript_ (L2.thn (ha.run pins s σ X _ I h) fun v s1 ⟨x, X1, I1, r1, q1⟩ => ?_)⟩
  refine wpAny_Slice ?_
  rw [evalPart_none]
  refine wpAny_pure (wpAny_pure ?_)
  rw [evalPart_some]
  refine L2.thn (hs.run pins s1 σ X1 _ I1 q1) fun vs s2 ⟨y, X2, I2, r2, q2⟩ => ?_
  obtain ⟨b, xs, ex, ey, q3⟩ := hr _ _ _ _ q2
  subst ex ey
  obtain ⟨u, rfl⟩ := r2
  obtain rfl : v = Value.ref b := r1
  have I3 : Inv C pins σ X2 { s2 with heap := s2.heap.push { cls := .type "slice", data := .fields #[.none, .none, .int (-1) u] } } := I2.kept (t' := s2.toks) fun b ob q => Heap.get?_push_of_some _ q
  show wpAny (model C.prog C.w) C.A (subscriptTail a (.Slice none none (some st) p2) (.ref b) (.ref s2.heap.objs.size)) (L2.EP C pins σ Q) C.xe _
  rcases q3 with ⟨hq, q⟩ | ⟨hq, q⟩
  · obtain ⟨its, rv, hl, hz⟩ := I3.list hq
    have hlen := rv.length
    refine PyProof.Rows.tail_any (ops := [.ref b, .ref s2.heap.objs.size]) hl.isList.typeIs slot_list_getitem.lookup ?_ (sb _ _)
    refine wpAny_getItem_list_slice hl.isList (Heap.IsSliceOf.new ..) .none .none (.int (-1) u) (by decide) ?_ (by rw [List.size_toArray] <;> omega)
    rw [PySem.W.krv_pick]
    refine ⟨.ref _, _, I3.laid (t' := s2.toks) (o := .lst xs.reverse) (fun b ob q => Heap.get?_push_of_some _ q) (Nat.le_refl _) ?_, rfl, q _ (I3.hok.fresh (Nat.le_refl _))⟩
    exact ⟨by rw [List.length_reverse]; exact hz, _, 0, vals_rev rv, Heap.get?_push_size _ rfl⟩
  · obtain ⟨its, rv, ht, hz⟩ := I3.tuple hq
    have hlen : its.toArray.size = xs.length := by rw [List.size_toArray]; exact rv.length.symm
    refine PyProof.Rows.tail_any (ops := [.ref b, .ref s2.heap.objs.size]) ht.typeIs PyProof.Rows.slot_tuple_getitem.lookup ?_ (sb _ _)
    refine tuple_back ht (Heap.IsSliceOf.new ..) ?_ (by rw [hlen]; exact hz)
    refine ⟨.ref _, _, I3.laid (t' := s2.toks) (o := .tup xs.reverse) (fun b ob q => Heap.get?_push_of_some _ q) (Nat.le_refl _) ?_, rfl, q _ (I3.hok.fresh (Nat.le_refl _))⟩
    exact ⟨by rw [List.length_reverse]; exact hz, _, vals_rev rv, IsTup.new _ _⟩
instance : Calm2 vBack := ⟨fun a b h c fs h' e => by
  unfold vBack alloc at e
  repeat' (split at e)
  all_goals cases e⟩
theorem RVs.rev {K : PySem.W.Frag} {X : Hp} {r : List Addr} {ds : List D} {vs : List V} (q : RVs K X r ds vs) : RVs K X r ds.reverse vs.reverse := by
  induction ds generalizing vs with
  | nil =>
    cases q
    exact .nil
  | cons d ds ih =>
    cases q with
    | cons a b =>
      rw [List.reverse_cons, List.reverse_cons]
      exact (ih b).append (.cons a .nil)
theorem xBack (hK : C.K = P.K) (ha : PE C a (tE P w ma)) (hs : PE C st (tE P w ms)) (sb : ∀ b i : Addr, subscripted (Expr.Slice none none (some st) p2) false (Value.ref b) (Value.ref i) = operate [Value.ref b, Value.ref i] (getItem (Value.ref b) (Value.ref i)) := by intro _ _; rfl) :
    PE C (.Subscript a (.Slice none none (some st) p2) pos) (tE P w (eBin vBack ma ms)) := peW (pe_back (r := r2 P vBack) (fun x y X1 Q ⟨r, h, d1, d2, hr, ra, rb, e⟩ => by
  unfold vBack at e
  split at e
  · rename_i xs k
    split at e
    · rename_i hk
      subst hk
      cases rb
      cases ra with
      | @tup p vs _ q1 q2 => exact ⟨p, vs, rfl, rfl, .inr ⟨by rw [hK]; exact q1, fun t ht => e r _ (.ref t) (Stp.fresh ht) (hr.fresh ht) (RV.newT hr ht q2.rev)⟩⟩
    · exact e.elim
  · rename_i n k
    split at e
    · rename_i hk
      subst hk
      cases rb
      cases ra with
      | @ref _ p q1 =>
        split at e
        · rename_i xs hn
          obtain ⟨vs, z1, z2⟩ := hr.lst hn q1
          exact ⟨p, vs, rfl, rfl, .inl ⟨.inl (.inl z1), fun t ht => e _ _ _ (Stp.new' ht) (hr.newL ht z2.rev) (.ref hr.last)⟩⟩
        · exact e.elim
    · exact e.elim
  · exact e.elim) ha hs sb) fun _ _ _ e => wBin e
end
end FL

end

section
set_option linter.all false
/-! max of a list with a default; x or y of lists: on values. -/
namespace FL
def fMaxD (ds : List D) (k : D) (h : H) : Res D := match ds, k with
  | [d], .int e => (match intsIn d h with
    | some [] => .ok (.int e) h
    | some (x :: xs) => .ok (.int (maxL (x :: xs))) h
    | none => .bad)
  | _, _ => .bad
/-- max(xs, default=k) -/
def eMaxD (a : A) (k : E) : E := fun l h => (a l h).bind fun ds h1 => (k l h1).bind fun e h2 => fMaxD ds e h2
/-- x or y, x a list -/
def eOrL (a b : E) : E := fun l h => (a l h).bind fun x h1 => match x with
  | .ref n => (match h1[n]? with
    | some (.lst xs) => if xs.isEmpty = true then b l h1 else .ok x h1
    | _ => .bad)
  | _ => .bad
/-- a, b, c = x, y, z (three plain local names) -/
def sPar3 (i j k : Nat) (a : A) : S := fun l h => ofRes l (a l h) fun ds h' => match ds with
  | [x, y, z] => .nx (((l.set i (some x)).set j (some y)).set k (some z)) h'
  | _ => .bad
theorem par3_eq {i j k : Nat} {as : A} {l : Loc} {h h1 : H} {x y z : D} (e : as l h = .ok [x, y, z] h1) : sPar3 i j k as l h = .nx (((l.set i (some x)).set j (some y)).set k (some z)) h1 := by
  unfold sPar3
  rw [e]
  rfl
end FL

end

section
set_option Elab.async false
set_option linter.all false
set_option maxRecDepth 100000
set_option maxHeartbeats 1000000
namespace FL
open PySem PySem.Spec PyProof.Rows
open L2 (V Hp HO VK XK TE TT TA TS TG TGs TI Ends PE PT PW PA PS PSs PG PGs PI Cx Inv SqL SqT Rd upd upd_same upd_ne WX RelV Room)
theorem reads_nums {h : Heap} : ∀ {ns : List Int} {us : List Value}, L2.Vals (ns.map V.int) us → ∃ as, ReadsAll h us (ns.map PyData.int) as
  | [], us, r => by
    cases r
    exact ⟨[], .nil⟩
  | n :: ns, us, r => by
    rw [List.map_cons] at r
    cases r with
    | cons a b =>
      obtain ⟨t, rfl⟩ := a
      obtain ⟨as, q⟩ := reads_nums b
      exact ⟨_, .cons (.int n t) q⟩
theorem alike_nums (ns : List Int) : PySem.W.AlikeAll (ns.map PyData.int) := by
  refine ⟨fun x hx y hy => ?_, fun x hx => ?_⟩
  · obtain ⟨i, _, rfl⟩ := List.mem_map.mp hx
    obtain ⟨j, _, rfl⟩ := List.mem_map.mp hy
    rfl
  · obtain ⟨i, _, rfl⟩ := List.mem_map.mp hx
    exact fun e => by cases e
theorem deep_nums : ∀ ns : List Int, PyData.depthAll (ns.map PyData.int) = 0
  | [] => rfl
  | n :: ns => by
    rw [List.map_cons]
    simp only [PyData.depthAll, PyData.depth, deep_nums ns]
    rfl
def rMaxD (K : PySem.W.Frag) : List V → List V → Hp → VK → Prop := fun vs zs X Q => ∃ (a : Addr) (ns : List Int) (k : Int), vs = [.ref a] ∧ zs = [.int k] ∧ SqL K X a (ns.map V.int) ∧ Q (.int (match ns with
  | [] => k
  | n :: ns => maxL (n :: ns))) X
section
variable {C : Cx} {P : Pm} {w : WX} {j : Nat}
theorem cMaxD (hc : C.calm = true) (hr : Room j C.A) : L2.CallRK C (.builtin "max") ["default"] (rMaxD C.K) := by
  intro pins s σ X xs zs us ws Q I r1 r2 ⟨a, ns, k, ex, ez, hs, q⟩
  subst ex ez
  obtain ⟨its, rv, hl, _⟩ := I.list hs
  cases r1 with
  | cons u rr =>
    cases rr
    obtain rfl : _ = Value.ref a := u
    cases r2 with
    | cons u2 rr2 =>
      cases rr2
      obtain ⟨t, rfl⟩ := u2
      obtain ⟨as, R⟩ := reads_nums (h := s.heap) rv
      have hu : C.A.units + 1 + PyData.depthAll (ns.map PyData.int) < cLine := by
        rw [deep_nums]
        have := hr.un
        omega
      refine PySem.W.max_list_default (I.ok.hd hc) hl.isList R (alike_nums ns) hu (fun e h' tk hk => ?_) (fun y ys i v h' tk bs e hv hR hk => ?_)
      · have e : ns = [] := List.map_eq_nil_iff.mp e
        subst e
        exact ⟨.int k, X, I.kept (t' := tk) hk, ⟨t, rfl⟩, q⟩
      · cases ns with
        | nil => cases e
        | cons n ns =>
          obtain ⟨rfl, rfl⟩ := List.cons.inj e
          rw [PySem.W.maxD_ints] at hR
          cases hR
          exact ⟨.int (ns.foldl max n), X, I.kept (t' := tk) hk, ⟨_, rfl⟩, q⟩
variable {x : Str} {p pos : Pos} {e d : Expr} {mas : A} {md : E} {a b : Expr} {rest : List Expr} {ma mb : E}
theorem xMaxD {kp : Pos} (hK : C.K = P.K) (hc : C.calm = true) (hr : Room j C.A) (hg : L2.Gl C "max") (hm : C.mg "max" = none) (hv : bootBuiltins "max" = some (.builtin "max")) (ha : PA C [e] (tA P w mas)) (hd : PE C d (tE P w md))
    (he : backTo pos (starEach [e] C.env) = (false, eval e C.env) :: backTo pos (starEach [] C.env) := by rfl) (hpl : (backTo pos (starEach [e] C.env)).any (·.1) = false := by rfl)
    (hall : (backToKw pos (keywordEach [⟨some "default", d, kp⟩] C.env)).all (·.1.isSome) = true := by rfl) (hnone : (backToKw pos (keywordEach [⟨some "default", d, kp⟩] C.env)).any (·.1.isNone) = false := by rfl) (hks : (backToKw pos (keywordEach [⟨some "default", d, kp⟩] C.env)).filterMap (·.1) = (["default"] : List Str) := by rfl) :
    PE C (.Call (.Name "max" p) [e] [⟨some "default", d, kp⟩] pos) (tE P w (eMaxD mas md)) :=
  peW (L2.pe_callBK (cMaxD hc hr) hg hm hv ha (L2.pk_cons hd L2.pk_nil) (by decide) (by decide) he hpl hall hnone hks) fun σ X Q q => by
    obtain ⟨r, h, l, ds, a1, a2, a3, a4⟩ := bindA (R := relE) (m := mas) (k := fun ds _ l h1 => (md l h1).bind fun k h2 => fMaxD ds k h2) q
    refine ⟨r, h, l, ds, a1, a2, a3, End.mono (fun vs X1 q => ?_) a4⟩
    obtain ⟨r, h, l, ys, ds, a1, a2, a3, a5, a4⟩ := q
    refine ⟨r, h, l, [], a1, a2, .nil, End.mono (fun z X2 ⟨r2, h2, k, s2, c1, c2, c3⟩ => ?_) (End.bind (R0 := relE) a4)⟩
    have a3' := a3.mono s2 a1.own
    unfold fMaxD at c3
    split at c3
    · rename_i ke _
      obtain ⟨v, rfl, rv⟩ := a3'.one
      cases c2
      split at c3
      · rename_i ei
        obtain ⟨pp, rfl, qq⟩ := intsIn_rv c1 ei rv
        exact ⟨pp, [], ke, rfl, rfl, by rw [hK]; exact qq, c3 r2 X2 _ .refl c1 (.int _)⟩
      · rename_i n ns ei
        obtain ⟨pp, rfl, qq⟩ := intsIn_rv c1 ei rv
        exact ⟨pp, n :: ns, ke, rfl, rfl, by rw [hK]; exact qq, c3 r2 X2 _ .refl c1 (.int _)⟩
      · exact c3.elim
    · exact c3.elim
theorem xOrL (hK : C.K = P.K) (ha : PE C a (tE P w ma)) (hb : PE C (.BoolOp .Or (b :: rest) pos) (tE P w mb)) : PE C (.BoolOp .Or (a :: b :: rest) pos) (tE P w (eOrL ma mb)) := peW (L2.pe_orT ha hb) fun σ X Q e => by
  obtain ⟨r, h, l, ds, a1, a2, a3, a4⟩ := bindE (R := relE) (m := ma) (k := fun x _ l h1 => match x with
    | .ref n => (match h1[n]? with
      | some (.lst xs) => if xs.isEmpty = true then mb l h1 else .ok x h1
      | _ => .bad)
    | _ => .bad) e
  refine ⟨r, h, l, ds, a1, a2, a3, End.mono (fun v X1 q => ?_) a4⟩
  obtain ⟨r, h, l, ds, a1, a2, a3, a4⟩ := q
  cases a3 with
  | cons b1 b2 =>
    cases b2
    cases b1 with
    | @ref n pp q1 =>
      have a4 : End relE P w r X1 σ (match h[n]? with
        | some (.lst xs) => if xs.isEmpty = true then mb l h else .ok (.ref n) h
        | _ => .bad) Q := a4
      split at a4
      · rename_i xs hn
        obtain ⟨vs, z1, z2⟩ := a1.lst hn q1
        have ee : vs.isEmpty = xs.isEmpty := by
          cases z2 <;> rfl
        refine ⟨!vs.isEmpty, .inl ⟨vs, .inl (.inl z1), rfl⟩, ?_⟩
        cases hx : xs.isEmpty with
        | true =>
          rw [hx] at a4 ee
          rw [ee]
          exact ⟨r, h, l, [], a1, a2, .nil, a4⟩
        | false =>
          rw [hx] at a4 ee
          rw [ee]
          exact a4 r X1 _ .refl a1 (.ref q1)
      · exact a4.elim
    | _ => exact (show False from a4).elim
theorem yPar3 {i j k : Nat} {x y z : Str} {c : Expr} {px py pz pt : Pos} {kt k2 pt2} (hc : C.calm = true) (hN : C.N.Nodup) (hi : C.N[i]? = some x) (hj : C.N[j]? = some y) (hk : C.N[k]? = some z) (hij : i ≠ j) (hik : i ≠ k) (hjk : j ≠ k)
    (hx : C.env.scope.names.lookup x = some .local) (hy : C.env.scope.names.lookup y = some .local) (hz : C.env.scope.names.lookup z = some .local) (ha : PA C [a, b, c] (tA P w mas))
    (hw : swappedStores [.Tuple [.Name x px, .Name y py, .Name z pz] kt pt] (.Tuple [a, b, c] k2 pt2) C.env = pure (some [x, y, z]))
    (hs : swapsWithSole [.Tuple [.Name x px, .Name y py, .Name z pz] kt pt] (.Tuple [a, b, c] k2 pt2) pos.line C.env = pure false := by rfl) :
    PS C (.Assign [.Tuple [.Name x px, .Name y py, .Name z pz] kt pt] (.Tuple [a, b, c] k2 pt2) pos) (tS P w (sPar3 i j k mas)) :=
  psW (L2.ps_par3 hc hN hi hj hk hij hik hjk hx hy hz ha hw hs) fun D σ X ⟨r, h, l, a1, a2, a3⟩ =>
    ⟨r, h, l, [], a1, a2, .nil, End.mono (fun vs X1 ⟨r1, h1, ds, s, b1, b2, b3, b4⟩ => by
      cases b3 with
      | nil => exact (show False from b4).elim
      | cons c1 c2 =>
        cases c2 with
        | nil => exact (show False from b4).elim
        | cons c3 c4 =>
          cases c4 with
          | nil => exact (show False from b4).elim
          | cons c5 c6 =>
            cases c6 with
            | cons _ _ => exact (show False from b4).elim
            | nil => exact ⟨_, _, _, rfl, b4 r1 X1 _ .refl b1 (((b2.set i c1).set j c3).set k c5)⟩) (EndS.ofRes (R := relA) a1 a2 a3)⟩
end
end FL

end

section
set_option linter.all false
/-! len(set(t)), t a tuple of whole numbers no two of which are alike: on values. -/
namespace FL
def eLenSetI (e : E) : E := fun l h => (e l h).bind fun x h1 => match x with
  | .tup ds => (match numsL ds with
    | some ns => if ns.Nodup ∧ ns.length < 60 then .ok (.int (ns.length : Nat)) h1 else .bad
    | none => .bad)
  | _ => .bad
end FL

end

section
set_option Elab.async false
set_option linter.all false
set_option maxRecDepth 100000
set_option maxHeartbeats 3200000
namespace FL
open PySem PyProof.Rows
open L2 (V Hp HO VK XK St TE TT TA TS TG TGs TI Ends PE PT PW PA PS PSs PG PGs PI Cx Inv SqL SqT Rd upd upd_same upd_ne WX Room)
section
variable {C : Cx} {P : Pm} {w : WX}
theorem xLenSetI {a : Expr} {ma : E} {p p2 q pos : Pos} (hK : C.K = P.K) (hc : C.calm = true) (hg : L2.Gl C "len") (hm : C.mg "len" = none) (hg2 : L2.Gl C "set") (hm2 : C.mg "set" = none) (ha : PE C a (tE P w ma))
    (na : starEach [a] C.env = (false, eval a C.env) :: starEach [] C.env := by rfl) : PE C (.Call (.Name "len" p) [.Call (.Name "set" p2) [a] [] q] [] pos) (tE P w (eLenSetI ma)) := by
  refine ⟨fun pins s σ X Q I h => ?_⟩
  refine PyProof.Rows.Call_ (L2.ld_blt I hg hm PySem.boot_len ?_)
  refine PyProof.Rows.callWith_builtin1 (PyProof.Rows.args_cons ?_ rfl) rfl rfl
  refine PyProof.Rows.Call_ (L2.ld_blt I hg2 hm2 PyProof.Rows.boot_set ?_)
  refine PyProof.Rows.callWith_type1 (PyProof.Rows.args_cons (L2.thn (ha.run pins s σ X _ I (bindE (R := relE) (m := ma) (k := fun x (_ : List D) _ h1 => match x with
    | .tup ds => (match numsL ds with
      | some ns => if ns.Nodup ∧ ns.length < 60 then .ok (.int (ns.length : Nat)) h1 else .bad
      | none => .bad)
    | _ => .bad) h)) fun v s1 ⟨y, X1, I1, ry, z⟩ => PyProof.Rows.args_nil ?_) na) na rfl
  obtain ⟨r, h, l, ds, a1, a2, a3, a4⟩ := z
  cases a3 with
  | @cons d _ _ _ b1 b2 =>
    cases b2
    dsimp only at a4
    split at a4
    · rename_i es
      split at a4
      · rename_i ns er
        split at a4
        · rename_i fin
          obtain ⟨nd, few⟩ := fin
          cases b1 with
          | @tup t vs _ q1 q2 =>
            rw [ints_rv er q2] at q1
            obtain rfl : v = Value.ref t := ry
            rw [← hK] at q1
            obtain ⟨its, rv, pl, hz⟩ := I1.tuple q1
            refine L2.call_set_tupI ns (I1.ok.hd hc) pl (by simpa using L2.intsAre_of rv) (by unfold scanBound; omega) fun h' tk c R hcn kp => ?_
            refine PyProof.Rows.args_nil ?_
            have I2 : Inv C pins σ X1 { s1 with heap := h', toks := tk } := I1.kept kp
            obtain ⟨o, es2, ep, tb, ho, hex, hd, _, hnd, hS, hsz, hfit, hn, _⟩ := R
            have hlen : es2.size = ns.length := by
              have e : (es2.toList.map L2.keyOf).length = ns.length := ((List.perm_ext_iff_of_nodup hnd nd).mpr fun k => by
                rw [← hS k, decide_eq_true_eq]).length_eq
              rw [List.length_map, Array.length_toList] at e
              exact e
            exact call_len_set ho hex hd hfit (by rw [hlen]; omega) ⟨.int (ns.length : Nat), X1, I2.tok _, ⟨_, by rw [hlen]⟩, a4 r X1 _ .refl a1 (.int _)⟩
        · exact a4.elim
      · exact a4.elim
    · exact a4.elim
variable {a b e : Expr} {ma mb mc : E} {pos : Pos} {op op' : CmpOp} {f f' : D → D → H → Res D}
theorem wChain [cf : Calm2 f] [cg : Calm2 f'] {σ : L2.St} {X : Hp} {Q : VK} (q : tE P w (eChain f f' ma mb mc) σ X Q) : L2.tChain (r2 P f) (r2 P f') (tE P w ma) (tE P w mb) (tE P w mc) σ X Q := by
  obtain ⟨r, h, l, ds, a1, a2, a3, a4⟩ := bindE (R := relE) (m := ma) (k := fun x _ l h1 => (mb l h1).bind fun y h2 => (f x y h2).bind fun r h3 => match r with
    | .bl true => (mc l h3).bind fun z h4 => f' y z h4
    | .bl false => .ok (.bl false) h3
    | _ => .bad) q
  refine ⟨r, h, l, ds, a1, a2, a3, End.mono (fun x X1 q => ?_) a4⟩
  obtain ⟨r, h, l, ds, a1, a2, a3, a4⟩ := q
  cases a3 with
  | @cons dx _ _ _ b1 b2 =>
    cases b2
    refine ⟨r, h, l, [], a1, a2, .nil, End.mono (fun y X2 ⟨r1, h1, dy, s, c1, c2, c3⟩ => ?_) (End.bind (R0 := relE) a4)⟩
    have c2 : RV P.K X2 r1 dy y := c2
    refine ⟨r1, h1, dx, dy, c1, b1.mono s a1.own, c2, End.calm (cf.no _ _ _) (End.mono (fun z X3 ⟨r3, h3, dz, s3, d1, d2, d3⟩ => ?_) (End.bind (R0 := relE) c3))⟩
    have d2 : RV P.K X3 r3 dz z := d2
    cases d2 with
    | bl k =>
      refine ⟨k, rfl, ?_⟩
      cases k with
      | true =>
        rw [if_pos rfl]
        have a2' := (a2.mono s a1.own).mono s3 c1.own
        refine ⟨r3, h3, l, [], d1, a2', .nil, End.mono (fun u X4 ⟨r4, h4, du, s4, e1, e2, e3⟩ => ?_) (End.bind (R0 := relE) d3)⟩
        exact ⟨r4, h4, dy, du, e1, (c2.mono s3 c1.own).mono s4 d1.own, e2, End.calm (cg.no _ _ _) e3⟩
      | false =>
        rw [if_neg (by simp)]
        exact d3 r3 X3 (.bl false) .refl d1 (.bl false)
    | non => exact d3.elim
    | int _ => exact d3.elim
    | str _ => exact d3.elim
    | tup _ _ => exact d3.elim
    | scr _ => exact d3.elim
    | ref _ => exact d3.elim
    | gls _ => exact d3.elim
    | ftup _ _ _ _ => exact d3.elim
theorem xTChain [cf : Calm2 f] [cg : Calm2 f'] (ho : L2.OpR C (compareOp op) (r2 P f)) (ho' : L2.OpR C (compareOp op') (r2 P f')) (ha : PE C a (tE P w ma)) (hb : PE C b (tE P w mb)) (hc : PE C e (tE P w mc))
    (hm : lastMarks [op, op'] [b, e] = false := by with_unfolding_all rfl) : PT C (.Compare a [op, op'] [b, e] pos) (tT P w (tVal (eChain f f' ma mb mc))) := ptW (L2.pt_chain ho ho' ha hb hc hm) fun σ X Q e => by
  obtain ⟨r, h, l, ds, a1, a2, a3, a4⟩ := bindE (R := relT) (m := eChain f f' ma mb mc) (k := fun x _ l h => match x with
    | .bl b => .ok b h
    | _ => .bad) e
  refine wChain (Q := fun x X1 => ∃ k, x = .bl k ∧ Q k X1) ⟨r, h, l, ds, a1, a2, a3, End.mono (fun v X1 q => ?_) a4⟩
  obtain ⟨r, h, l, ds, a1, a2, a3, a4⟩ := q
  cases a3 with
  | cons b1 b2 =>
    cases b1 with
    | bl b => exact ⟨b, rfl, a4 r _ _ .refl a1 rfl⟩
    | _ => exact (show False from a4).elim
theorem xTIsN {p2 : Pos} {j : Nat} (ha : PE C a (tE P w ma)) : PT C (.Compare a [.Is] [.Constant .none j p2] pos) (tT P w (tVal (eUn vIsN ma))) := ptW (L2.pt_cmp (L2.pc_isN ha)) fun σ X Q e => by
  obtain ⟨r, h, l, ds, a1, a2, a3, a4⟩ := bindE (R := relT) (m := eUn vIsN ma) (k := fun x _ l h => match x with
    | .bl b => .ok b h
    | _ => .bad) e
  obtain ⟨r, h, l, ds, a1, a2, a3, a4⟩ := bindE (R := relE) (m := ma) (k := fun x _ l h => vIsN x h) ⟨r, h, l, ds, a1, a2, a3, a4⟩
  refine ⟨r, h, l, ds, a1, a2, a3, End.mono (fun v X1 q => ?_) a4⟩
  obtain ⟨r, h, l, ds, a1, a2, a3, a4⟩ := q
  cases a3 with
  | cons b1 b2 =>
    have fin : ∀ {b : Bool}, tK relT P w (fun ds => match ds with
      | d :: ds => fun (l : Loc) h => (match d with
        | .bl b => .ok b h
        | _ => .bad : Res Bool)
      | [] => fun _ _ => .bad) [.bl b] σ X1 Q → ∃ c, V.bl b = .bl c ∧ Q c X1 := fun {b} ⟨r, h, l, ds, a1, a2, a3, a4⟩ => by
      cases a3 with
      | cons b1 b2 =>
        cases b1
        exact ⟨_, rfl, a4 r _ _ .refl a1 rfl⟩
    cases b1 <;> exact fin (a4 r X1 _ .refl a1 (.bl _))
theorem xTNotN {p2 : Pos} {j : Nat} (ha : PE C a (tE P w ma)) : PT C (.Compare a [.IsNot] [.Constant .none j p2] pos) (tT P w (tVal (eUn vNotN ma))) := ptW (L2.pt_cmp (L2.pc_notN ha)) fun σ X Q e => by
  obtain ⟨r, h, l, ds, a1, a2, a3, a4⟩ := bindE (R := relT) (m := eUn vNotN ma) (k := fun x _ l h => match x with
    | .bl b => .ok b h
    | _ => .bad) e
  obtain ⟨r, h, l, ds, a1, a2, a3, a4⟩ := bindE (R := relE) (m := ma) (k := fun x _ l h => vNotN x h) ⟨r, h, l, ds, a1, a2, a3, a4⟩
  refine ⟨r, h, l, ds, a1, a2, a3, End.mono (fun v X1 q => ?_) a4⟩
  obtain ⟨r, h, l, ds, a1, a2, a3, a4⟩ := q
  cases a3 with
  | cons b1 b2 =>
    have fin : ∀ {b : Bool}, tK relT P w (fun ds => match ds with
      | d :: ds => fun (l : Loc) h => (match d with
        | .bl b => .ok b h
        | _ => .bad : Res Bool)
      | [] => fun _ _ => .bad) [.bl b] σ X1 Q → ∃ c, V.bl b = .bl c ∧ Q c X1 := fun {b} ⟨r, h, l, ds, a1, a2, a3, a4⟩ => by
      cases a3 with
      | cons b1 b2 =>
        cases b1
        exact ⟨_, rfl, a4 r _ _ .refl a1 rfl⟩
    cases b1 <;> exact fin (a4 r X1 _ .refl a1 (.bl _))
end
end FL

end

section
set_option linter.all false
/-! sorted(t), t a tuple of whole numbers: on values. -/
namespace FL
def insI (x : Int) : List Int → List Int
  | [] => [x]
  | y :: ys => if x ≤ y then x :: y :: ys else y :: insI x ys
def sortI : List Int → List Int
  | [] => []
  | x :: xs => insI x (sortI xs)
def fSortT : F := fun ds h => match ds with
  | [.tup xs] => (match numsL xs with
    | some ns => if ns.length ≤ LIM then alloc (.lst ((sortI ns).map .int)) h else .bad
    | none => .bad)
  | _ => .bad
theorem insI_perm (x : Int) : ∀ xs : List Int, (insI x xs).Perm (x :: xs)
  | [] => .refl _
  | y :: ys => by
    unfold insI
    split
    · exact .refl _
    · exact ((insI_perm x ys).cons y).trans (.swap x y ys)
theorem sortI_perm : ∀ xs : List Int, (sortI xs).Perm xs
  | [] => .refl _
  | x :: xs => (insI_perm x _).trans ((sortI_perm xs).cons x)
theorem insI_ord (x : Int) : ∀ xs : List Int, xs.Pairwise (· ≤ ·) → (insI x xs).Pairwise (· ≤ ·)
  | [], _ => by simp [insI]
  | y :: ys, h => by
    obtain ⟨h1, h2⟩ := List.pairwise_cons.mp h
    unfold insI
    split
    · rename_i c
      refine List.pairwise_cons.mpr ⟨fun z hz => ?_, h⟩
      rcases List.mem_cons.mp hz with rfl | hz
      · exact c
      · exact Int.le_trans c (h1 z hz)
    · rename_i c
      refine List.pairwise_cons.mpr ⟨fun z hz => ?_, insI_ord x ys h2⟩
      rcases List.mem_cons.mp ((insI_perm x ys).mem_iff.mp hz) with rfl | hz
      · omega
      · exact h1 z hz
theorem sortI_ord : ∀ xs : List Int, (sortI xs).Pairwise (· ≤ ·)
  | [] => .nil
  | x :: xs => insI_ord x _ (sortI_ord xs)
theorem sortI_of {ns ms : List Int} (p : ms.Perm ns) (o : ms.Pairwise (· ≤ ·)) : ms = sortI ns :=
  List.Perm.eq_of_pairwise (fun a b _ _ h1 h2 => Int.le_antisymm h1 h2) o (sortI_ord ns) (p.trans (sortI_perm ns).symm)
end FL

end

section
set_option Elab.async false
set_option linter.all false
set_option maxRecDepth 100000
set_option maxHeartbeats 3200000
namespace FL
open PySem PyProof.Rows
open L2 (V Hp HO VK XK TE TT TA TS TG TGs TI Ends PE PT PW PA PS PSs PG PGs PI Cx Inv SqL SqT Rd upd upd_same upd_ne WX Room)
section
variable {Pg : Program} {wd : World} {A : Around} {E : Value → Shared → Prop} {s : Shared}
/-- the heap with the gathered list -/
abbrev gath (h : Heap) (zs : List Value) : Heap := (h.push (seqObj "list" #[] 0)).update h.objs.size (Obj.mapSeq (· ++ zs.toArray))
theorem coll_tup {t : Addr} {zs : List Value} {Q : List Value → Shared → Prop} (tl : IsTup s.heap t zs.toArray) (few : zs.length ≤ sizeLine) (q : Q zs { s with heap := gath s.heap zs }) : wpAny (model Pg wd) A (collect (.ref t)) Q E s := by
  obtain ⟨ob, hob, cl, n, dat⟩ := id tl
  have hob2 : (s.heap.push (seqObj "list" #[] 0)).get? t = some ob := Heap.get?_push_of_some _ hob
  have new : (s.heap.push (seqObj "list" #[] 0)).get? s.heap.objs.size = some (seqObj "list" #[] 0) := Heap.get?_push_size _ rfl
  unfold collect; refine wpAny_bind (wpAny_runValue (codeAny_builtin entry_proto_collect' ?_))
  show wpAny (model Pg wd) _ (do again (.builtin "list.__iadd__" ⟨[← newList [], .ref t], []⟩)) _ _ s
  refine wpAny_bind (wpAny_newList (wpAny_pure ⟨Code.quiet_builtin _ (by decide +kernel), codeAny_builtin entry_list_iadd' (?_ : wpAny (model Pg wd) _ (Builtin.List.listExtendWith (.ref s.heap.objs.size) (.ref t) (.ref s.heap.objs.size)) _ _ { s with heap := s.heap.push (seqObj "list" #[] 0) })⟩))
  unfold Builtin.List.listExtendWith; refine wpAny_bind (wpAny_typeOf (T := "tuple") ⟨ob, hob2, cl⟩ ?_)
  have same : (Value.type "tuple" == Value.type "tuple") = true := by rfl
  rw [if_pos (by rw [same, Bool.or_true])]; refine wpAny_bind (listItems_at hob2 dat (wpAny_bind (listItems_at (xs := #[]) (n := 0) new rfl ?_)))
  rw [if_neg (by simp)]; refine wpAny_bind (listUpdate_at (xs := #[]) (n := 0) new rfl (wpAny_pure ?_) (Nat.zero_le _) (by show (#[] ++ zs.toArray).size ≤ sizeLine + 1; simp only [Array.size_append, List.size_toArray, List.length_nil]; omega))
  show wpAny (model Pg wd) A (do
      let b ← load s.heap.objs.size
      match b.data with
      | .seq us _ => pure us.toList
      | _ => unsupported "internal:collect") Q E { s with heap := gath s.heap zs }
  refine wpAny_bind (wpAny_load (get?_update_seq new _) (?_ : wpAny _ _ (pure ((#[] : Array Value) ++ zs.toArray).toList) Q E _))
  have e : ((#[] : Array Value) ++ zs.toArray).toList = zs := by simp
  rw [e]; exact wpAny_pure q
theorem sort_tup {t : Addr} {zs : List Value} {ns : List Int} {Q : Value → Shared → Prop} (tl : IsTup s.heap t zs.toArray) (few : zs.length ≤ sizeLine) (hi : IntsAre zs ns)
    (h : ∀ out : List Value, SrtO.Srtd SrtO.ltIv out → SrtO.Stb SrtO.ltIv out zs → Q (.ref (s.heap.objs.size + 1)) { s with heap := sortedAll s.heap zs out.toArray }) :
    wpAny (model Pg wd) A (call (.builtin "sorted") [.ref t]) Q E s := by
  refine Calls.call_function_entry kind_sorted plain_sorted entry_sorted (args_sorted1 _) ?_
  unfold Builtin.«sorted»; refine wpAny_bind (m := checkCount "sorted" 1 1 _) (wpAny_pure (wpAny_bind (coll_tup tl few (wpAny_bind (wpAny_newList ?_ few)))))
  have sz : (gath s.heap zs).objs.size = s.heap.objs.size + 1 := by rw [Heap.size_update, size_push']
  have at1 : ((gath s.heap zs).push (seqObj "list" zs.toArray 0)).get? (s.heap.objs.size + 1) = some (seqObj "list" zs.toArray 0) := by
    rw [← sz]; exact Heap.get?_push_size (gath s.heap zs) rfl
  show wpAny (model Pg wd) _ _ _ _ { s with heap := (gath s.heap zs).push (seqObj "list" zs.toArray 0) }
  rw [sz]
  refine wpAny_bind (wpAny_holding (wpAny_call_entry slot_list_sort ⟨_, at1, rfl⟩ entry_list_sort (SrtO.list_sort_ord SrtO.swo_int at1 few (fun h2 => SrtO.ints_sortable hi h2) fun out hs hb => ⟨_, rfl, wpAny_pure ⟨_, rfl, h out hs hb⟩⟩) (args_list_sort _)))
end
section
variable {C : Cx} {P : Pm} {w : WX}
theorem cSortT (hK : C.K = P.K) : L2.CallR C (.builtin "sorted") (rN P fSortT) := fun pins s σ X vs us Q I rv ⟨r, h, ds, hr, rs, e⟩ => by
  unfold fSortT at e
  split at e
  · rename_i xs
    split at e
    · rename_i ns en
      split at e
      · rename_i hz
        obtain ⟨v, rfl, q⟩ := rs.one
        cases q with
        | @tup a ws _ q1 q2 =>
          have q3 := ints_rv en q2
          subst q3
          rw [← hK] at q1
          obtain ⟨its, iv, tl, few⟩ := I.tuple q1
          rw [L2.Vals.ref1 rv]
          have hi := L2.intsAre_of iv
          refine sort_tup tl (by rw [← iv.length]; exact few) hi fun out o1 o2 => ?_
          obtain ⟨k1, k2, k3⟩ := SrtO.ints_out hi o1 o2
          obtain ⟨ep, at1⟩ := PyProof.Rows.sortedAll_at s.heap its out.toArray
          have e2 := sortI_of k2 k3
          rw [e2] at k1
          have len : ((sortI ns).map V.int).length ≤ sizeLine := by
            rw [List.length_map, (sortI_perm ns).length_eq]
            rw [List.length_map] at few
            exact few
          have fr := I.hok.fresh (Nat.le_succ s.heap.objs.size)
          have rn : RVs P.K X r ((sortI ns).map .int) ((sortI ns).map V.int) := RVs.ints _
          have z := e _ _ (.ref (s.heap.objs.size + 1)) (Stp.new' fr) (hr.newL fr rn) (.ref hr.last)
          exact ⟨.ref _, upd X (s.heap.objs.size + 1) (.lst ((sortI ns).map V.int)), I.laid (t' := s.toks) (fun _ _ => PyProof.Rows.sortedAll_old) (Nat.le_succ _) ⟨len, out, ep, L2.vals_of_ints k1, at1⟩, rfl, z⟩
      · exact e.elim
    · exact e.elim
  · exact e.elim
instance : CalmN fSortT := ⟨fun ds h c fs h' e => by
  unfold fSortT alloc at e
  repeat' (split at e)
  all_goals cases e⟩
end
end FL

end

section
set_option linter.all false
/-! min of a list of triples (number, number, tuple of numbers): on values. -/
namespace FL
open PySem (PyData)
abbrev Tri : Type := Int × Int × List Int
def triP (t : Tri) : PyData := .tuple [.int t.1, .int t.2.1, .tuple (t.2.2.map .int)]
def triD (t : Tri) : D := .tup [.int t.1, .int t.2.1, .tup (t.2.2.map .int)]
def triOf (d : D) : Option Tri := match d with
  | .tup [.int a, .int b, .tup xs] => (match numsL xs with
    | some ns => some (a, b, ns)
    | none => none)
  | _ => none
def trisL : List D → Option (List Tri)
  | [] => some []
  | d :: ds => (match triOf d, trisL ds with
    | some t, some ts => some (t :: ts)
    | _, _ => none)
def leastT (t : Tri) (ts : List Tri) : Tri := ts.foldl (fun a y => if PySem.W.dataLt (triP y) (triP a) = true then y else a) t
def fMin3 : F := fun ds h => match ds with
  | [.ref n] => (match h[n]? with
    | some (.lst xs) => (match trisL xs with
      | some (t :: ts) => if ((t :: ts).all fun x => (t :: ts).all fun y => PySem.W.alike (triP x) (triP y)) = true then .ok (triD (leastT t ts)) h else .bad
      | _ => .bad)
    | _ => .bad)
  | _ => .bad
end FL

end

section
set_option Elab.async false
set_option linter.all false
set_option maxRecDepth 100000
set_option maxHeartbeats 3200000
namespace FL
open PySem PySem.Spec PyProof.Rows
open L2 (V Hp HO VK XK TE TT TA TS TG TGs TI Ends PE PT PW PA PS PSs PG PGs PI Cx Inv SqL SqT Rd upd upd_same upd_ne WX RelV Room)
theorem nums_back : ∀ {xs : List D} {ns : List Int}, numsL xs = some ns → xs = ns.map .int
  | [], ns, e => by cases e; rfl
  | d :: xs, ns, e => by
    cases d with
    | int i =>
      rw [numsL] at e
      split at e
      · rename_i js ej
        cases e
        rw [nums_back ej]
        rfl
      · cases e
    | _ => cases e
theorem tri_back {d : D} {t : Tri} (e : triOf d = some t) : d = triD t := by
  unfold triOf at e
  split at e
  · split at e
    · rename_i ns en
      cases e
      rw [nums_back en]
      rfl
    · cases e
  · cases e
theorem tris_cons {d : D} {ds : List D} {ts : List Tri} (e : trisL (d :: ds) = some ts) : ∃ t ts', ts = t :: ts' ∧ triOf d = some t ∧ trisL ds = some ts' := by
  rw [trisL] at e
  split at e
  · rename_i t ts' e1 e2
    cases e
    exact ⟨t, ts', rfl, e1, e2⟩
  · cases e
theorem nums_rv {K : PySem.W.Frag} {X : Hp} {r : List Addr} : ∀ {ns : List Int} {vs : List V}, RVs K X r (ns.map .int) vs → vs = ns.map V.int
  | [], _, .nil => rfl
  | n :: ns, _, .cons a b => by
    cases a
    rw [nums_rv b]
    rfl
theorem ints_inj : ∀ {a b : List Int}, a.map PyData.int = b.map PyData.int → a = b
  | [], [], _ => rfl
  | [], _ :: _, e => by cases e
  | _ :: _, [], e => by cases e
  | x :: a, y :: b, e => by
    rw [List.map_cons, List.map_cons] at e
    obtain ⟨e1, e2⟩ := List.cons.inj e
    cases e1
    rw [ints_inj e2]
theorem tri_inj {t u : Tri} (e : triP t = triP u) : t = u := by
  obtain ⟨a, b, ns⟩ := t
  obtain ⟨a', b', ns'⟩ := u
  unfold triP at e
  injection e with e
  injection e with e1 e
  injection e with e2 e
  injection e with e3 _
  injection e1 with e1
  injection e2 with e2
  injection e3 with e3
  have e1 : a = a' := e1
  have e2 : b = b' := e2
  have e3 : ns.map PyData.int = ns'.map PyData.int := e3
  rw [e1, e2, ints_inj e3]
theorem least_data (ts : List Tri) : ∀ t : Tri, PySem.W.minD (triP t) (ts.map triP) = triP (leastT t ts) := by
  unfold PySem.W.minD leastT
  induction ts with
  | nil => intro t; rfl
  | cons y ts ih =>
    intro t
    rw [List.map_cons, List.foldl_cons, List.foldl_cons]
    split
    · exact ih y
    · exact ih t
theorem deep_tris : ∀ ts : List Tri, PyData.depthAll (ts.map triP) ≤ 2
  | [] => by simp [PyData.depthAll]
  | t :: ts => by
    have a := deep_tris ts
    have b := deep_nums t.2.2
    rw [List.map_cons]
    have c : (triP t).depth ≤ 2 := by
      unfold triP
      simp only [PyData.depthAll, PyData.depth, b]
      omega
    show max (triP t).depth (PyData.depthAll (ts.map triP)) ≤ 2
    omega
section
variable {C : Cx} {P : Pm} {w : WX} {j : Nat} {pins : List (Addr × Obj)} {σ : L2.St} {X : Hp} {s : Shared} {r : List Addr}
theorem tri_read (hK : C.K = P.K) (I : Inv C pins σ X s) {t : Tri} {v : V} {u : Value} (q : RV P.K X r (triD t) v) (ru : RelV v u) : ∃ as, Reads s.heap u (triP t) as := by
  obtain ⟨a, b, ns⟩ := t
  unfold triD at q
  cases q with
  | @tup p vs _ q1 q2 =>
    rw [← hK] at q1
    obtain ⟨its, rv, ⟨ob, hob, cl, n, dat⟩, _⟩ := I.tuple q1
    obtain rfl : u = Value.ref p := ru
    cases q2 with
    | cons b1 q2 =>
      cases q2 with
      | cons b2 q2 =>
        cases q2 with
        | cons b3 q2 =>
          cases q2
          cases b1
          cases b2
          cases b3 with
          | @tup p2 ws _ q3 q4 =>
            have q5 := nums_rv q4
            subst q5
            rw [← hK] at q3
            obtain ⟨its2, rv2, ⟨ob2, hob2, cl2, n2, dat2⟩, _⟩ := I.tuple q3
            obtain ⟨as2, R2⟩ := reads_nums (h := s.heap) rv2
            cases rv with
            | cons c1 rv =>
              cases rv with
              | cons c2 rv =>
                cases rv with
                | cons c3 rv =>
                  cases rv
                  obtain ⟨t1, rfl⟩ := c1
                  obtain ⟨t2, rfl⟩ := c2
                  obtain rfl : _ = Value.ref p2 := c3
                  exact ⟨_, .tuple hob cl dat (.cons (.int a t1) (.cons (.int b t2) (.cons (.tuple hob2 cl2 dat2 R2) .nil)))⟩
theorem tri_at (hK : C.K = P.K) (I : Inv C pins σ X s) : ∀ {ds : List D} {vs : List V} {us : List Value} {ts : List Tri}, trisL ds = some ts → RVs P.K X r ds vs → L2.Vals vs us → (∃ as, ReadsAll s.heap us (ts.map triP) as) ∧ ∀ (i : Nat) (u : Value), us[i]? = some u → ∃ t v, RelV v u ∧ RV P.K X r (triD t) v
  | [], _, _, _, e, .nil, .nil => by
    cases e
    exact ⟨⟨[], .nil⟩, fun i u h => by simp at h⟩
  | d :: ds, _, _, _, e, .cons b1 b2, .cons c1 c2 => by
    obtain ⟨t, ts', rfl, e1, e2⟩ := tris_cons e
    obtain ⟨⟨as, R⟩, f⟩ := tri_at hK I e2 b2 c2
    have ed := tri_back e1
    subst ed
    obtain ⟨bs, R1⟩ := tri_read hK I b1 c1
    refine ⟨⟨_, .cons R1 R⟩, fun i u h => ?_⟩
    cases i with
    | zero =>
      cases h
      exact ⟨t, _, c1, b1⟩
    | succ i => exact f i u (by simpa using h)
theorem cMin3 (hK : C.K = P.K) (hc : C.calm = true) (hr : Room j C.A) : L2.CallR C (.builtin "min") (rN P fMin3) := fun pins s σ X vs us Q I rv ⟨r, h, ds, hR, rs, e⟩ => by
  unfold fMin3 at e
  split at e
  · rename_i n
    split at e
    · rename_i xs hn
      split at e
      · rename_i t ts et
        split at e
        · rename_i al
          obtain ⟨v, rfl, q⟩ := rs.one
          cases q with
          | @ref _ p q1 =>
            obtain ⟨ws, z1, z2⟩ := hR.lst hn q1
            have z1 : SqL C.K X p ws := .inl (.inl z1)
            obtain ⟨its, iv, pl, few⟩ := I.list z1
            rw [L2.Vals.ref1 rv]
            obtain ⟨⟨as, R⟩, _⟩ := tri_at hK I et z2 iv
            have dp := deep_tris (t :: ts)
            have un := hr.un
            refine PySem.W.min_list_data (I.ok.hd hc) pl.isList (by simpa using R) ⟨fun x hx y hy => ?_, fun x hx => ?_⟩ (by rw [List.map_cons] at dp; omega) (fun i u h' tk bs hu hR2 hk => ?_)
            · rw [← List.map_cons] at hx hy
              obtain ⟨a, ha, rfl⟩ := List.mem_map.mp hx
              obtain ⟨b, hb, rfl⟩ := List.mem_map.mp hy
              exact List.all_eq_true.mp (List.all_eq_true.mp al a ha) b hb
            · rw [← List.map_cons] at hx
              obtain ⟨a, ha, rfl⟩ := List.mem_map.mp hx
              exact fun z => by cases z
            · have I2 : Inv C pins σ X { s with heap := h', toks := tk } := I.kept (t' := tk) hk
              obtain ⟨_, f⟩ := tri_at hK I2 et z2 iv
              obtain ⟨t', v', c1, c2⟩ := f i u (by simpa using hu)
              obtain ⟨bs', R3⟩ := tri_read hK I2 c2 c1
              rw [least_data] at hR2
              have e3 := tri_inj (Reads.unique R3 _ _ hR2).1
              subst e3
              exact ⟨v', X, I2, c1, e r X v' .refl hR c2⟩
        · exact e.elim
      · exact e.elim
    · exact e.elim
  · exact e.elim
instance : CalmN fMin3 := ⟨fun ds h c fs h' e => by
  unfold fMin3 at e
  repeat' (split at e)
  all_goals cases e⟩
end
end FL

end

section
set_option linter.all false
/-! Arguments given by names, put in the parameters' order: on values. -/
namespace FL
def aPerm (p : List D → List D) (a : A) : A := fun l h => (a l h).bind fun xs h1 => .ok (p xs) h1
theorem perm_eq {p : List D → List D} {a : A} {l : Loc} {h h1 : H} {xs : List D} (e : a l h = .ok xs h1) : aPerm p a l h = .ok (p xs) h1 := by
  unfold aPerm
  rw [e]
  rfl
end FL

end

section
set_option Elab.async false
set_option linter.all false
set_option maxRecDepth 100000
set_option maxHeartbeats 3200000
/-! Calls whose arguments are given by names. -/
namespace FL
open PySem
open L2 (V Hp HO VK XK TE TT TA TS TG TGs TI Ends PE PT PW PA PS PSs PG PGs PI Cx Inv SqL SqT Rd upd upd_same upd_ne WX Room PK)
/-- a def that keeps its promise however its arguments are given -/
def FnB (g : Bool) (Pg : Program) (wd : World) (K : PySem.W.Frag) (mg : Str → Option Value) (base : Heap) (k : Nat) (f : Addr) (fd : FuncData) (ps : List Str) (sp : L2.Sp) : Prop :=
  ∀ (A : Around) (outer : List Env) (s : Shared) (X : Hp) (args : Args) (us : List Value) (vs : List V) (Q : VK) (Ex : XK), Room k A → (g = true → A.guards = some []) → L2.Env0 Pg wd K mg base A outer s X → us.length = ps.length → BindsTo s fd args (ps.zip us) → L2.Vals vs us → sp vs X Q Ex →
    codeAny (model Pg wd) A (.call (.ref f) args) (L2.CR (L2.CX Pg wd) outer Pg wd X s Q Ex) s
section
variable {g : Bool} {Pg : Program} {wd : World} {K : PySem.W.Frag} {mg : Str → Option Value} {base : Heap} {x qual : Str} {params : Arguments} {body : List Stmt} {scope : Scope} {f : Addr} {fd : FuncData} {N ps : List Str} {k n : Nat} {P : Pm} {m : S} {fm : F}
theorem okDefB (nn kk : Nat) (hn : N.length = nn) (hk : ps.length = kk) (F : L2.FunD K x qual params body scope [] [] f fd) (S : L2.FnScope N ps scope)
    (hbody : ∀ (cdv : Value) (A : Around) (outer : List Env) (s : Shared) (X : Hp) (Ex : XK), Bd g (L2.cxOf (L2.CX Pg wd) Pg wd K mg base N qual scope f cdv A outer s X Ex) (fun cls dd _ X' => Ex cls dd X') k →
      PSs (L2.cxOf (L2.CX Pg wd) Pg wd K mg base N qual scope f cdv A outer s X Ex) body (tS P (fun cls dd _ X' => Ex cls dd X') m)) : FnB g Pg wd K mg base (k + 1) f fd ps (spF P kk (fn nn kk m)) := by
  intro A outer s X args us vs Q Ex hr hg e0 hu hb rv hs
  obtain ⟨oc, od, dV, kV, doc, pm, an, cdv, ct, osl, rfl, lk, hcd, hD, _⟩ := F.ex
  have hl : vs.length = ps.length := by rw [hk]; exact hs.1
  refine LamX.run_ofS lk hcd S hr e0 hb rv hl fun hr' => ?_
  exact ⟨_, hbody cdv A outer s X Ex ⟨hr', hg, L2.takes_of rfl rfl rfl rfl, L2.passes_of rfl, rfl⟩, body_ok nn kk hn hs⟩
theorem bindsAny (F : L2.FunD K x qual params body scope [] [] f fd) {s : Shared} {args : Args} {binds : List (Str × Value)} (h : ∀ (kV doc pm : Value) (an : Option Addr) (cdv ct : Value), bindArgs (PySem.W.fnOf x qual params body scope .none kV doc pm an cdv ct) args = pure binds) : BindsTo s fd args binds := by
  obtain ⟨oc, od, dV, kV, doc, qm, an, cdv, ct, osl, rfl, lk, hcd, hD, hK⟩ := F.ex
  rcases hD with ⟨_, rfl⟩ | ⟨e, _⟩
  · exact .of_eq (h kV doc qm an cdv ct)
  · exact absurd rfl e
theorem FnB.toX (F : FnB g Pg wd K mg base k f fd ps (spF P n fm)) (hk : ps.length = n) (bn : ∀ us : List Value, us.length = n → ∀ s, BindsTo s fd ⟨us, []⟩ (ps.zip us)) : FnX g Pg wd K mg base k f (spF P n fm) := fun A outer s X us vs Q Ex hr hg e0 rv hs =>
  F A outer s X ⟨us, []⟩ us vs Q Ex hr hg e0 (by rw [← rv.length, hk]; exact hs.1) (bn us (by rw [← rv.length]; exact hs.1) s) rv hs
end
section
variable {g : Bool} {C : Cx} {P : Pm} {w : WX} {k j n c : Nat} {f : Addr} {fd : FuncData} {ps ks : List Str} {x m : Str} {p pos apos kp : Pos} {e o fe : Expr} {kws : List Keyword} {mks : A} {me mo : E} {fm : F} {nm : Option Str}
theorem kNil : PK C [] (tA P w aNil) := ⟨fun pos pins s σ X Q I ⟨r, h, l, ds, a1, a2, a3, a4⟩ => L2.pk_nil.run pos pins s σ X Q I (a4 r X [] .refl a1 .nil)⟩
theorem kCons (ha : PE C e (tE P w me)) (hr : PK C kws (tA P w mks)) : PK C (⟨nm, e, kp⟩ :: kws) (tA P w (aCons me mks)) := ⟨fun pos pins s σ X Q I e => (L2.pk_cons (nm := nm) (kpos := kp) ha hr).run pos pins s σ X Q I (by
  obtain ⟨r, h, l, ds, a1, a2, a3, a4⟩ := bindE (R := relA) (m := me) (k := fun x _ l h => (mks l h).bind fun xs h2 => .ok (x :: xs) h2) e
  refine ⟨r, h, l, ds, a1, a2, a3, End.mono (fun x X1 q => ?_) a4⟩
  obtain ⟨r, h, l, ds, a1, a2, a3, a4⟩ := q
  cases a3 with
  | cons b1 b2 =>
    cases b2
    refine ⟨r, h, l, [], a1, a2, .nil, End.mono (fun y X2 ⟨r1, h1, z, s, c1, c2, c3⟩ => ?_) (End.bind (R0 := relA) a4)⟩
    exact c3 r1 X2 _ .refl c1 (.cons (b1.mono s a1.own) c2))⟩
/-- an order of the arguments -/
structure Ord (pm : {α : Type} → List α → List α) : Prop where
  vals : ∀ {vs : List V} {us : List Value}, L2.Vals vs us → L2.Vals (pm vs) (pm us)
  rvs : ∀ {K : PySem.W.Frag} {X : Hp} {r : List Addr} {ds : List D} {vs : List V}, RVs K X r ds vs → RVs K X r (pm ds) (pm vs)
theorem ordId : Ord (fun {_} xs => xs) := ⟨id, id⟩
theorem ordRev : Ord (fun {_} xs => xs.reverse) := ⟨vals_rev, RVs.rev⟩
theorem code_B {sp : L2.Sp} {pins : List (Addr × Obj)} {σ : L2.St} {X : Hp} {s : Shared} {Q : VK} {args : Args} {us : List Value} {vs : List V} (B : Bd g C w k) (F : FnB g C.prog C.w C.K C.mg C.base j f fd ps sp) (hj : j ≤ k) (I : Inv C pins σ X s) (hu : us.length = ps.length) (hb : BindsTo s fd args (ps.zip us)) (r : L2.Vals vs us)
    (h : sp vs X Q (L2.WE w σ)) : codeAny (model C.prog C.w) C.A (.call (.ref f) args) (wants (L2.EP C pins σ Q) C.xe) s :=
  codeAny_mono (F C.A C.stack s X args us vs Q (L2.WE w σ) (B.room.mono hj) B.gd I.env0 hu hb r h) fun z s' hq => by
    match z with
    | .error u => exact L2.passAt B.tk σ pins X s u s' I hq
    | .ok (.ret u) => exact I.after hq
    | .ok .next => exact hq.elim
    | .ok .brk => exact hq.elim
    | .ok .cont => exact hq.elim
/-- the names ks, in the order pm behind `pre` values, bind -/
def KwB (fd : FuncData) (ps ks : List Str) (pre : Nat) (pm : {α : Type} → List α → List α) : Prop := ∀ (s : Shared) (us ws : List Value), us.length = pre → ws.length = ks.length → BindsTo s fd ⟨us, ks.zip ws⟩ (ps.zip (us ++ pm ws)) ∧ (us ++ pm ws).length = ps.length
/-- a class method, by names -/
structure CmAtK (C : Cx) (P : Pm) (k : Nat) (ca : Addr) (m : Str) (n : Nat) (ks : List Str) (pm : {α : Type} → List α → List α) (fm : F) : Prop where
  ex : ∃ (mc : Value) (p f : Addr) (fd : FuncData) (ps : List Str), FnB false C.prog C.w C.K C.mg C.base k f fd ps (spF P n fm) ∧ ClX.CRead C.K ca mc ∧ ClX.CMet C.K ca mc m p f ∧ KwB fd ps ks 1 pm
  ar : ∀ ds h, ds.length ≠ n → fm ds h = .bad
structure StAtK (C : Cx) (P : Pm) (k : Nat) (ca : Addr) (m : Str) (n : Nat) (ks : List Str) (pm : {α : Type} → List α → List α) (fm : F) : Prop where
  ex : ∃ (mc : Value) (p f : Addr) (rest : List Value) (fd : FuncData) (ps : List Str), FnB false C.prog C.w C.K C.mg C.base k f fd ps (spF P n fm) ∧ ClX.CRead C.K ca mc ∧ PySem.W.findCls C.K (.ref ca) mc m = some (.get (.builtin "staticmethod.__get__") (.ref p) .none (.ref ca)) ∧
    PySem.W.recIn C.K p "staticmethod" = some (.ref f :: rest) ∧ PySem.W.keepIn C.K (.ref f) = true ∧ KwB fd ps ks 0 pm
  ar : ∀ ds h, ds.length ≠ n → fm ds h = .bad
theorem spOf {X : Hp} {Q : VK} {Ex : XK} {vs : List V} (ar : ∀ ds h, ds.length ≠ n → fm ds h = .bad) (q : spA P fm vs X Q Ex) : spF P n fm vs X Q Ex := by
  obtain ⟨r, h, ds, a1, a2, a3⟩ := q
  refine ⟨?_, r, h, ds, a1, a2, a3⟩
  rw [← a2.length]
  by_cases hn : ds.length = n
  · exact hn
  · rw [ar _ _ hn] at a3
    exact a3.elim
theorem wKw {pm : {α : Type} → List α → List α} (O : Ord pm) {G : List D → H → Res D} {σ : L2.St} {X : Hp} {Q : VK} (q : tE P w (fun l h => (aPerm (pm (α := D)) mks l h).bind fun xs h => G xs h) σ X Q) : tA P w mks σ X fun vs X2 => ∃ r h xs, HR P r h X2 ∧ RVs P.K X2 r xs (pm vs) ∧ End relE P w r X2 σ (G xs h) Q := by
  have q2 : tE P w (fun l h => (mks l h).bind fun xs h => G (pm xs) h) σ X Q := by
    obtain ⟨r, h, l, ds, a1, a2, a3, a4⟩ := q
    refine ⟨r, h, l, ds, a1, a2, a3, ?_⟩
    have e : (aPerm (pm (α := D)) mks l h).bind (fun xs h => G xs h) = (mks l h).bind fun xs h => G (pm xs) h := by
      unfold aPerm
      cases mks l h <;> rfl
    dsimp only at a4
    rw [e] at a4
    exact a4
  obtain ⟨r, h, l, ds, a1, a2, a3, a4⟩ := bindA (R := relE) (m := mks) (k := fun xs _ l h => G (pm xs) h) q2
  refine ⟨r, h, l, ds, a1, a2, a3, End.mono (fun vs X1 q => ?_) a4⟩
  obtain ⟨r, h, l, xs, ds, a1, a2, a3, a5, a4⟩ := q
  exact ⟨r, h, pm xs, a1, O.rvs a3, a4⟩
/-- the length of what is reckoned -/
def LenA (a : A) (n : Nat) : Prop := ∀ l h xs h', a l h = .ok xs h' → xs.length = n
theorem lenNil : LenA aNil 0 := fun l h xs h' e => by cases e; rfl
theorem lenCons (q : LenA mks n) : LenA (aCons me mks) (n + 1) := fun l h xs h' e => by
  unfold aCons at e
  cases e1 : me l h with
  | ok x h1 =>
    rw [e1, bind_ok] at e
    cases e2 : mks l h1 with
    | ok ys h2 =>
      rw [e2, bind_ok] at e
      cases e
      rw [List.length_cons, q l h1 ys _ e2]
    | ex c fs h2 =>
      rw [e2] at e
      cases e
    | bad =>
      rw [e2] at e
      cases e
  | ex c fs h1 =>
    rw [e1] at e
    cases e
  | bad =>
    rw [e1] at e
    cases e
theorem wLen (hl : LenA mks n) {σ : L2.St} {X : Hp} {Q : List V → Hp → Prop} (q : tA P w mks σ X Q) : tA P w mks σ X fun vs X2 => vs.length = n ∧ Q vs X2 := by
  obtain ⟨r, h, l, ds, a1, a2, a3, a4⟩ := q
  refine ⟨r, h, l, ds, a1, a2, a3, ?_⟩
  dsimp only at a4 ⊢
  cases e : mks l h with
  | ok xs h1 =>
    rw [e] at a4
    exact fun r' X' b s hr ha => ⟨by rw [← RVs.length ha]; exact hl l h xs h1 e, a4 r' X' b s hr ha⟩
  | ex c fs h1 =>
    rw [e] at a4
    exact a4
  | bad =>
    rw [e] at a4
    exact a4
theorem xCmK {ca : Addr} {pl : Sem Bool} {pm : {α : Type} → List α → List α} (O : Ord pm) (B : Bd g C w k) (S : CmAtK C P j ca m n ks pm fm) (hj : j ≤ k) (hg : L2.Gl C x) (hm : C.mg x = some (.ref ca)) (ha : PK C kws (tA P w mks)) (hdb : (x == ("__debug__" : Str)) = false := by decide)
    (hall : (backToKw pos (keywordEach kws C.env)).all (·.1.isSome) = true := by rfl) (hks : (backToKw pos (keywordEach kws C.env)).filterMap (·.1) = ks := by rfl) (hpl : ((backTo pos (starEach [] C.env)).any (·.1) || (backToKw pos (keywordEach kws C.env)).any (·.1.isNone)) = false := by rfl)
    (ht : eval (.Call (.Attribute (.Name x p) m apos) [] kws pos) C.env = (do
      let u ← eval (.Name x p) C.env
      standAt apos.atName
      let (f, first) ← holding [u] (getMethod u m pl)
      callWith pos f first (backTo pos (starEach [] C.env)) (backToKw pos (keywordEach kws C.env))) := by rfl)
    (hw : LenA mks ks.length) : PE C (.Call (.Attribute (.Name x p) m apos) [] kws pos) (tE P w (eCm ca fm (aPerm (pm (α := D)) mks))) := by
  refine ⟨fun pins s σ X Q I h => ?_⟩
  obtain ⟨mc, pp, f, fd, ps, F, r, cm, kb⟩ := S.ex
  refine PySem.W.methodCall_KW (pl := pl) (L2.ld_glob I hg hm ?_ hdb) ht
  refine ClX.getmethcm_ok I r cm fun s2 I2 => ?_
  refine PySem.W.callWith_of hpl (PySem.W.keeps_M cm.fi) (PyProof.Rows.evalArgs_kw2_nil hall (L2.thn (ha.run pos _ s2 σ X _ I2 (wLen hw (wKw O (G := fun xs h => fm (.gls ca :: xs) h) h))) fun ws s3 ⟨zs, X2, I3, rv, hl, q⟩ => ⟨⟨ClX.pin_at I3, I3.kIn⟩, ?_⟩))
  obtain ⟨r, h, xs, a1, a3, a4⟩ := q
  rw [hks]
  obtain ⟨b1, b2⟩ := kb s3 [.ref ca] ws rfl (by rw [← rv.length]; exact hl)
  have rv2 : L2.Vals (V.ref ca :: pm zs) (Value.ref ca :: pm ws) := .cons rfl (O.vals rv)
  have z := code_B (args := ⟨[.ref ca], ks.zip ws⟩) (us := Value.ref ca :: pm ws) (vs := V.ref ca :: pm zs) B.lo F hj I3 b2 b1 rv2 (spOf S.ar ⟨r, h, .gls ca :: xs, a1, .cons (.gls ca) a3, endWE a4⟩)
  exact L2.thn (wpAny_call (PySem.W.method_call (ClX.pin_at I3) z)) fun _ _ y => ClX.unpinE y
theorem xStatK {ca : Addr} {pl : Sem Bool} {pm : {α : Type} → List α → List α} (O : Ord pm) (B : Bd g C w k) (S : StAtK C P j ca m n ks pm fm) (hj : j ≤ k) (hg : L2.Gl C x) (hm : C.mg x = some (.ref ca)) (ha : PK C kws (tA P w mks)) (hdb : (x == ("__debug__" : Str)) = false := by decide)
    (hall : (backToKw pos (keywordEach kws C.env)).all (·.1.isSome) = true := by rfl) (hks : (backToKw pos (keywordEach kws C.env)).filterMap (·.1) = ks := by rfl) (hpl : ((backTo pos (starEach [] C.env)).any (·.1) || (backToKw pos (keywordEach kws C.env)).any (·.1.isNone)) = false := by rfl)
    (ht : eval (.Call (.Attribute (.Name x p) m apos) [] kws pos) C.env = (do
      let u ← eval (.Name x p) C.env
      standAt apos.atName
      let (f, first) ← holding [u] (getMethod u m pl)
      callWith pos f first (backTo pos (starEach [] C.env)) (backToKw pos (keywordEach kws C.env))) := by rfl)
    (hw : LenA mks ks.length) : PE C (.Call (.Attribute (.Name x p) m apos) [] kws pos) (tE P w (eSt fm (aPerm (pm (α := D)) mks))) := by
  refine ⟨fun pins s σ X Q I h => ?_⟩
  obtain ⟨mc, pp, f, rest, fd, ps, F, r, hat, hrec, hkp, kb⟩ := S.ex
  refine PySem.W.methodCall_KW (pl := pl) (L2.ld_glob I hg hm ?_ hdb) ht
  refine PySem.W.method_cls I.kIn r.ga (PySem.W.cls_bind I.kIn r.rd hat (wpAny_call (PySem.W.sm_get (s := { s with toks := s.toks + 1 }) I.kIn hrec (PySem.W.handed_on rfl ?_))))
  have I1 := I.tok (s.toks + 1)
  refine PySem.W.callWith_KW0 (first := []) (h₀ := C.base) I1.ok.mod.kin hkp hall (L2.thn (ha.run pos pins _ σ X _ I1 (wLen hw (wKw O (G := fun xs h => fm xs h) h))) fun ws s2 ⟨zs, X2, I2, rv, hl, q⟩ => ⟨I2.kIn, ?_⟩) hpl
  obtain ⟨r, h, xs, a1, a3, a4⟩ := q
  rw [hks]
  obtain ⟨b1, b2⟩ := kb s2 [] ws rfl (by rw [← rv.length]; exact hl)
  exact wpAny_call (code_B (args := ⟨[], ks.zip ws⟩) (us := pm ws) (vs := pm zs) B.lo F hj I2 b2 b1 (O.vals rv) (spOf S.ar ⟨r, h, xs, a1, a3, endWE a4⟩))
/-- an object is called, with names -/
theorem callO_kw {M : Model} {Ar : Around} {E : Value → Shared → Prop} {s : Shared} {a : Addr} {env : Env} {Q : Value → Shared → Prop} (hpl : ((backTo pos (starEach [] env)).any (·.1) || (backToKw pos (keywordEach kws env)).any (·.1.isNone)) = false)
    (h : wpAny M Ar (evalArgs (.ref a) true (backTo pos (starEach [] env)) (backToKw pos (keywordEach kws env))) (fun z t => (∃ D ox od, PySem.W.InstAt t.heap a ox D od ∧ ox.data = .plain) ∧ wpAny M Ar (call (.ref a) ([] ++ z.pos) z.kw) Q E t) E s) : wpAny M Ar (callWith pos (.ref a) [] (backTo pos (starEach [] env)) (backToKw pos (keywordEach kws env))) Q E s := by
  unfold callWith; refine wpAny_bind (wpAny_holding (wpAny_mono h (fun z t ⟨⟨D, ox, od, J, pln⟩, goal⟩ => wpAny_bind (wpAny_standAt ?_)) fun _ _ y => y))
  have look := PySem.W.kco_keeper (M := M) J pln
  simp only [hpl]; refine wpAny_bind (look.here ?_)
  exact wpAny_bind (wpAny_mono (wpAny_operateT goal) (fun r u hr => wpAny_bind (wpAny_holding (wpAny_point (wpAny_pure hr)))) fun _ _ y => y)
structure DefAtK (C : Cx) (P : Pm) (k : Nat) (m : Str) (c n : Nat) (ks : List Str) (pm : {α : Type} → List α → List α) (fm : F) : Prop where
  ex : ∃ (f : Addr) (fd : FuncData) (ps : List Str), FnB false C.prog C.w C.K C.mg C.base k f fd ps (spF P n fm) ∧ PySem.W.findIn C.K (.ref (P.ca c)) m = some (some (.ref f)) ∧ PySem.W.isFn C.K (.ref f) = true ∧ PySem.W.fnIn C.K f = true ∧ KwB fd ps ks 1 pm
  ar : ∀ ds h, ds.length ≠ n → fm ds h = .bad
theorem xCallOK {d : Nat → Option F} {pm : {α : Type} → List α → List α} (O : Ord pm) (B : Bd g C w k) (hf : PE C fe (tE P w mo)) (hd : ∀ c fm, d c = some fm → DefAtK C P j "__call__" c n ks pm fm) (hj : j ≤ k) (ha : PK C kws (tA P w mks))
    (ht : eval (.Call fe [] kws pos) C.env = (do callWith pos (← eval fe C.env) [] (backTo pos (starEach [] C.env)) (backToKw pos (keywordEach kws C.env))) := by rfl)
    (hall : (backToKw pos (keywordEach kws C.env)).all (·.1.isSome) = true := by rfl) (hks : (backToKw pos (keywordEach kws C.env)).filterMap (·.1) = ks := by rfl) (hpl : ((backTo pos (starEach [] C.env)).any (·.1) || (backToKw pos (keywordEach kws C.env)).any (·.1.isNone)) = false := by rfl)
    (hw : LenA mks ks.length) : PE C (.Call fe [] kws pos) (tE P w (eOC d mo (aPerm (pm (α := D)) mks))) := by
  refine ⟨fun pins s σ X Q I h => ?_⟩
  rw [ht]
  refine wpAny_bind (L2.thn (hf.run pins s σ X _ I (bindE (R := relE) (m := mo) (k := fun x (_ : List D) l h1 => opt (clsOf x h1) fun _ => (aPerm (pm (α := D)) mks l h1).bind fun xs h2 => byCls d x xs h2) h)) fun u s1 ⟨y, X1, I1, ry, q⟩ => ?_)
  obtain ⟨r, h, l, ds, a1, a2, a3, a4⟩ := q
  cases a3 with
  | @cons x _ _ _ b1 b2 =>
    cases b2
    have a4 : End relE P w r X1 σ (opt (clsOf x h) fun _ => (aPerm (pm (α := D)) mks l h).bind fun xs h2 => byCls d x xs h2) Q := a4
    cases ec : clsOf x h with
    | none =>
      rw [ec] at a4
      exact a4.elim
    | some c =>
      rw [ec] at a4
      obtain ⟨a, dx, fs, vs, rfl, e2, e3, _⟩ := clsOf_at a1 b1 ec
      obtain rfl : u = Value.ref a := ry
      have q2 : tK relE P w (fun ds => match ds with
        | x :: _ => fun l h => (aPerm (pm (α := D)) mks l h).bind fun xs h2 => byCls d x xs h2
        | [] => fun _ _ => .bad) [.ref a] σ X1 Q := ⟨r, h, l, [x], a1, a2, .cons b1 .nil, a4⟩
      have q3 : tA P w mks σ X1 fun ws X2 => ∃ r h xs, HR P r h X2 ∧ RVs P.K X2 r xs (pm ws) ∧ (∃ x, RV P.K X2 r x (.ref a) ∧ End relE P w r X2 σ (byCls d x xs h) Q) := by
        have e : (aPerm (pm (α := D)) mks l h).bind (fun xs h2 => byCls d x xs h2) = (mks l h).bind fun xs h2 => byCls d x (pm xs) h2 := by
          unfold aPerm
          cases mks l h <;> rfl
        dsimp only [opt] at a4
        rw [e] at a4
        refine ⟨r, h, l, [], a1, a2, .nil, End.mono (fun ws X2 ⟨r1, h1, xs, s, c1, c2, c3⟩ => ⟨r1, h1, pm xs, c1, O.rvs c2, x, b1.mono s a1.own, c3⟩) (End.bind (R0 := relA) a4)⟩
      refine callO_kw hpl (PyProof.Rows.evalArgs_kw2_nil hall (L2.thn (ha.run pos pins s1 σ X1 _ I1 (wLen hw q3)) fun ws s2 ⟨zs, X2, I2, rv, hl, q⟩ => ?_))
      obtain ⟨r3, h3, xs, d1, d2, x3, d3, d4⟩ := q
      unfold byCls at d4
      cases ec3 : clsOf x3 h3 with
      | none =>
        rw [ec3] at d4
        exact d4.elim
      | some c3 =>
        rw [ec3] at d4
        obtain ⟨a', dx', fs', ws', ey, f2, f3, _⟩ := clsOf_at d1 d3 ec3
        cases ey
        dsimp only at d4
        cases ed : d c3 with
        | none =>
          rw [ed] at d4
          exact d4.elim
        | some fm =>
          rw [ed] at d4
          obtain ⟨⟨f, fd, ps, F, g1, g2, g3, kb⟩, ar⟩ := hd c3 fm ed
          obtain ⟨ox, od, J, hp⟩ := StX.insC_at (C := P.ca c3) I2 (.inr ⟨_, _, f2⟩)
          rw [hks]
          obtain ⟨z1, z2⟩ := kb s2 [.ref a] ws rfl (by rw [← rv.length]; exact hl)
          refine ⟨⟨_, ox, od, J, hp⟩, wpAny_call (PySem.W.kco_code I2.kIn J hp g1 g2 g3 ?_)⟩
          have rv2 : L2.Vals (V.ref a :: pm zs) (Value.ref a :: pm ws) := .cons rfl (O.vals rv)
          exact code_B (args := ⟨[.ref a], ks.zip ws⟩) (us := Value.ref a :: pm ws) (vs := V.ref a :: pm zs) B.lo F hj I2 z2 z1 rv2 (spOf ar ⟨r3, h3, x3 :: xs, d1, .cons d3 d2, endWE d4⟩)
end
end FL

end

section
set_option linter.all false
/-! range(i, j, -1): on values. -/
namespace FL
def down (i j : Int) : List D := (List.range (i - j).toNat).map fun (m : Nat) => D.int (i + (m : Int) * (-1))
def wDown (a : A) : W := fun l h => (a l h).bind fun ds h1 => match ds with
  | [.int i, .int j, .int k] => if k = -1 ∧ -LIM ≤ i ∧ i ≤ LIM ∧ -LIM ≤ j ∧ j ≤ LIM then .ok (.snap (down i j)) h1 else .bad
  | _ => .bad
end FL

end

section
set_option Elab.async false
set_option linter.all false
set_option maxRecDepth 100000
set_option maxHeartbeats 1000000
namespace FL
open PySem
open L2 (V Hp HO VK XK St TE TT TA TS TG TGs TI Ends PE PT PW PA PS PSs PG PGs PI Cx Inv SqL SqT Rd upd upd_same upd_ne WX)
section
variable {C : Cx} {P : Pm} {w : WX} {a b c tg : Expr} {mas : A}
theorem yl_down {i j : Int} {r' : List Addr} {X' : Hp} {h' : H} (hr : HR P r' h' X') : Yields P (L2.Itc i (-1) (i - j).toNat) (down i j) r' X' h' := by
  refine fun k => ⟨fun d hd => ?_, fun hd => ?_⟩
  · unfold down at hd
    rw [List.getElem?_map] at hd
    obtain ⟨m, hm, e⟩ := Option.map_eq_some_iff.mp hd
    obtain ⟨hl, e2⟩ := List.getElem?_eq_some_iff.mp hm
    rw [List.getElem_range] at e2
    subst e2
    rw [List.length_range] at hl
    refine ⟨hl, fun x X'' hy => ?_⟩
    obtain ⟨rfl, rfl⟩ := hy
    exact ⟨.refl, hr, by rw [← e]; exact .int _⟩
  · have hl := List.getElem?_eq_none_iff.mp hd
    unfold down at hl
    rw [List.length_map, List.length_range] at hl
    exact hl
theorem piDown {p pos : Pos} (hg : L2.Gl C "range") (hm : C.mg "range" = none) (ha : PA C [a, b, c] (tA P w mas))
    (hs : starEach [a, b, c] C.env = (false, eval a C.env) :: starEach [b, c] C.env := by rfl) (hpl2 : (backTo pos (starEach [b, c] C.env)).any (·.1) = false := by rfl) :
    PI C tg (.Call (.Name "range" p) [a, b, c] [] pos) (tW P w (wDown mas)) :=
  piW (L2.pi_range3 hg hm ha hs hpl2) fun σ X Q e => by
    obtain ⟨r, h, l, ds, a1, a2, a3, a4⟩ := bindA (R := relW) (m := mas) (k := fun ds _ l h1 => match ds with
      | [.int i, .int j, .int k] => if k = -1 ∧ -LIM ≤ i ∧ i ≤ LIM ∧ -LIM ≤ j ∧ j ≤ LIM then .ok (.snap (down i j)) h1 else .bad
      | _ => .bad) e
    refine ⟨r, h, l, ds, a1, a2, a3, End.mono (fun vs X1 q => ?_) a4⟩
    obtain ⟨r, h, l, ys, ds, a1, a2, a3, a5, a4⟩ := q
    dsimp only at a4
    split at a4
    · rename_i i j k
      cases a3 with
      | cons b1 b2 =>
        cases b2 with
        | cons b3 b4 =>
          cases b4 with
          | cons b5 b6 =>
            cases b6
            cases b1
            cases b3
            cases b5
            split at a4
            · rename_i hz
              obtain ⟨rfl, z1, z2, z3, z4⟩ := hz
              have y1 := limI' z1
              have y2 := limI z2
              have y3 := limI' z3
              have y4 := limI z4
              exact ⟨i, j, -1, (i - j).toNat, rfl, L2.RgC.neg (by omega) (by omega) (by omega) (by omega), a4 r X1 _ .refl a1 fun r' X' h' s hr => yl_down (P := P) hr⟩
            · exact a4.elim
    · exact a4.elim
end
end FL

end

section
set_option linter.all false
/-! min(x, y) of two pairs of whole numbers: on values. -/
namespace FL
open PySem (PyData)
def duoP (t : Int × Int) : PyData := .tuple [.int t.1, .int t.2]
def duoD (t : Int × Int) : D := .tup [.int t.1, .int t.2]
def lessP (p q : Int × Int) : Int × Int := if PySem.W.dataLt (duoP q) (duoP p) = true then q else p
def fMin2P : F := fun ds h => match ds with
  | [.tup [.int a, .int b], .tup [.int c, .int d]] => .ok (duoD (lessP (a, b) (c, d))) h
  | _ => .bad
end FL

end

section
set_option Elab.async false
set_option linter.all false
set_option maxRecDepth 100000
set_option maxHeartbeats 3200000
namespace FL
open PySem PySem.Spec PyProof.Rows
open L2 (V Hp HO VK XK TE TT TA TS TG TGs TI Ends PE PT PW PA PS PSs PG PGs PI Cx Inv SqL SqT Rd upd upd_same upd_ne WX RelV Room)
section
variable {Pg : Program} {wd : World} {A : Around} {E : Value → Shared → Prop} {s : Shared}
/-- the heap with the pair of arguments -/
abbrev duoH (h : Heap) (a b : Value) : Heap := h.push { cls := .type "tuple", data := .seq #[a, b] }
theorem two_walk {a b : Value} {Q : Value → Shared → Prop}
    (step : wpAny (model Pg wd) A.in1 (pyIter (.ref s.heap.objs.size)) (fun it t => ∃ I fp wr G n P St H bt, it = .ref I ∧ WalksS Pg wd A.in1 I fp wr G n P St ∧ St 0 t ∧ (∀ c ∈ fp, c < t.heap.objs.size) ∧ 0 < n ∧
      (∀ c o, H.get? c = some o → c ∉ wr) ∧ (∀ c o, H.get? c = some o → t.heap.get? c = some o) ∧ CmpIn Pg wd A.in1 .Lt H P bt ∧ ∀ v u, P (argBest bt (n - 1)) v → Moved wr G t u → Q v u) E { s with heap := duoH s.heap a b }) :
    wpAny (model Pg wd) A (call (.builtin "min") [a, b]) Q E s := by
  have name : (toString "min" ++ toString ".loop" : String) = "min.loop" := by decide
  refine call_function_tree F.kind_min F.plain_min F.entry_min (F.args_min2 a b) (?_ : wpAny (model Pg wd) A.in1 (Builtin.Builtins.bindParams "min" ["key", "default"] 0 ⟨[], []⟩ >>= _) _ _ s)
  refine wpAny_bind (wpAny_of_eq (rfl : Builtin.Builtins.bindParams "min" ["key", "default"] 0 ⟨[], []⟩ = pure [none, none]) (?_ : wpAny (model Pg wd) A.in1 (newTuple [a, b] >>= _) _ _ s))
  refine wpAny_bind (wpAny_newObj_type (wpAny_bind (wpAny_mono step (fun it t got => ?_) fun _ _ e => e)))
  obtain ⟨I, fp, wr, G, n, P, St, H, bt, rfl, WW, hst, hfp, hn, hw, hkeep, hcmp, fin⟩ := got
  have out : t.heap.objs.size ∉ fp := fun hm => Nat.lt_irrefl _ (hfp _ hm)
  refine wpAny_bind (wpAny_newObj_type ?_); rw [name]
  refine wpAny_pure ⟨plainId_quiet F.plain_min_loop _, codeAny_min_loop_firstH WW H hw bt hcmp t.heap.objs.size out (fresh_in hkeep) _ hn (fun c o e => Heap.get?_push_of_some _ (hkeep c o e)) (WW.frame 0 t _ t.toks hst (Nat.le_refl _) fun c _ o e => Heap.get?_push_of_some _ e) (Heap.get?_push_size _ rfl) fun v u hP hm => fin v u hP (Moved.drop_new (tk := t.toks) hm (Nat.le_refl _))⟩
theorem two_data {a b : Value} {x y : PyData} {as bs : List Addr} {Q : Value → Shared → Prop} (hh : A.handled = none) (ra : Reads s.heap a x as) (rb : Reads s.heap b y bs) (al : PySem.W.AlikeAll [x, y]) (hu : A.units + 1 + PyData.depthAll [x, y] < cLine)
    (fin : ∀ (i : Nat) v h' tk cs, #[a, b][i]? = some v → Reads h' v (PySem.W.minD x [y]) cs → (∀ c o, s.heap.get? c = some o → h'.get? c = some o) → Q v { s with heap := h', toks := tk }) : wpAny (model Pg wd) A (call (.builtin "min") [a, b]) Q E s := by
  have k1 : ∀ c o, s.heap.get? c = some o → (duoH s.heap a b).get? c = some o := fun c o e => Heap.get?_push_of_some _ e
  have tl : (duoH s.heap a b).IsTuple s.heap.objs.size #[a, b] := ⟨_, Heap.get?_push_size s.heap rfl, rfl, 0, rfl⟩
  have rr : ReadsAll (duoH s.heap a b) [a, b] [x, y] (as ++ (bs ++ [])) := .cons (PySem.W.reads_keeps k1 ra) (.cons (PySem.W.reads_keeps k1 rb) .nil)
  refine two_walk (PySem.W.iter_tupleW (s := { s with heap := duoH s.heap a b }) (A := A.in1) hh tl fun t e WW st hfp hw hk => ?_)
  refine ⟨_, _, _, _, _, _, _, duoH s.heap a b, _, rfl, WW, st, hfp, by simp, hw, hk, PySem.W.cmpIn_lt (prog := Pg) (w := wd) (A := A.in1) (s := { s with heap := duoH s.heap a b }) (vs := #[a, b]) rr al (by show A.units + 1 + _ < _; exact hu), fun v u hP m => ?_⟩
  obtain ⟨h', tk, rfl, kept⟩ := PySem.W.moved_old e rfl m
  obtain ⟨cs, r, _, _, _⟩ := PySem.W.readsAll_atA (vs := #[a, b]) rr _ v hP
  have e2 := (PySem.W.argBest_fold PySem.W.dataLt PyData.none x [y] 1 (Nat.le_refl _)).2
  rw [show List.take 1 [y] = [y] from rfl] at e2
  exact fin _ v h' tk cs hP (PySem.W.reads_keeps kept (by unfold PySem.W.minD; rw [← e2]; exact r)) fun c o q => kept c o (k1 c o q)
end
section
variable {C : Cx} {P : Pm} {w : WX} {j : Nat}
theorem duo_inj {t u : Int × Int} (e : duoP t = duoP u) : t = u := by
  obtain ⟨a, b⟩ := t
  obtain ⟨a', b'⟩ := u
  unfold duoP at e
  injection e with e
  injection e with e1 e
  injection e with e2 e
  injection e1 with e1
  injection e2 with e2
  have e1 : a = a' := e1
  have e2 : b = b' := e2
  rw [e1, e2]
theorem duo_read (hK : C.K = P.K) {pins : List (Addr × Obj)} {σ : L2.St} {X : Hp} {s : Shared} {r : List Addr} (I : Inv C pins σ X s) {t : Int × Int} {v : V} {u : Value} (q : RV P.K X r (duoD t) v) (ru : RelV v u) : ∃ as, Reads s.heap u (duoP t) as := by
  obtain ⟨a, b⟩ := t
  unfold duoD at q
  cases q with
  | @tup p vs _ q1 q2 =>
    rw [← hK] at q1
    obtain ⟨its, rv, ⟨ob, hob, cl, n, dat⟩, _⟩ := I.tuple q1
    obtain rfl : u = Value.ref p := ru
    cases q2 with
    | cons b1 q2 =>
      cases q2 with
      | cons b2 q2 =>
        cases q2
        cases b1
        cases b2
        cases rv with
        | cons c1 rv =>
          cases rv with
          | cons c2 rv =>
            cases rv
            obtain ⟨t1, rfl⟩ := c1
            obtain ⟨t2, rfl⟩ := c2
            exact ⟨_, .tuple hob cl dat (.cons (.int a t1) (.cons (.int b t2) .nil))⟩
theorem cMin2P (hK : C.K = P.K) (hc : C.calm = true) (hr : Room j C.A) : L2.CallR C (.builtin "min") (rN P fMin2P) := fun pins s σ X vs us Q I rv ⟨r, h, ds, hR, rs, e⟩ => by
  unfold fMin2P at e
  split at e
  · rename_i a b c d
    cases rs with
    | cons b1 rs =>
      cases rs with
      | cons b2 rs =>
        cases rs
        cases rv with
        | cons c1 rv =>
          cases rv with
          | cons c2 rv =>
            cases rv
            obtain ⟨as, R1⟩ := duo_read hK I (t := (a, b)) b1 c1
            obtain ⟨bs, R2⟩ := duo_read hK I (t := (c, d)) b2 c2
            have un := hr.un
            refine two_data (I.ok.hd hc) R1 R2 ⟨fun x hx y hy => ?_, fun x hx => ?_⟩ (by simp only [PyData.depthAll, duoP, PyData.depth]; omega) (fun i u h' tk cs hu hR2 hk => ?_)
            · simp only [List.mem_cons, List.not_mem_nil, or_false] at hx hy
              rcases hx with rfl | rfl <;> rcases hy with rfl | rfl <;> simp [duoP, PySem.W.alike, PySem.W.alikeAll]
            · simp only [List.mem_cons, List.not_mem_nil, or_false] at hx
              rcases hx with rfl | rfl <;> exact fun z => by cases z
            · have I2 : Inv C pins σ X { s with heap := h', toks := tk } := I.kept (t' := tk) hk
              have md : PySem.W.minD (duoP (a, b)) [duoP (c, d)] = duoP (lessP (a, b) (c, d)) := by
                show (if PySem.W.dataLt (duoP (c, d)) (duoP (a, b)) = true then duoP (c, d) else duoP (a, b)) = _
                unfold lessP
                split <;> rfl
              rw [md] at hR2
              obtain ⟨t', v', k1, k2⟩ : ∃ (t' : Int × Int) (v' : V), RelV v' u ∧ RV P.K X r (duoD t') v' := by
                match i, hu with
                | 0, hu =>
                  cases hu
                  exact ⟨(a, b), _, c1, b1⟩
                | 1, hu =>
                  cases hu
                  exact ⟨(c, d), _, c2, b2⟩
                | i + 2, hu => simp at hu
              obtain ⟨ks, R3⟩ := duo_read hK I2 k2 k1
              have e3 := duo_inj (Reads.unique R3 _ _ hR2).1
              subst e3
              exact ⟨v', X, I2, k1, e r X v' .refl hR k2⟩
  · exact e.elim
instance : CalmN fMin2P := ⟨fun ds h c fs h' e => by
  unfold fMin2P at e
  repeat' (split at e)
  all_goals cases e⟩
end
end FL

end

section
set_option linter.all false
/-! A tuple whose making is known (frozen): its index, its greatest number: on values. -/
namespace FL
def thaw (d : D) : D := match d with
  | .clo 0 xs => .tup xs
  | d => d
def eThaw (m : E) : E := fun l h => (m l h).bind fun d h1 => .ok (thaw d) h1
/-- tuple(a list), frozen -/
def fTupleF : F := fun ds h => match ds with
  | [d] => (match listOf d h with
    | some xs => .ok (.clo 0 xs) h
    | none => .bad)
  | _ => .bad
/-- max(a tuple of numbers) -/
def fMaxT : F := fun ds h => match ds with
  | [.tup xs] => (match numsL xs with
    | some (n :: ns) => .ok (.int (maxL (n :: ns))) h
    | _ => .bad)
  | _ => .bad
def isFt (d : D) : Bool := match d with
  | .clo 0 _ => true
  | _ => false
def mIndexF : D → F := fun x ds h => match x, ds with
  | .clo 0 xs, [.int k] => (match numsL xs with
    | some ns => if k ∈ ns then .ok (.int (ns.idxOf k : Nat)) h else .bad
    | none => .bad)
  | _, _ => .bad
def eIxF (o : E) (a : A) : E := fun l h => (o l h).bind fun x h1 => if isFt x = true then (a l h1).bind fun xs h2 => mIndexF x xs h2 else .bad
end FL

end

section
set_option Elab.async false
set_option linter.all false
set_option maxRecDepth 100000
set_option maxHeartbeats 3200000
namespace FL
open PySem PySem.Spec PyProof.Rows
open L2 (V Hp HO VK XK TE TT TA TS TG TGs TI Ends PE PT PW PA PS PSs PG PGs PI Cx Inv SqL SqT Rd upd upd_same upd_ne WX RelV Room)
section
variable {C : Cx} {P : Pm} {w : WX} {j : Nat} {pins : List (Addr × Obj)} {σ : L2.St} {X : Hp} {s : Shared} {r : List Addr} {a e o : Expr} {ma mo me : E} {pos apos cpos : Pos} {mas : A}
/-! ### tuple(list), the tuple's object known -/
theorem call_tuple_frz : L2.CallR C (.type "tuple") (fun xs H Q => ∃ p ys, xs = [.ref p] ∧ SqL C.K H p ys ∧ ∀ (l : Addr) (ob : Obj), H l = none → ob.cls = .type "tuple" → ob.dict = none → Q (.ref l) (upd H l (.frz ob (.tup ys)))) := by
  intro pins s σ H xs us Q I r h
  obtain ⟨p, ys, rfl, hq, q⟩ := h
  obtain ⟨u, rfl, rx⟩ := L2.vals1 r
  cases rx
  obtain ⟨its, r', pl, hz⟩ := I.list hq
  have hlen := r'.length
  refine PySem.call_tuple_list pl.isList (fun h' kp => ?_) (by simp only [List.size_toArray] <;> omega)
  have I1 : Inv C pins σ H { s with heap := h' } := I.kept (t' := s.toks) kp
  have I2 : Inv C pins σ (upd H h'.objs.size (.frz { cls := .type "tuple", data := .seq its.toArray } (.tup ys))) { s with heap := h'.push { cls := .type "tuple", data := .seq its.toArray } } :=
    I1.laid (t' := s.toks) (fun b o e => Heap.get?_push_of_some _ e) (Nat.le_refl _) (show L2.ObjOk C.prog C.w _ _ _ (.frz _ (.tup ys)) from ⟨Heap.get?_push_size _ rfl, hz, its, r', IsTup.new _ _⟩)
  exact ⟨.ref h'.objs.size, _, I2, rfl, q _ _ (I1.hok.fresh (Nat.le_refl _)) rfl rfl⟩
theorem cTupleF (hK : C.K = P.K) : L2.CallR C (.type "tuple") (rN P fTupleF) := caW call_tuple_frz fun vs X Q ⟨r, h, ds, hr, rs, e⟩ => by
  unfold fTupleF at e
  split at e
  · rename_i d
    obtain ⟨v, rfl, rv⟩ := rs.one
    split at e
    · rename_i xs ex
      obtain ⟨p, us, rfl, q1, q2⟩ := list_of hr rv ex
      exact ⟨p, us, rfl, by rw [hK]; exact q2, fun t ob ht c1 c2 => e r _ _ (Stp.fresh ht) (hr.fresh ht) (.ftup upd_same c1 c2 (q1.mono (Stp.fresh ht) hr.own))⟩
    · exact e.elim
  · exact e.elim
instance : CalmN fTupleF := ⟨fun ds h c fs h' e => by
  unfold fTupleF at e
  repeat' (split at e)
  all_goals cases e⟩
/-! ### the tuple seen as any tuple -/
theorem RV.thaw {K : PySem.W.Frag} {d : D} {v : V} (q : RV K X r d v) : RV K X r (thaw d) v := by
  cases q with
  | ftup q c d z => exact .tup (.inl (.inr ⟨_, q⟩)) z
  | non => exact .non
  | bl b => exact .bl b
  | int i => exact .int i
  | str x => exact .str x
  | tup q z => exact .tup q z
  | ref q => exact .ref q
  | scr q => exact .scr q
  | gls a => exact .gls a
theorem xThaw (ha : PE C a (tE P w ma)) : PE C a (tE P w (eThaw ma)) := peW ha fun σ X Q q => by
  obtain ⟨r, h, l, ds, a1, a2, a3, a4⟩ := bindE (R := relE) (m := ma) (k := fun d (_ : List D) l h => .ok (thaw d) h) q
  refine ⟨r, h, l, ds, a1, a2, a3, End.mono (fun v X1 q => ?_) a4⟩
  obtain ⟨r, h, l, ds, a1, a2, a3, a4⟩ := q
  cases a3 with
  | cons b1 b2 => exact a4 r X1 v .refl a1 b1.thaw
/-! ### max -/
theorem deep_ints : ∀ ns : List Int, PyData.depthAll (ns.map PyData.int) = 0
  | [] => by simp [PyData.depthAll]
  | n :: ns => by
    have := deep_ints ns
    simp [PyData.depthAll, PyData.depth, this]
theorem cMaxT (hK : C.K = P.K) (hc : C.calm = true) (hr : Room j C.A) : L2.CallR C (.builtin "max") (rN P fMaxT) := fun pins s σ X vs us Q I rv ⟨r, h, ds, hR, rs, e⟩ => by
  unfold fMaxT at e
  split at e
  · rename_i xs
    split at e
    · rename_i n ns en
      obtain ⟨v, rfl, q⟩ := rs.one
      have ex := nums_back en
      subst ex
      cases q with
      | @tup p ws _ q1 q2 =>
        have q5 := nums_rv q2
        subst q5
        rw [← hK] at q1
        obtain ⟨its, iv, pl, few⟩ := I.tuple q1
        rw [L2.Vals.ref1 rv]
        obtain ⟨as, R⟩ := reads_nums (h := s.heap) iv
        have dp := deep_ints (n :: ns)
        have un := hr.un
        rw [List.map_cons] at R dp
        refine PySem.W.max_tuple_data (I.ok.hd hc) pl (by simpa using R) ⟨fun x hx y hy => ?_, fun x hx => ?_⟩ (by rw [dp]; omega) (fun i u h' tk bs hu hR2 hk => ?_)
        · rw [← List.map_cons] at hx hy
          obtain ⟨a, ha, rfl⟩ := List.mem_map.mp hx
          obtain ⟨b, hb, rfl⟩ := List.mem_map.mp hy
          rfl
        · rw [← List.map_cons] at hx
          obtain ⟨a, ha, rfl⟩ := List.mem_map.mp hx
          exact fun z => by cases z
        · have I2 : Inv C pins σ X { s with heap := h', toks := tk } := I.kept (t' := tk) hk
          rw [PySem.W.maxD_ints] at hR2
          cases hR2 with
          | int _ t => exact ⟨.int (maxL (n :: ns)), X, I2, ⟨t, rfl⟩, e r X _ .refl hR (.int _)⟩
    · exact e.elim
  · exact e.elim
instance : CalmN fMaxT := ⟨fun ds h c fs h' e => by
  unfold fMaxT at e
  repeat' (split at e)
  all_goals cases e⟩
/-! ### t.index(k) -/
theorem tmIndexF : L2.MtR C "tuple.index" (rM P mIndexF) := fun pins s σ X x vs u us Q I rx rv ⟨r, h, a, ds, hR, ra, rs, e⟩ => by
  unfold mIndexF at e
  split at e
  · rename_i xs k
    split at e
    · rename_i ns en
      split at e
      · rename_i hk
        have ex := nums_back en
        subst ex
        obtain ⟨v, rfl, rk⟩ := rs.one
        cases rk
        cases ra with
        | @ftup p ob ws _ q1 c1 c2 q2 =>
          have q5 := nums_rv q2
          subst q5
          cases rx
          cases rv with
          | cons r1 r2 =>
            cases r2
            obtain ⟨t, rfl⟩ := r1
            obtain ⟨its, iv, pl, few⟩ := I.tuple (.inl (.inr ⟨ob, q1⟩))
            exact PySem.SeqAt.tuple_index_ints pl iv.ints hk ⟨.int _, X, I.tok _, ⟨_, rfl⟩, e r X _ .refl hR (.int _)⟩
      · exact e.elim
    · exact e.elim
  · exact e.elim
theorem pe_ixF {t : TA} {to : TE} {rr : V → List V → Hp → VK → Prop} (hm : L2.MtR C "tuple.index" rr) (ho : PE C o to) (ha : PA C [e] t) (hbase : attributeBase o "index" C.env (eval o C.env) = eval o C.env := by rfl)
    (hfew : ((backTo cpos (starEach [e] C.env)).all (fun x => !x.1) && (backToKw cpos (keywordEach [] C.env)).all (fun x => x.1.isSome)
      && decide ([e].length + ([] : List Keyword).length + (if ([] : List Keyword).isEmpty then 0 else 1) < 30)) = true := by rfl)
    (hline : (apos.endLine == cpos.line) = true := by rfl) (hs : starEach [e] C.env = (false, eval e C.env) :: starEach [] C.env := by rfl) (hplain : (backTo cpos (starEach [] C.env)).any (·.1) = false := by rfl) :
    PE C (.Call (.Attribute o "index" apos) [e] [] cpos) (fun σ H Q => to σ H fun x H1 => (∃ (p : Addr) (ob : Obj) (u : HO), x = .ref p ∧ H1 p = some (.frz ob u) ∧ ob.cls = .type "tuple" ∧ ob.dict = none) ∧ t σ H1 fun xs H2 => rr x xs H2 Q) := by
  refine ⟨fun pins s σ H Q I h => ?_⟩
  refine wpAny_Call_method_late hbase hfew hline rfl (L2.thn (ho.run pins s σ H _ I h) fun v s1 ⟨x, H1, I1, r1, ⟨p, ob, u, ex, ty, c1, c2⟩, q1⟩ => ?_)
  subst ex
  cases r1
  obtain ⟨hg, _⟩ := I1.hok p _ ty
  refine ⟨"tuple", "tuple.index", PySem.F.plainAttrs_tuple, PySem.F.slot_tuple_index, PySem.F.type_tuple_index, ⟨ob, hg, c1⟩, fun a e => ?_, ?_⟩
  · cases e
    exact ⟨ob, hg, c2⟩
  have hA := ha.run cpos pins s1 σ H1 _ I1 q1
  rw [hs] at hA ⊢
  refine Calls.callWith_builtin (by show (false || (backTo cpos (starEach [] C.env)).any (·.1)) = false; rw [hplain] <;> rfl) (Calls.evalArgs_plain ?_)
  exact L2.thn hA fun us s2 ⟨vs, H2, I2, r2, q2⟩ => hm pins s2 σ H2 (.ref p) vs (.ref p) us Q I2 rfl r2 q2
instance : CalmM mIndexF := ⟨fun o a h c fs h' e => by
  unfold mIndexF at e
  repeat' (split at e)
  all_goals cases e⟩
theorem xIxF (ho : PE C o (tE P w mo)) (he : PE C e (tE P w me)) (hbase : attributeBase o "index" C.env (eval o C.env) = eval o C.env := by rfl) (hline : (apos.endLine == cpos.line) = true := by rfl)
    (hs : starEach [e] C.env = (false, eval e C.env) :: starEach [] C.env := by rfl) : PE C (.Call (.Attribute o "index" apos) [e] [] cpos) (tE P w (eIxF mo (aCons me aNil))) :=
  peW (pe_ixF (tmIndexF (P := P)) ho (xCons he xNil hs) hbase (by rw [hs]; rfl) hline hs rfl) fun σ X Q q => by
    obtain ⟨r, h, l, ds, a1, a2, a3, a4⟩ := bindE (R := relE) (m := mo) (k := fun x _ l h => if isFt x = true then (aCons me aNil l h).bind fun xs h2 => mIndexF x xs h2 else .bad) q
    refine ⟨r, h, l, ds, a1, a2, a3, End.mono (fun v X1 q => ?_) a4⟩
    obtain ⟨r, h, l, ds, a1, a2, a3, a4⟩ := q
    cases a3 with
    | cons b1 b2 =>
      cases b2
      rename_i d
      have a4 : End relE P w r X1 σ (if isFt d = true then (aCons me aNil l h).bind fun xs h2 => mIndexF d xs h2 else .bad) Q := a4
      by_cases hz : isFt d = true
      · rw [if_pos hz] at a4
        refine ⟨?_, r, h, l, [], a1, a2, .nil, End.mono (fun vs X2 ⟨r2, h2, xs, s2, c1, c2, c3⟩ => ?_) (End.bind (R0 := relA) a4)⟩
        · cases b1 with
          | ftup q c1 c2 z => exact ⟨_, _, _, rfl, q, c1, c2⟩
          | _ => cases hz
        · exact ⟨r2, h2, d, xs, c1, b1.mono s2 a1.own, c2, End.calm (CalmM.ne _ _ _) c3⟩
      · rw [if_neg hz] at a4
        exact a4.elim
end
end FL

end

section
set_option Elab.async false
set_option linter.all false
set_option maxRecDepth 100000
set_option maxHeartbeats 3200000
/-! f(k = v, ..): a def called by names. -/
namespace FL
open PySem
open L2 (V Hp HO VK XK TE TT TA TS TG TGs TI Ends PE PT PW PA PS PSs PG PGs PI Cx Inv SqL SqT Rd upd upd_same upd_ne WX Room PK)
structure FnAtK (C : Cx) (P : Pm) (k : Nat) (x : Str) (n : Nat) (ks : List Str) (pm : {α : Type} → List α → List α) (fm : F) : Prop where
  ex : ∃ (f : Addr) (fd : FuncData) (ps : List Str), FnB false C.prog C.w C.K C.mg C.base k f fd ps (spF P n fm) ∧ C.mg x = some (.ref f) ∧ PySem.W.keepIn C.K (.ref f) = true ∧ KwB fd ps ks 0 pm
  ar : ∀ ds h, ds.length ≠ n → fm ds h = .bad
theorem xFnK {g : Bool} {C : Cx} {P : Pm} {w : WX} {k j n : Nat} {ks : List Str} {x : Str} {p pos : Pos} {kws : List Keyword} {mks : A} {fm : F} {pm : {α : Type} → List α → List α} (O : Ord pm) (B : Bd g C w k) (S : FnAtK C P j x n ks pm fm) (hj : j ≤ k) (hg : L2.Gl C x) (ha : PK C kws (tA P w mks)) (hdb : (x == ("__debug__" : Str)) = false := by decide)
    (hall : (backToKw pos (keywordEach kws C.env)).all (·.1.isSome) = true := by rfl) (hks : (backToKw pos (keywordEach kws C.env)).filterMap (·.1) = ks := by rfl) (hpl : ((backTo pos (starEach [] C.env)).any (·.1) || (backToKw pos (keywordEach kws C.env)).any (·.1.isNone)) = false := by rfl)
    (hw : LenA mks ks.length) : PE C (.Call (.Name x p) [] kws pos) (tE P w (eCall fm (aPerm (pm (α := D)) mks))) := by
  refine ⟨fun pins s σ X Q I h => ?_⟩
  obtain ⟨f, fd, ps, F, hm, hkp, kb⟩ := S.ex
  refine wpAny_Call_Name_kw (L2.ld_glob I hg hm ?_ hdb)
  refine PySem.W.callWith_KW0 (first := []) (h₀ := C.base) I.ok.mod.kin hkp hall (L2.thn (ha.run pos pins _ σ X _ I (wLen hw (wKw O (G := fun xs h => fm xs h) h))) fun ws s2 ⟨zs, X2, I2, rv, hl, q⟩ => ⟨I2.kIn, ?_⟩) hpl
  obtain ⟨r, h, xs, a1, a3, a4⟩ := q
  rw [hks]
  obtain ⟨b1, b2⟩ := kb s2 [] ws rfl (by rw [← rv.length]; exact hl)
  exact wpAny_call (code_B (args := ⟨[], ks.zip ws⟩) (us := pm ws) (vs := pm zs) B.lo F hj I2 b2 b1 (O.vals rv) (spOf S.ar ⟨r, h, xs, a1, a3, endWE a4⟩))
end FL

end

section
set_option linter.all false
/-! Lambdas without parameters handed to a def that calls them; tables of code objects as cells. -/
namespace FL
def tabsAt : List PySem.Str → H → Bool
  | [], _ => true
  | q :: qs, .tbl q' :: h => decide (q' = q) && tabsAt qs h
  | _, _ => false
/-- f(lambda: b): f makes of the lambda's own result what it gives -/
def eLam (tabs : List PySem.Str) (f : Res D → Res D) (b : E) : E := fun l h => if tabsAt tabs h = true then f (b l h) else .bad
/-- try: return repr(a()) / except ..: never come to -/
def saidOk (z : Res D) : Res D := match z with
  | .ok d h => fRepr [d] h
  | _ => .bad
/-- repr of an own object alone -/
def fReprX (d : Nat → Option F) : F := fun ds h => match ds with
  | [x] => (match clsOf x h with
    | some _ => fReprO d [x] h
    | none => .bad)
  | _ => .bad
end FL

end

section
set_option Elab.async false
set_option linter.all false
set_option maxRecDepth 100000
set_option maxHeartbeats 1000000
namespace FL
open PySem
open L2 (V Hp HO VK XK St TE TT TA TS TG TGs TI Ends PE PT PW PA PS PSs PG PGs PI Cx Inv SqL SqT Rd upd upd_same upd_ne WX Room)

/-- the tables by their places -/
def tabL (P : Pm) : List (Addr × Str) := P.ts.map fun q => (P.tb q, q)
section
variable {P : Pm} {r : List Addr} {h : H} {X X1 : Hp}
theorem tabs_cell : ∀ (qs : List Str) (h : H), tabsAt qs h = true → ∀ q ∈ qs, ∃ n : Nat, h[n]? = some (Cell.tbl q)
  | [], _, _, q, m => by cases m
  | q0 :: qs, [], e, _, _ => by simp [tabsAt] at e
  | q0 :: qs, .tbl q' :: h, e, q, m => by
    simp only [tabsAt, Bool.and_eq_true, decide_eq_true_eq] at e
    rcases List.mem_cons.mp m with z | z
    · exact ⟨0, by rw [z, ← e.1]; rfl⟩
    · obtain ⟨n, hn⟩ := tabs_cell qs h e.2 q z
      exact ⟨n + 1, by simpa using hn⟩
  | q0 :: qs, .lst _ :: h, e, _, _ => by simp [tabsAt] at e
  | q0 :: qs, .ins _ _ :: h, e, _, _ => by simp [tabsAt] at e
  | q0 :: qs, .dct _ :: h, e, _, _ => by simp [tabsAt] at e
theorem HR.tabs (R : HR P r h X) (t : tabsAt P.ts h = true) : LamX.Tabs (tabL P) X := fun p hp => by
  obtain ⟨q, hq, rfl⟩ := List.mem_map.mp hp
  obtain ⟨n, hn⟩ := tabs_cell P.ts h t q hq
  have hl : n < r.length := by rw [R.len]; exact (List.getElem?_eq_some_iff.mp hn).1
  obtain ⟨⟨_, ha⟩, c⟩ := R.cell n _ _ hn (List.getElem?_eq_getElem hl)
  show LamX.TabS X (P.tb q) q
  rw [← ha]
  exact c
theorem Stp.ofN (e : LamX.ExtN X X1) : Stp r X r X1 := ⟨⟨[], by simp⟩, fun a h1 h2 => absurd h1 h2, fun a u q _ n => e a u q n⟩
theorem HR.ofN (R : HR P r h X) (e : LamX.ExtN X X1) (t : LamX.Tabs (tabL P) X1) : HR P r h X1 := ⟨R.len, R.nd, fun n c a e1 e2 => by
  have q := R.cell n c a e1 e2
  have st : Stp r X r X1 := Stp.ofN e
  cases c with
  | lst xs =>
    obtain ⟨vs, q1, q2⟩ := q
    exact ⟨vs, e _ _ q1 (fun _ z => by cases z), q2.mono st R.own⟩
  | dct kvs =>
    obtain ⟨vs, q1, q2⟩ := q
    exact ⟨vs, q1.to fun u z h1 _ => e _ _ z h1, q2.mono st R.own⟩
  | ins c fs =>
    obtain ⟨dx, vs, q1, q2, q3, q4⟩ := q
    exact ⟨dx, vs, e _ _ q1 (fun _ z => by cases z), e _ _ q2 (fun _ z => by cases z), q3.mono st R.own, q4⟩
  | tbl t1 =>
    obtain ⟨⟨h1, h2⟩, _⟩ := q
    refine ⟨⟨h1, h2⟩, ?_⟩
    rw [h2]
    exact t (P.tb t1, t1) (List.mem_map.mpr ⟨t1, h1, rfl⟩)⟩
theorem End.nos {E : XK} {σ1 σ2 : St} {z : Res D} {Q : VK} (e : End relE P (fun cls dd _ X' => E cls dd X') r X σ1 z Q) : End relE P (fun cls dd _ X' => E cls dd X') r X σ2 z Q := by
  cases z with
  | ok d h' => exact e
  | ex c fs h' => exact e
  | bad => exact e
end
/-- what a def that calls its lambda makes of the lambda's result -/
def TSaid (P : Pm) (f : Res D → Res D) : (XK → Hp → VK → Prop) → Hp → VK → Prop := fun tl X Q =>
  ∃ r h th, HR P r h X ∧ (∀ (E : XK) (Q' : VK), End relE P (fun cls dd _ X' => E cls dd X') r X [] th Q' → tl E X Q') ∧ End relE P (fun _ _ _ _ => False) r X [] (f th) Q
section
variable {C : Cx} {P : Pm} {w : WX}
/-- x(lambda: body) -/
theorem xLam {f : Res D → Res D} {b : E} {x a : Str} {g c : Addr} {k : Nat} {pg : Arguments} {bg : List Stmt} {sg : Scope} {fd : FuncData} {Ng : List Str} {params : Arguments} {body : Expr} {scope : Scope} {p lpos pos : Pos}
    (hts : (C.env.qual ++ "<lambda>") ∈ P.ts ∧ ∀ q ∈ P.ts, P.tb q = P.tb (C.env.qual ++ "<lambda>") → q = C.env.qual ++ "<lambda>")
    (hf : ∀ z cc fs h', f z ≠ .ex cc fs h') (hg : L2.Gl C x) (hm : C.mg x = some (.ref g)) (hk : PySem.W.keepIn C.K (.ref g) = true) (F : L2.FunD C.K x x pg bg sg [] [] g fd) (bn : L2.Binds C.K fd [a] [])
    (Sg : L2.FnScope Ng [a] sg) (hNg : Ng[0]? = some a) (hva : L2.Vis sg a) (hG : ∀ cdv : Value, LamX.GivesTo C Ng x sg g cdv bg a (C.env.qual ++ "<lambda>") (TSaid P f))
    (TB : LamX.TabB C.base C.mg c (P.tb (C.env.qual ++ "<lambda>"))) (hcode : C.env.code = .ref c) (hr : Room (k + 2) C.A) (L : LamX.LamS C.env.scope scope) (hdef : defaultsOf params C.env = ([], []))
    (hbind : ∀ (q : Str) (cl : List (Str × Addr)) (pm cv ctv : Value), bindArgs (PySem.W.kla_fn "<lambda>" q params body scope cl pm cv ctv) ⟨[], []⟩ = pure [])
    (hbody : ∀ (A : Around) (outer : List Env) (s : Shared) (X : Hp) (Ex : XK) (f c' : Addr), Bd false (LamX.lamCx C A outer s X Ex scope f c') (fun cls dd _ X' => Ex cls dd X') k → PE (LamX.lamCx C A outer s X Ex scope f c') body (tE P (fun cls dd _ X' => Ex cls dd X') b))
    (hdb : (x == ("__debug__" : Str)) = false := by decide) (hd : (a == ("__debug__" : Str)) = false := by decide) (hcd : (a == ("__classdict__" : Str)) = false := by decide) :
    PE C (.Call (.Name x p) [.Lambda params body scope lpos] [] pos) (tE P w (eLam P.ts f b)) := by
  obtain ⟨oc, od, dV, kV, doc, pm, an, cdv, ct, osl, rfl, lk, hcdd, _, _⟩ := F.ex
  refine peW (LamX.pe_lamcall (T := tabL P) (TT := TSaid P f) (t := fun Ex => tE P (fun cls dd _ X' => Ex cls dd X') b) hg hm hk lk hcdd bn Sg hNg hva (hG cdv) TB hcode (List.mem_map.mpr ⟨_, hts.1, rfl⟩) (fun q hq e => ?_) hr L hdef hbind (fun A outer s X Ex f c' hr2 => hbody A outer s X Ex f c' ⟨hr2, (fun z => by cases z), L2.takes_of rfl rfl rfl rfl, L2.passes_of rfl, rfl⟩) hdb hd hcd) fun σ X Q e => ?_
  · obtain ⟨q0, h0, rfl⟩ := List.mem_map.mp hq
    exact hts.2 q0 h0 e
  · obtain ⟨r, h, l, ds, a1, a2, a3, a4⟩ := e
    have a4 : End relE P w r X σ (eLam P.ts f b l h) Q := a4
    unfold eLam at a4
    by_cases t : tabsAt P.ts h = true
    · rw [if_pos t] at a4
      refine ⟨a1.tabs t, fun X1 eN t1 => ⟨r, h, b l h, a1.ofN eN t1, fun Ex Q' z => ?_, ?_⟩⟩
      · exact ⟨r, h, l, [], a1.ofN eN t1, a2.mono (Stp.ofN eN) a1.own, .nil, End.nos z⟩
      · have s1 := End.step (Stp.ofN (r := r) eN) a4
        revert s1
        cases q : f (b l h) with
        | ok d h' => exact fun s1 => s1
        | ex cc fs h' => exact absurd q (hf _ _ _ _)
        | bad => exact fun s1 => s1
    · rw [if_neg t] at a4
      exact a4.elim
theorem saidOk_no : ∀ z cc fs h', saidOk z ≠ .ex cc fs h' := fun z cc fs h' e => by
  cases z with
  | ok d h => exact (inferInstance : CalmN fRepr).no _ _ _ _ _ e
  | ex _ _ _ => cases e
  | bad => cases e
/-- def x(a): try: return repr(a()) / except e as n: (never come to) -/
theorem said_gives {Ng : List Str} {x a e n q : Str} {sg : Scope} {g CS : Addr} {cdg : Value} {k : Nat} {b0 : Stmt} {suite : List Stmt} {p0 p1 p2 p3 p4 p5 p6 p7 : Pos} (hK : C.K = P.K) (hgd : C.A.guards = some []) (hr : Room (k + 3) C.A) (hN : Ng.Nodup) (hn : Ng[1]? = some n) (hln : sg.names.lookup n = some .local) (hgr : sg.names.lookup ("repr" : Str) = some .globalImplicit) (hmr : C.mg ("repr" : Str) = none)
    (hge : sg.names.lookup e = some .globalImplicit) (hme : C.mg e = some (.ref CS)) (hde : (e == ("__debug__" : Str)) = false) (h0 : ∀ f : Addr, (L2.start Ng [V.ref f])[0]? = some (some (V.ref f))) :
    LamX.GivesTo C Ng x sg g cdg [.Try [.Return (some (.Call (.Name "repr" p0) [.Call (.Name a p1) [] [] p2] [] p3)) p4] [.ExceptHandler (some (.Name e p5)) (some n) (b0 :: suite) p6] [] [] p7] a q (TSaid P saidOk) := by
  intro f c' s X Q tl act hc ht
  have hgl : L2.Gl (L2.cxOf C8.CX0 C.prog C.w C.K C.mg C.base Ng x sg g cdg C.A C.stack s X C8.E0).nox e := hge
  refine ⟨_, L2.pss_one (L2.ps_try_as (X := (L2.cxOf C8.CX0 C.prog C.w C.K C.mg C.base Ng x sg g cdg C.A C.stack s X C8.E0).nox) (i := 1) (c := .ref CS) (Wout := fun _ _ _ _ => False)
      (tb := fun W D σ X => σ[0]? = some (some (.ref f)) ∧ X c' = some (LamX.CodeO c' q) ∧ tl (fun _ _ _ => False) X fun v X1 => rN P fRepr [v] X1 D.rt)
      (ts := fun _ _ _ => L2.tNever) rfl rfl hN hn hln ⟨hgl, hde, .inl hme⟩ LamX.takes0 (fun W pn xe tk _ => ?_) (fun a oe cls d pn _ _ => L2.pss_never)), ?_⟩
  · have hp := act W pn xe (fun _ _ _ => False) p1 p2 tk (fun _ _ _ _ z => z.elim)
    have rm : Room (k + 1) (C.A.deeper (PyProof.Rows.envOfC x sg s.heap.objs.size g cdg)) := Room.deeper (hr.mono (by omega)) _
    have cr := cRepr (C := (L2.cxOf C8.CX0 C.prog C.w C.K C.mg C.base Ng x sg g cdg C.A C.stack s X C8.E0).tr pn xe) (P := P) (j := k + 1) hK hgd rm
    have hq := L2.pss_one (L2.ps_ret (pos := p4) (L2.pe_callB (p := p0) (pos := p3) (x := ("repr" : Str)) cr hgr hmr (by decide +kernel) (L2.pa_cons hp L2.pa_nil) (by decide) (by decide)))
    exact ⟨fun pins s' σ X' D I ⟨h1, h2, h3⟩ => hq.run pins s' σ X' D I ⟨h1, h2, h3⟩⟩
  · obtain ⟨r, h, th, R, d1, d2⟩ := ht
    refine ⟨h0 f, hc, d1 _ _ ?_⟩
    revert d2
    cases th with
    | ok d h' => exact fun d2 r' X' v s hr hv => ⟨r', h', [d], hr, .cons hv .nil, End.calm (fun c fs h' e => (inferInstance : CalmN fRepr).no _ _ _ _ _ e) (End.step s d2)⟩
    | ex c fs h' => exact fun d2 => (show False from d2).elim
    | bad => exact fun d2 => (show False from d2).elim
end
/-! ### as hypotheses -/
def Lw (K : PySem.W.Frag) (mg : Str → Option Value) (x a : Str) (st : Stmt) : Prop := ∃ g fd, L2.FunD K x x (L2.defArgs st) (L2.defBody st) (L2.defScope st) [] [] g fd ∧ mg x = some (.ref g) ∧ PySem.W.keepIn K (.ref g) = true ∧ L2.Binds K fd [a] []
section
variable {C : Cx} {P : Pm} {w : WX}
theorem xLamW {f : Res D → Res D} {b : E} {x a : Str} {c : Addr} {k : Nat} {st : Stmt} {Ng : List Str} {params : Arguments} {body : Expr} {scope : Scope} {p lpos pos : Pos}
    (hts : (C.env.qual ++ "<lambda>") ∈ P.ts ∧ ∀ q ∈ P.ts, P.tb q = P.tb (C.env.qual ++ "<lambda>") → q = C.env.qual ++ "<lambda>")
    (hf : ∀ z cc fs h', f z ≠ .ex cc fs h') (hg : L2.Gl C x) (hl : Lw C.K C.mg x a st)
    (Sg : L2.FnScope Ng [a] (L2.defScope st)) (hNg : Ng[0]? = some a) (hva : L2.Vis (L2.defScope st) a) (hG : ∀ (g : Addr) (cdv : Value), LamX.GivesTo C Ng x (L2.defScope st) g cdv (L2.defBody st) a (C.env.qual ++ "<lambda>") (TSaid P f))
    (TB : LamX.TabB C.base C.mg c (P.tb (C.env.qual ++ "<lambda>"))) (hcode : C.env.code = .ref c) (hr : Room (k + 2) C.A) (L : LamX.LamS C.env.scope scope) (hdef : defaultsOf params C.env = ([], []))
    (hbind : ∀ (q : Str) (cl : List (Str × Addr)) (pm cv ctv : Value), bindArgs (PySem.W.kla_fn "<lambda>" q params body scope cl pm cv ctv) ⟨[], []⟩ = pure [])
    (hbody : ∀ (A : Around) (outer : List Env) (s : Shared) (X : Hp) (Ex : XK) (f c' : Addr), Bd false (LamX.lamCx C A outer s X Ex scope f c') (fun cls dd _ X' => Ex cls dd X') k → PE (LamX.lamCx C A outer s X Ex scope f c') body (tE P (fun cls dd _ X' => Ex cls dd X') b))
    (hdb : (x == ("__debug__" : Str)) = false := by decide) (hd : (a == ("__debug__" : Str)) = false := by decide) (hcd : (a == ("__classdict__" : Str)) = false := by decide) :
    PE C (.Call (.Name x p) [.Lambda params body scope lpos] [] pos) (tE P w (eLam P.ts f b)) := by
  obtain ⟨g, fd, F, hm, hk, bn⟩ := hl
  exact xLam hts hf hg hm hk F bn Sg hNg hva (fun cdv => hG g cdv) TB hcode hr L hdef hbind hbody hdb hd hcd
end
section
variable {g : Bool} {Pg : Program} {wd : World} {K : PySem.W.Frag} {mg : Str → Option Value} {base : Heap} {k n : Nat} {f : Addr} {fd : FuncData} {P : Pm} {x qual : Str} {params : Arguments} {body : List Stmt} {scope : Scope} {N ps : List Str} {m : S}
/-- a def that makes lambdas: its code object is known -/
theorem okDefL (c : Addr) (nn kk : Nat) (hn : N.length = nn) (hk : ps.length = kk) (F : L2.FunD K x qual params body scope [] [] f fd) (S : L2.FnScope N ps scope) (hb : ∀ us : List Value, us.length = ps.length → ∀ s, BindsTo s fd ⟨us, []⟩ (ps.zip us))
    (hc : ∀ oc od osl c', K.lookup f = some ⟨oc, od, .func fd, osl⟩ → fd.code = .ref c' → c' = c)
    (hbody : ∀ (A : Around) (outer : List Env) (s : Shared) (X : Hp) (Ex : XK), Bd g (L2.cxOf (L2.CX Pg wd) Pg wd K mg base N qual scope f (.ref c) A outer s X Ex) (fun cls dd _ X' => Ex cls dd X') k →
      PSs (L2.cxOf (L2.CX Pg wd) Pg wd K mg base N qual scope f (.ref c) A outer s X Ex) body (tS P (fun cls dd _ X' => Ex cls dd X') m)) : FnX g Pg wd K mg base (k + 1) f (spF P kk (fn nn kk m)) := by
  intro A outer s X us vs Q Ex hr hg e0 rv hs
  obtain ⟨oc, od, dV, kV, doc, pm, an, cdv, ct, osl, rfl, lk, hcd, hD, _⟩ := F.ex
  obtain ⟨c', rfl⟩ := He.codeIn_ref hcd
  obtain rfl := hc _ _ _ c' lk rfl
  have hl : vs.length = ps.length := by rw [hk]; exact hs.1
  refine LamX.run_ofS lk hcd S hr e0 (hb us (by rw [← rv.length]; exact hl) s) rv hl fun hr' => ?_
  exact ⟨_, hbody A outer s X Ex ⟨hr', hg, L2.takes_of rfl rfl rfl rfl, L2.passes_of rfl, rfl⟩, body_ok nn kk hn hs⟩
end
/-! ### repr of an own object -/
instance (d : Nat → Option F) : CalmN (fReprX d) := ⟨fun a h c fs h' e => by
  unfold fReprX at e
  split at e
  · split at e
    · exact (inferInstance : CalmN (fReprO d)).no _ _ _ _ _ e
    · cases e
  · cases e⟩
theorem cReprX {C : Cx} {P : Pm} {j : Nat} {d : Nat → Option F} (hK : C.K = P.K) (hr : Room (j + 1) C.A) (hd : Spec C P j "__repr__" d) : L2.CallR C (.builtin "repr") (rN P (fReprX d)) := fun pins s σ X xs us Q I rv ⟨r, h, ds, a1, rs, e⟩ => by
  unfold fReprX at e
  split at e
  · obtain ⟨v, rfl, b1⟩ := RVs.one rs
    split at e
    · rename_i c1 hc1
      have e : End relE P (fun _ _ _ _ => False) r X [] (fReprO d [_] h) Q := e
      unfold fReprO at e
      dsimp only at e
      rw [hc1] at e
      obtain ⟨c, a, dx, fs, fm, e0, rfl, e2, e3, ⟨f, F, h1, h2, h4, h5⟩, q⟩ := spcAt hd a1 b1 .nil e
      obtain ⟨ox, od, J⟩ := insAt I e2
      obtain ⟨m, hF⟩ := I.fr
      cases rv with
      | cons u1 u2 =>
        cases u2
        obtain rfl : _ = Value.ref a := u1
        refine PySem.W.repr_K (by have := hr.un; show C.A.units + 1 < cLine; omega) hF I.ok.mod.kin J h1 h2 (wpAny_mono (runT I.env0.in1 hr.in1 F I (.cons (rvRef a) .nil) q) (fun u s' z => ?_) fun _ _ z => z)
        obtain ⟨v, X1, I1, ru, r1, h1, z, b1, b2, b3⟩ := z
        unfold bkStr at b3
        split at b3
        · cases b2
          have q := b3 r1 X1 _ .refl b1 (.str _)
          obtain ⟨t, rfl⟩ := ru
          exact ⟨.str _, X1, I1, ⟨_, rfl⟩, q⟩
        · exact b3.elim
    · exact e.elim
  · exact e.elim
end FL

end

section
set_option Elab.async false
set_option linter.all false
set_option maxRecDepth 100000
set_option maxHeartbeats 2000000
/-! A law's end where defs of it make lambdas: their tables of code objects are the first cells. -/
namespace FL
open PySem PyProof.Rows
open He (DefD AlD frT asD cT tabsB emptyTab)
open L2 (V Hp HO VK XK St Inv SqL SqT upd Room hidT)
/-- the tables at cs stand empty, out of the written part; their code objects stand -/
structure TbF (K : PySem.W.Frag) (cs : List (Addr × Addr)) (h : Heap) : Prop where
  emp : ∀ p ∈ cs, h.get? p.2 = some { cls := .none, data := .fields #[] }
  out : ∀ p ∈ cs, K.lookup p.2 = none
  hd : ∀ p ∈ cs, PySem.W.CodeHd h p.1 p.2
/-- nothing is tracked but the script and tables -/
def OnlyT (X : Hp) : Prop := ∀ b, X b = none ∨ (∃ ps, X b = some (.tbl ps)) ∨ ∃ o xs, X b = some (.frz o (.lst xs))
section
variable {Pg : Program} {wd : World} {K : PySem.W.Frag} {mg mb : Str → Option Value} {k : Nat} {fa a : Addr} {s : Shared} {us : List Value} {ns : List Int} {P : Pm} {m : F} {cs : List (Addr × Addr)} {X : Hp}
theorem scrAtT {vs : List V} (o : OnlyT X) (q : SqL K X a vs) : ScrAt K X a vs := by
  rcases q with (q | ⟨ob, q⟩) | q
  · rcases o a with z | ⟨ps, z⟩ | ⟨ob, xs, z⟩ <;> rw [q] at z <;> cases z
  · exact .inl ⟨ob, q⟩
  · exact .inr (.inr q)
theorem hrT (hX : ∀ p ∈ cs, X p.2 = some (.tbl #[])) (nd : (cs.map (·.2)).Nodup) (eT : cs.map (·.2) = P.ts.map P.tb) : HR P (cs.map (·.2)) (P.ts.map Cell.tbl) X := by
  refine ⟨by rw [eT, List.length_map, List.length_map], nd, fun n c b e1 e2 => ?_⟩
  rw [List.getElem?_map] at e1
  obtain ⟨q, hq, rfl⟩ := Option.map_eq_some_iff.mp e1
  have e3 := e2
  rw [eT, List.getElem?_map, hq] at e3
  have e3 : P.tb q = b := Option.some.inj e3
  obtain ⟨p, hp, ep⟩ := List.mem_map.mp (List.mem_of_getElem? e2)
  refine ⟨⟨List.mem_of_getElem? hq, e3.symm⟩, LamX.TabS.nil ?_⟩
  rw [← ep]
  exact hX p hp
theorem sp_lawT (hPK : P.K = K) (o : OnlyT X) (hX : ∀ p ∈ cs, X p.2 = some (.tbl #[])) (nd : (cs.map (·.2)).Nodup) (eT : cs.map (·.2) = P.ts.map P.tb) (q : SqL K X a (ns.map V.int)) (hm : ∃ h', m [.scr ns] (P.ts.map Cell.tbl) = .ok (.bl true) h') : spF P 1 m [.ref a] X (fun v _ => v = .bl true) fun _ _ _ => False := by
  obtain ⟨h', e⟩ := hm
  subst hPK
  refine ⟨rfl, _, _, [.scr ns], hrT hX nd eT, .cons (.scr (scrAtT o q)) .nil, ?_⟩
  rw [e]
  intro r X1 b _ _ rb
  have rb : RV P.K X1 r (.bl true) b := rb
  cases rb
  rfl
theorem law_atT (KX : K.In s.heap) (g1 : s.heap.Ns mainGlobals mg) (g2 : s.heap.Ns builtinsNs mb) (g3 : ∀ x : Str, x ≠ "__name__" → mb x = bootBuiltins x) (g4 : s.heap.NoLimit) (g5 : s.gens = #[]) (tf : TbF K cs s.heap)
    (gb : ∃ (bm : Addr) (ob : Obj), mg "__builtins__" = some (.ref bm) ∧ bm ≠ builtinsNs ∧ s.heap.get? bm = some ob ∧ ob.cls = .type "module" ∧ ob.dict = some builtinsNs ∧ ob.data = .plain)
    (go : s.heap.get? a = some { cls := .type "list", data := .seq us.toArray }) (rm : Room k callerA) (hg : callerA.guards = some [])
    (F : ∀ base : Heap, K.In base → base.Ns mainGlobals mg → (∀ p ∈ cs, LamX.TabB base mg p.1 p.2) → FnX true Pg wd K mg base k fa (spF P 1 m)) (hPK : P.K = K) (hX : ∀ p ∈ cs, X p.2 = some (.tbl #[])) (nd : (cs.map (·.2)).Nodup) (eT : cs.map (·.2) = P.ts.map P.tb)
    (hm : ∃ h', m [.scr ns] (P.ts.map Cell.tbl) = .ok (.bl true) h') (o : OnlyT X) (q : SqL K X a (ns.map V.int)) (ok : L2.HOk Pg wd X s.heap) (one : ∀ b, X b ≠ none → b = a ∨ b ∈ cs.map (·.2)) (own : X a ≠ none → K.lookup a = none) :
    codeAny (model Pg wd) callerA (.call (.ref fa) ⟨[.ref a], []⟩) (fun r s' => r = .ok (.ret (.bool true)) ∧ OldK s.heap s'.heap ∧ s'.os = s.os ∧ AllBare s'.gens) s := by
  have isT : ∀ b, b ∈ cs.map (·.2) → s.heap.get? b = some { cls := .none, data := .fields #[] } := fun b hb => by
    obtain ⟨p, hp, rfl⟩ := List.mem_map.mp hb
    exact tf.emp p hp
  have nota : ∀ {b : Addr} {ob : Obj}, s.heap.get? b = some ob → ob ≠ { cls := .type "list", data := .seq us.toArray } → ob ≠ { cls := .none, data := .fields #[] } → X b = none := fun {b ob} e n1 n2 => by
    cases z : X b with
    | none => rfl
    | some u =>
      rcases one b (by rw [z]; simp) with z1 | z1
      · rw [z1, go] at e
        exact absurd (Option.some.inj e).symm n1
      · rw [isT b z1] at e
        exact absurd (Option.some.inj e).symm n2
  have keepNs : ∀ {b : Addr} {f : Str → Option Value}, s.heap.Ns b f → (hidT s.heap X).Ns b f := fun {b f} ⟨ob, es, ep, e, d, r⟩ => ⟨ob, es, ep, L2.hidT_get e (nota e (fun z => by rw [z] at d; cases d) fun z => by rw [z] at d; cases d), d, r⟩
  have KB : K.In (hidT s.heap X) := fun b ob e => L2.hidT_get (KX b ob e) (by
    cases z : X b with
    | none => rfl
    | some u =>
      rcases one b (by rw [z]; simp) with z1 | z1
      · rw [z1] at e z
        rw [own (by rw [z]; simp)] at e
        cases e
      · obtain ⟨p, hp, ep⟩ := List.mem_map.mp z1
        rw [← ep, tf.out p hp] at e
        cases e)
  obtain ⟨mc, c1, c2⟩ := g4
  have M : L2.Mod K mg (hidT s.heap X) := ⟨KB, keepNs g1, ⟨mb, keepNs g2, g3⟩, ⟨mc, keepNs c1, c2⟩⟩
  have nofs : ∀ b : Addr, b ∈ ([] : List Addr) → X b = none := fun b z => by cases z
  have e0 : L2.Env0 Pg wd K mg (hidT s.heap X) callerA [] s X := ⟨rfl, M, fun b ob e => L2.of_hidT e, Nat.le_of_eq (L2.hidT_size _ _), trivial, nofs, ok, .of_eq g5⟩
  have notGl : ∀ {b : Addr} {ob : Obj}, s.heap.get? b = some ob → (∀ es ep, ob.data ≠ .dict es ep) → b ≠ mainGlobals := fun {b ob} e n z => by
    obtain ⟨og, es, ep, e2, d, _⟩ := g1
    rw [z, e2] at e
    cases e
    exact n _ _ d
  have TB : ∀ p ∈ cs, LamX.TabB (hidT s.heap X) mg p.1 p.2 := fun p hp => by
    refine ⟨?_, ?_, fun z => notGl (tf.emp p hp) (fun _ _ d => by cases d) z.symm⟩
    · obtain ⟨oc, vs, x1, x2, x3, x4, x5, x6, x7, y1, y2, y3, y4, y5, y6, y7, y8, y9, y10⟩ := tf.hd p hp
      have nn : X p.1 = none := nota y1 (fun z => by rw [z] at y3; cases y3) fun z => by
        rw [z] at y3
        cases y3
        simp at y4
      exact ⟨oc, vs, x1, x2, x3, x4, x5, x6, x7, L2.hidT_get y1 nn, y2, y3, y4, y5, y6, y7, y8, y9, y10⟩
    · obtain ⟨bm, ob, b1, b2, b3, b4, b5, b6⟩ := gb
      have nP : bm ≠ p.2 := fun z => by
        rw [z, tf.emp p hp] at b3
        cases b3
        cases b6
      exact ⟨bm, ob, b1, b2, notGl b3 (fun _ _ d => by rw [b6] at d; cases d), nP, L2.hidT_get b3 (nota b3 (fun z => by rw [z] at b6; cases b6) fun z => by rw [z] at b6; cases b6), b4, b5, b6⟩
  refine codeAny_mono (F _ KB (keepNs g1) TB callerA [] s X [.ref a] [.ref a] (fun v _ => v = .bl true) (fun _ _ _ => False) rm (fun _ => hg) e0 (.cons rfl .nil) (sp_lawT hPK o hX nd eT q hm)) fun z s' hz => ?_
  match z, hz with
  | .error u, hz =>
    obtain ⟨_, _, _, _, _, _, _, _, _, _, _, _, z⟩ := hz
    exact z.elim
  | .ok .next, hz => exact hz.elim
  | .ok .brk, hz => exact hz.elim
  | .ok .cont, hz => exact hz.elim
  | .ok (.ret u), hz =>
    obtain ⟨v, X', t1, t2, un, ok', ru, t3⟩ := hz
    obtain rfl : v = .bl true := t3
    obtain rfl : u = Value.bool true := ru
    have same : ∀ b ob, b ∉ cs.map (·.2) → s.heap.get? b = some ob → s'.heap.get? b = some ob := fun b ob hb e => by
      cases z : X b with
      | none => exact un.keep b ob e z (fun z => by cases (show b ∈ ([] : List Addr) from z)) (by simp)
      | some u =>
        rcases one b (by rw [z]; simp) with z1 | z1
        · rcases o b with y | ⟨ps, y⟩ | ⟨oo, xs, y⟩
          · rw [z] at y
            cases y
          · have p1 : s.heap.get? b = some { cls := .none, data := .fields ps } := ok b _ y
            rw [z1, go] at p1
            cases p1
          · obtain ⟨p1, _⟩ := ok b _ y
            obtain ⟨p2, _⟩ := ok' b _ (un.frzs b oo _ y)
            rw [e] at p1
            cases p1
            exact p2
        · exact absurd z1 hb
    have more : ∀ p ∈ cs, ∃ vs : Array Value, s'.heap.get? p.2 = some { cls := .none, data := .fields vs } := fun p hp => by
      obtain ⟨vs, e⟩ := un.tbls p.2 #[] (hX p hp)
      exact ⟨_, ok' p.2 _ e⟩
    refine ⟨rfl, ⟨fun b ob e => ?_, fun b ob e => ?_⟩, t1, t2⟩
    · by_cases hb : b ∈ cs.map (·.2)
      · obtain ⟨p, hp, rfl⟩ := List.mem_map.mp hb
        obtain ⟨vs, e2⟩ := more p hp
        rw [tf.emp p hp] at e
        cases e
        exact .inr (.inl ⟨((tf.hd p hp).tab (tf.emp p hp)).isCodeTable, rfl, #[], vs, rfl, by rw [Array.empty_append]; exact e2⟩)
      · exact .inl (same b ob hb e)
    · by_cases hb : b ∈ cs.map (·.2)
      · obtain ⟨p, hp, rfl⟩ := List.mem_map.mp hb
        obtain ⟨vs, e2⟩ := more p hp
        exact ⟨_, e2⟩
      · exact ⟨ob, same b ob hb e⟩
theorem law_runT (KX : K.In s.heap) (g1 : s.heap.Ns mainGlobals mg) (g2 : s.heap.Ns builtinsNs mb) (g3 : ∀ x : Str, x ≠ "__name__" → mb x = bootBuiltins x) (g4 : s.heap.NoLimit) (g5 : s.gens = #[]) (tf : TbF K cs s.heap)
    (gb : ∃ (bm : Addr) (ob : Obj), mg "__builtins__" = some (.ref bm) ∧ bm ≠ builtinsNs ∧ s.heap.get? bm = some ob ∧ ob.cls = .type "module" ∧ ob.dict = some builtinsNs ∧ ob.data = .plain)
    (go : s.heap.get? a = some { cls := .type "list", data := .seq us.toArray }) (gi : IntsAre us ns) (gl : ns.length ≤ sizeLine) (rm : Room k callerA) (hg : callerA.guards = some [])
    (F : ∀ base : Heap, K.In base → base.Ns mainGlobals mg → (∀ p ∈ cs, LamX.TabB base mg p.1 p.2) → FnX true Pg wd K mg base k fa (spF P 1 m)) (hPK : P.K = K) (nd : (cs.map (·.2)).Nodup) (eT : cs.map (·.2) = P.ts.map P.tb)
    (hm : ∃ h', m [.scr ns] (P.ts.map Cell.tbl) = .ok (.bl true) h') :
    codeAny (model Pg wd) callerA (.call (.ref fa) ⟨[.ref a], []⟩) (fun r s' => r = .ok (.ret (.bool true)) ∧ OldK s.heap s'.heap ∧ s'.os = s.os ∧ AllBare s'.gens) s := by
  have rv := L2.vals_ints gi
  have lv := gi.length
  have isT : ∀ b, b ∈ cs.map (·.2) → s.heap.get? b = some { cls := .none, data := .fields #[] } := fun b hb => by
    obtain ⟨p, hp, rfl⟩ := List.mem_map.mp hb
    exact tf.emp p hp
  have na : a ∉ cs.map (·.2) := fun z => by
    have e := isT a z
    rw [go] at e
    cases e
  let Y : Hp := fun b => if b ∈ cs.map (·.2) then some (.tbl #[]) else none
  have Y1 : ∀ b, b ∈ cs.map (·.2) → Y b = some (.tbl #[]) := fun b hb => if_pos hb
  have Y0 : ∀ b, b ∉ cs.map (·.2) → Y b = none := fun b hb => if_neg hb
  have mT : ∀ p ∈ cs, p.2 ∈ cs.map (·.2) := fun p hp => List.mem_map.mpr ⟨p, hp, rfl⟩
  cases hk : K.lookup a with
  | some ob =>
    have e := KX a ob hk
    rw [go] at e
    cases e
    refine law_atT KX g1 g2 g3 g4 g5 tf gb go rm hg F hPK (X := Y) (fun p hp => Y1 _ (mT p hp)) nd eT hm (fun b => ?_) (.inr ⟨_, us.toArray, _, hk, rfl, rfl, rfl, by rw [List.size_toArray, lv]; exact gl, by simpa using rv⟩) (fun b u z => ?_) (fun b z => ?_) fun z => absurd (Y0 a na) z
    · by_cases hb : b ∈ cs.map (·.2)
      · exact .inr (.inl ⟨_, Y1 b hb⟩)
      · exact .inl (Y0 b hb)
    · by_cases hb : b ∈ cs.map (·.2)
      · rw [Y1 b hb] at z
        cases z
        exact isT b hb
      · rw [Y0 b hb] at z
        cases z
    · by_cases hb : b ∈ cs.map (·.2)
      · exact .inr hb
      · exact absurd (Y0 b hb) z
  | none =>
    let it : HO := .frz { cls := .type "list", data := .seq us.toArray } (.lst (ns.map V.int))
    let Z : Hp := fun b => if b = a then some it else Y b
    have at1 : Z a = some it := if_pos rfl
    have at0 : ∀ b, b ≠ a → Z b = Y b := fun b z => if_neg z
    refine law_atT KX g1 g2 g3 g4 g5 tf gb go rm hg F hPK (X := Z) (fun p hp => (at0 _ fun z => na (by rw [← z]; exact mT p hp)).trans (Y1 _ (mT p hp))) nd eT hm (fun b => ?_) (.inl (.inr ⟨_, at1⟩)) (fun b u z => ?_) (fun b z => ?_) fun _ => hk
    · by_cases e : b = a
      · rw [e]
        exact .inr (.inr ⟨_, _, at1⟩)
      · rw [at0 b e]
        by_cases hb : b ∈ cs.map (·.2)
        · exact .inr (.inl ⟨_, Y1 b hb⟩)
        · exact .inl (Y0 b hb)
    · by_cases e : b = a
      · subst e
        have z := at1.symm.trans z
        cases z
        exact ⟨go, by rw [List.length_map]; exact gl, us, _, rv, go⟩
      · rw [at0 b e] at z
        by_cases hb : b ∈ cs.map (·.2)
        · rw [Y1 b hb] at z
          cases z
          exact isT b hb
        · rw [Y0 b hb] at z
          cases z
    · by_cases e : b = a
      · exact .inl e
      · rw [at0 b e] at z
        by_cases hb : b ∈ cs.map (·.2)
        · exact .inr hb
        · exact absurd (Y0 b hb) z
end
/-- from the facts behind the top to the law -/
theorem walkT {l : PySem.W.OpenLaw} {n k : Nat} {q : Program} {loose : List Str} {XP : (Str → Option Value) → Heap → Prop} {YP : World → Heap → Prop} {d : DefRec} (hn : l.most = some n) (hn2 : n ≤ sizeLine) (hdf : d.params.defaults = []) (rm : Room k callerA)
    (F : ∀ (w : World) (mg : Str → Option Value) (fa : Addr) (h : Heap), YP w h → h.Ns mainGlobals mg → mg d.name = some (.ref fa) → ∃ (K : PySem.W.Frag) (P : Pm) (cs : List (Addr × Addr)) (m : FL.F), P.K = K ∧ K.In h ∧ TbF K cs h ∧ (cs.map (·.2)).Nodup ∧ cs.map (·.2) = P.ts.map P.tb ∧
      (∀ base : Heap, (∀ p ∈ cs, LamX.TabB base mg p.1 p.2) → FnX true l.prog w K mg base k fa (spF P 1 m)) ∧ ∀ ns : List Int, ns.length ≤ n → ∃ h', m [.scr ns] (P.ts.map Cell.tbl) = .ok (.bl true) h') : PySem.W.WalkO q loose XP YP l.row.toRowW d [] (fun f vs => PySem.call f vs) := by
  refine Att.attach_call hn hdf fun w s0 s1 mg mb fa ob pm cd doc a us ns G Y t1 t2 t3 hmg go gi gl g5 => ?_
  obtain ⟨K, P, cs, m, hPK, KX, tf, nd, eT, hF, hm⟩ := F w mg fa _ Y G.T.g hmg
  exact law_runT KX G.T.g G.T.b G.T.builtins G.T.nolimit g5 tf G.T.bmain go gi (Nat.le_trans gl hn2) rm rfl (fun base _ _ tb => hF base tb) hPK nd eT (hm ns gl)
/-! ### the hook -/
structure SaysG (fa : List He.Fa) (fn : List DefD) (ex : PySem.W.Frag → Bool) (pd : List PD) (tf : List He.Defn) (h : Heap) (K : PySem.W.Frag) : Prop where
  f : SaysF fa fn ex pd K
  tb : TbF K (tf.map (cT K)) h
abbrev AlG : Type := AlF × Bool
def obsGG (n : Nat) (fa : List He.Fa) (fn : List DefD) (ex : PySem.W.Frag → Bool) (pd : List PD) (tf : List He.Defn) (g : Addr → Option Obj) : AlG :=
  (obsF fa fn ex pd (frT g (cStatics :: asD g n)), tabsB g tf (frT g (cStatics :: asD g n)))
theorem saysG_of {n : Nat} {fa : List He.Fa} {fn : List DefD} {ex : PySem.W.Frag → Bool} {pd : List PD} {tf : List He.Defn} {h : Heap} (e : obsGG n fa fn ex pd tf h.get? = (valF fn pd, true)) : SaysG fa fn ex pd tf h (frT h.get? (cStatics :: asD h.get? n)) := by
  have e1 : obsF fa fn ex pd (frT h.get? (cStatics :: asD h.get? n)) = valF fn pd := congrArg (fun z : AlG => z.1) e
  have e2 : tabsB h.get? tf (frT h.get? (cStatics :: asD h.get? n)) = true := congrArg (fun z : AlG => z.2) e
  have key : ∀ p ∈ tf, PySem.W.codeHdIn (frT h.get? (cStatics :: asD h.get? n)) (cT (frT h.get? (cStatics :: asD h.get? n)) p).1 (cT (frT h.get? (cStatics :: asD h.get? n)) p).2 = true ∧ ∃ o, h.get? (cT (frT h.get? (cStatics :: asD h.get? n)) p).2 = some o ∧ emptyTab o = true := fun p hp => by
    obtain ⟨h3, h4⟩ := He.ba (List.all_eq_true.mp e2 p hp)
    refine ⟨h3, ?_⟩
    revert h4
    cases h.get? (cT (frT h.get? (cStatics :: asD h.get? n)) p).2 with
    | none => exact fun h4 => by cases h4
    | some o => exact fun h4 => ⟨o, rfl, h4⟩
  refine ⟨e1, fun p hp => ?_, fun p hp => ?_, fun p hp => ?_⟩ <;> obtain ⟨d, hd, rfl⟩ := List.mem_map.mp hp <;> obtain ⟨k1, o, k2, k3⟩ := key d hd
  · rw [k2, He.emptyTab_eq k3]
  · exact He.frT_none k2 k3
  · exact PySem.W.codeHd_of_K He.frT_in k1
def hookG (n : Nat) (fa : List He.Fa) (fn : List DefD) (ex : PySem.W.Frag → Bool) (pd : List PD) (tf : List He.Defn) : PySem.W.Hook where
  α := AlG
  obs := fun s => obsGG n fa fn ex pd tf s.heap.get?
  val := fun _ => (valF fn pd, true)
  says := fun _ h => ∃ K : PySem.W.Frag, K.In h ∧ SaysG fa fn ex pd tf h K
  of := fun _ _ e => ⟨_, He.frT_in, saysG_of e⟩
  keeps := fun _ _ _ ⟨K, a, c⟩ k => ⟨K, a.keeps k, ⟨c.f, ⟨fun p hp => k _ _ (c.tb.emp p hp), c.tb.out, fun p hp => (c.tb.hd p hp).keeps k⟩⟩⟩
theorem obsGG_eq {n : Nat} {fa : List He.Fa} {fn : List DefD} {ex : PySem.W.Frag → Bool} {pd : List PD} {tf : List He.Defn} {g : Addr → Option Obj} {s : Shared} (h : ∀ a, g a = s.heap.get? a) : obsGG n fa fn ex pd tf g = (hookG n fa fn ex pd tf).obs s := by
  obtain rfl : g = s.heap.get? := funext h
  rfl
end FL

end

section
set_option linter.all false
/-! == and != of own objects with any value; os: classes without a == of their own. -/
namespace FL
/-- a value whose class is known: a built-in one, or one of cs -/
def knownD (cs : List Nat) (d : D) (h : H) : Bool := match clsOf d h with
  | some c => cs.contains c
  | none => (isTy .int d h).isSome
def bkNot : D → H → Res D := fun v h => match v with
  | .bl b => .ok (.bl (!b)) h
  | _ => .bad
def vEqA (os : List Nat) (d : Nat → Option F) : D → D → H → Res D := fun a b h => match pickP d a h with
  | some cf => if knownD (cf.1 :: os) b h = true then spc d bkAny a [b] h else .bad
  | none => match pickP d b h with
    | some _ => if knownD os a h = true then spc d bkAny b [a] h else .bad
    | none => .bad
def vNeA (os : List Nat) (d : Nat → Option F) : D → D → H → Res D := fun a b h => match pickP d a h with
  | some cf => if knownD (cf.1 :: os) b h = true then spc d bkNot a [b] h else .bad
  | none => .bad
end FL

end

section
set_option linter.all false
/-! xs.count(y) of data; {} and {k: v}; isinstance of an own class where objects of other classes stand. -/
namespace FL
def mCount : D → F := fun o ds h => match ds with
  | [x] => (match toP h o, toP h x with
    | some (.list qs), some p => if PySem.SeqAt.shaped p = true ∧ PySem.SeqAt.shaped (.list qs) = true then .ok (.int ((qs.countP fun z => PySem.PyData.eqv z p : Nat) : Int)) h else .bad
    | _, _ => .bad)
  | _ => .bad
def eD0 : E := fun _ h => alloc (.dct []) h
def eD1 (k : Sum Int (List Nat)) (v : E) : E := fun l h => (v l h).bind fun x h1 => alloc (.dct [(k, x)]) h1
def vIsCO (os : List Nat) (c : Nat) : D → H → Res D := fun d h => match clsOf d h with
  | some c' => if os.contains c' = true then .ok (.bl false) h else vIsC c d h
  | none => vIsC c d h
end FL

end

section
set_option Elab.async false
set_option linter.all false
set_option maxRecDepth 100000
set_option maxHeartbeats 1000000
/-! == and != of own objects with any value. -/
namespace FL
open PySem
open L2 (V Hp HO VK XK St TE TT TA TS TG TGs TI Ends PE PT PW PA PS PSs PG PGs PI Cx Inv SqL SqT Rd upd upd_same upd_ne WX Room)
open AutoSeq1 (wpAny_loadPart')
section
variable {prog : Program} {w : World} {A : Around} {E : Value → Shared → Prop} {s : Shared} {Q : Value → Shared → Prop} {b : Addr} {ob : Obj}
theorem dec_none (h : Q .notImplemented s) : wpAny (model prog w) A (call (.builtin "NoneType.__eq__") [.none, .ref b]) Q E s :=
  GQ.call_here F.slot_NoneType_eq (by first | rfl | decide) F.entry_NoneType_eq (F.args_NoneType_eq_2 _ _) (by
    obtain ⟨hp, g, d, tk, os⟩ := s
    unfold Builtin.«NoneType.__eq__»
    wp_walk
    exact h)
theorem dec_int {n : Int} {t : Tok} (hb : s.heap.get? b = some ob) (hd : ob.data = .plain) (h : Q .notImplemented s) : wpAny (model prog w) A (call (.builtin "int.__eq__") [.int n t, .ref b]) Q E s :=
  GQ.call_here F.slot_int_eq (typeIs_int s n t) F.entry_int_eq (F.args_int_eq_2 _ _) (by
    obtain ⟨hp, g, d, tk, os⟩ := s
    obtain ⟨c, dx, da, sl⟩ := ob
    subst hd
    wp_walk using wpAny_loadPart' hb
    exact h)
theorem dec_bool {n : Bool} (hb : s.heap.get? b = some ob) (hd : ob.data = .plain) (h : Q .notImplemented s) : wpAny (model prog w) A (call (.builtin "int.__eq__") [.bool n, .ref b]) Q E s :=
  GQ.call_here F.slot_bool_eq (by first | rfl | decide) F.entry_int_eq (F.args_int_eq_2 _ _) (by
    obtain ⟨hp, g, d, tk, os⟩ := s
    obtain ⟨c, dx, da, sl⟩ := ob
    subst hd
    wp_walk using wpAny_loadPart' hb
    exact h)
theorem dec_str {n : Str} {t : Tok} (hb : s.heap.get? b = some ob) (hd : ob.data = .plain) (h : Q .notImplemented s) : wpAny (model prog w) A (call (.builtin "str.__eq__") [.str n t, .ref b]) Q E s :=
  GQ.call_here F.slot_str_eq (typeIs_str s n t) F.entry_str_eq (F.args_str_eq_2 _ _) (by
    obtain ⟨hp, g, d, tk, os⟩ := s
    obtain ⟨c, dx, da, sl⟩ := ob
    subst hd
    wp_walk using wpAny_loadPart' hb
    exact h)
theorem dec_tup {a : Addr} (ha : s.TypeIs (.ref a) "tuple") (hin : PySem.W.Looks (model prog w) s.heap (isInstance (.ref b) (.type "tuple")) false) (h : Q .notImplemented s) : wpAny (model prog w) A (call (.builtin "tuple.__eq__") [.ref a, .ref b]) Q E s :=
  GQ.call_here F.slot_tuple_eq ha F.entry_tuple_eq (F.args_tuple_eq_2 _ _) (by
    obtain ⟨hp, g, d, tk, os⟩ := s
    unfold Builtin.«tuple.__eq__»
    refine wpAny_bind (wpAny_of_eq (a := (.ref a, [.ref b])) (by first | rfl | kernel_rfl) ?_)
    refine wpAny_bind (hin.at ?_)
    wp_walk
    exact h)
theorem dec_lst {a : Addr} (ha : s.TypeIs (.ref a) "list") (hin : PySem.W.Looks (model prog w) s.heap (isInstance (.ref b) (.type "list")) false) (h : Q .notImplemented s) : wpAny (model prog w) A (call (.builtin "list.__eq__") [.ref a, .ref b]) Q E s :=
  GQ.call_here F.slot_list_eq ha F.entry_list_eq (F.args_list_eq_2 _ _) (by
    obtain ⟨hp, g, d, tk, os⟩ := s
    unfold Builtin.«list.__eq__»
    refine wpAny_bind (wpAny_of_eq (a := (.ref a, [.ref b])) (by first | rfl | kernel_rfl) ?_)
    refine wpAny_bind (hin.at ?_)
    wp_walk
    exact h)
theorem dec_dct {a : Addr} (ha : s.TypeIs (.ref a) "dict") (hin : PySem.W.Looks (model prog w) s.heap (isInstance (.ref b) (.type "dict")) false) (h : Q .notImplemented s) : wpAny (model prog w) A (call (.builtin "dict.__eq__") [.ref a, .ref b]) Q E s :=
  GQ.call_here F.slot_dict_eq ha F.entry_dict_eq (F.args_dict_eq_2 _ _) (by
    obtain ⟨hp, g, d, tk, os⟩ := s
    unfold Builtin.«dict.__eq__»
    refine wpAny_bind (wpAny_of_eq (a := (.ref a, .ref b)) (by first | rfl | kernel_rfl) ?_)
    refine wpAny_bind (hin.at ?_)
    wp_walk
    exact h)
end

/-! ### what is asked of a class with its own == -/
structure EqF (K : PySem.W.Frag) (C : Addr) (os : List Addr) : Prop where
  kin : ∀ T ∈ kinds, PySem.W.subIn K (.type T) (.ref C) = some false
  sub : ∀ T ∈ kinds, PySem.W.subIn K (.ref C) (.type T) = some false
  oth : ∀ O ∈ os, O ≠ C ∧ PySem.W.subIn K (.ref O) (.ref C) = some false ∧ PySem.W.subIn K (.ref C) (.ref O) = some false ∧ PySem.W.findIn K (.ref O) "__eq__" = some (some (.builtin "object.__eq__")) ∧ PySem.W.mroIn K O (.type "object") = some true
  ne : PySem.W.findIn K (.ref C) "__ne__" = some (some (.builtin "object.__ne__"))
  mo : PySem.W.mroIn K C (.type "object") = some true
section
variable {C : Cx} {P : Pm} {w : WX} {X : Hp} {r : List Addr} {h : H} {pins : List (Addr × Obj)} {σ : St} {s : Shared}
/-- a known value's class -/
theorem kind_of (hK : C.K = P.K) (R : HR P r h X) {d : D} {v : V} (q : RV P.K X r d v) (hc : clsOf d h = none) (e : (isTy .int d h).isSome = true) : ∃ T ∈ kinds, L2.TyX C.K X v (.type T) := by
  cases q with
  | non => exact ⟨_, by decide, .base .non⟩
  | bl x => exact ⟨_, by decide, .base (.bl x)⟩
  | int i => exact ⟨_, by decide, .base (.int i)⟩
  | str x => exact ⟨_, by decide, .base (.str x)⟩
  | tup q1 q2 =>
    refine ⟨"tuple", by decide, ?_⟩
    rcases q1 with (q1 | ⟨o, q1⟩) | ⟨o, its, n, k1, k2, _⟩
    · exact .base (.tup q1)
    · exact .fTuple q1
    · rw [← hK] at k1
      exact .kTuple k1 k2
  | scr q1 =>
    refine ⟨"list", by decide, ?_⟩
    rcases q1 with ⟨o, q1⟩ | (q1 | ⟨o, q1⟩) | ⟨o, its, n, k1, k2, _⟩
    · exact .base (.frz q1)
    · cases q1
    · cases q1
    · rw [← hK] at k1
      exact .kList k1 k2
  | gls _ => cases e
  | ftup _ _ _ _ => cases e
  | @ref n p q1 =>
    have e : (match h[n]? with
      | some (.lst _) => some (Ty.int == .list)
      | some (.dct _) => some false
      | some (.ins _ _) => some false
      | some (.tbl _) => none
      | none => none : Option Bool).isSome = true := e
    have hc : (match h[n]? with
      | some (.ins c _) => some c
      | _ => none : Option Nat) = none := hc
    cases hcl : h[n]? with
    | none => rw [hcl] at e; cases e
    | some cl =>
      rw [hcl] at e hc
      have q := R.cell n cl p hcl q1
      cases cl with
      | lst xs =>
        obtain ⟨vs, q2, _⟩ := q
        exact ⟨_, by decide, .base (.lst q2)⟩
      | dct kvs =>
        obtain ⟨vs, q2, _⟩ := q
        exact ⟨"dict", by decide, q2.elim (fun z => .base (.dK z)) fun ⟨_, z⟩ => .fDict z⟩
      | ins c fs => cases hc
      | tbl _ => cases e
theorem typeLk (I : Inv C pins σ X s) {v : V} {u t : Value} (rv : L2.RelV v u) (ty : L2.TyX C.K X v t) : PySem.W.Looks (model C.prog C.w) s.heap (typeOf u) t := by
  obtain ⟨Ph, k, p, _⟩ := L2.kit_of I rv ty
  exact k.ty _ _ I.kIn p
theorem insData {a dx Cl : Addr} {fs : List (Str × V)} (I : Inv C pins σ X s) (e : X a = some (.ins Cl dx fs)) : ∃ ox, s.heap.get? a = some ox ∧ ox.data = .plain := by
  obtain ⟨_, _, _, o, _⟩ := (show L2.ObjOk C.prog C.w X s.heap a (.ins Cl dx fs) from I.hok a _ e)
  exact ⟨_, o, rfl⟩
/-- a == b where b alone knows -/
theorem rc_back {A : Around} {E : Value → Shared → Prop} {Q : Value → Shared → Prop} {K : PySem.W.Frag} {a ta : Value} {b Cb f : Addr} {ob : Obj} {od : Option Obj} {prog : Program} {w : World} (h1 : oneThing? .Eq a (.ref b) = none) (hu : A.units < cLine) (KX : K.In s.heap) (hta : PySem.W.Looks (model prog w) s.heap (typeOf a) ta) (J : PySem.W.InstAt s.heap b ob Cb od)
    (hne : ta ≠ .ref Cb) (hsub : PySem.W.subIn K (.ref Cb) ta = some false) (dec : ∀ (Q' : Option Value → Shared → Prop), Q' none s → wpAny (model prog w) A (tryCompare a "__eq__" (.ref b)) Q' E s)
    (hs : PySem.W.findIn K (.ref Cb) "__eq__" = some (some (.ref f))) (hf : PySem.W.isFn K (.ref f) = true) (hc : wpAny (model prog w) A (call (.ref f) [.ref b, a]) (PySem.W.CmpBack Q) E s) : wpAny (model prog w) A (richCompare .Eq a (.ref b)) Q E s := by
  have two : wpAny (model prog w) A (tryCompare (.ref b) "__eq__" a) (fun r s' => ∃ v, r = some v ∧ Q v s') E s := by
    unfold tryCompare
    refine wpAny_bind (PySem.W.ifBound_K KX J hs hf (wpAny_mono hc (fun v s' hv => ?_) fun _ _ e => e))
    cases v <;> first | exact hv.elim | exact wpAny_pure ⟨_, rfl, hv⟩
  have nb : (ta != Value.ref Cb) = true := by simpa using hne
  unfold richCompare
  simp only [h1, cmpInfo]
  refine wpAny_holding (wpAny_bind (wpAny_cRoomFor hu ?_))
  refine wpAny_bind (hta.here (wpAny_bind (J.type.here ?_)))
  rw [if_pos nb]
  refine wpAny_bind ((PySem.W.looks_subIn KX hsub).here ?_)
  simp only [Bool.false_eq_true, if_false, Bool.not_false, if_true]
  refine wpAny_bind (dec _ ?_)
  refine wpAny_bind (wpAny_mono two (fun r s' z => ?_) fun _ _ e => e)
  obtain ⟨v, rfl, hq⟩ := z
  exact wpAny_pure hq
theorem kindT {T : String} (hT : T ∈ kinds) {a : Addr} : (Value.type T) ≠ .ref a := fun z => by cases z
/-- a built-in value declines -/
theorem dec_any {A : Around} {E : Value → Shared → Prop} (hK : C.K = P.K) (R : HR P r h X) (I : Inv C pins σ X s) {d : D} {v : V} {u : Value} (q : RV P.K X r d v) (ru : L2.RelV v u) (hc : clsOf d h = none) (e : (isTy .int d h).isSome = true) {b dxb Cb : Addr} {fsb : List (Str × V)} (eb : X b = some (.ins Cb dxb fsb))
    (hsub : ∀ T ∈ kinds, PySem.W.subIn C.K (.ref Cb) (.type T) = some false) : oneThing? .Eq u (.ref b) = none ∧ ∀ (Q' : Option Value → Shared → Prop), Q' none s → wpAny (model C.prog C.w) A (tryCompare u "__eq__" (.ref b)) Q' E s := by
  obtain ⟨ob, hb, hd⟩ := insData I eb
  obtain ⟨oxb, odb, Jb⟩ := insAt I eb
  have hin : ∀ T ∈ kinds, PySem.W.Looks (model C.prog C.w) s.heap (isInstance (.ref b) (.type T)) false := fun T hT => Jb.type.andThen (PySem.W.looks_subIn I.kIn (hsub T hT))
  have lstC : ∀ {a : Addr} {vs : List V}, SqL C.K X a vs → s.TypeIs (.ref a) "list" := fun {a vs} hq => by
    obtain ⟨its, rv, pl, hz⟩ := I.list hq
    exact pl.isList.typeIs
  cases q with
  | non =>
    obtain rfl : u = Value.none := ru
    exact ⟨rfl, fun Q' hq => wpAny_tryCompare_declines (show s.TypeIs .none "NoneType" from rfl) F.slot_NoneType_eq (dec_none ⟨rfl, hq⟩)⟩
  | bl x =>
    obtain rfl : u = Value.bool x := ru
    exact ⟨rfl, fun Q' hq => wpAny_tryCompare_declines (show s.TypeIs (.bool x) "bool" from rfl) F.slot_bool_eq (dec_bool hb hd ⟨rfl, hq⟩)⟩
  | int i =>
    obtain ⟨t, rfl⟩ := (show ∃ t, u = Value.int i t from ru)
    exact ⟨rfl, fun Q' hq => wpAny_tryCompare_declines (typeIs_int s i t) F.slot_int_eq (dec_int hb hd ⟨rfl, hq⟩)⟩
  | str x =>
    obtain ⟨t, rfl⟩ := (show ∃ t, u = Value.str x t from ru)
    exact ⟨rfl, fun Q' hq => wpAny_tryCompare_declines (typeIs_str s x t) F.slot_str_eq (dec_str hb hd ⟨rfl, hq⟩)⟩
  | @tup a vs ds q1 q2 =>
    obtain rfl : u = Value.ref a := ru
    rw [← hK] at q1
    obtain ⟨its, rv, pl, hz⟩ := I.tuple q1
    exact ⟨by simp [oneThing_ref], fun Q' hq => wpAny_tryCompare_declines pl.typeIs F.slot_tuple_eq (dec_tup pl.typeIs (hin _ (by decide)) ⟨rfl, hq⟩)⟩
  | @scr a xs q1 =>
    obtain rfl : u = Value.ref a := ru
    have q2 := q1.sq
    rw [← hK] at q2
    exact ⟨by simp [oneThing_ref], fun Q' hq => wpAny_tryCompare_declines (lstC q2) F.slot_list_eq (dec_lst (lstC q2) (hin _ (by decide)) ⟨rfl, hq⟩)⟩
  | gls _ => cases e
  | ftup _ _ _ _ => cases e
  | @ref n p q1 =>
    obtain rfl : u = Value.ref p := ru
    have e : (match h[n]? with
      | some (.lst _) => some (Ty.int == .list)
      | some (.dct _) => some false
      | some (.ins _ _) => some false
      | some (.tbl _) => none
      | none => none : Option Bool).isSome = true := e
    have hc : (match h[n]? with
      | some (.ins c _) => some c
      | _ => none : Option Nat) = none := hc
    cases hcl : h[n]? with
    | none => rw [hcl] at e; cases e
    | some cl =>
      rw [hcl] at e hc
      have q := R.cell n cl p hcl q1
      cases cl with
      | lst xs =>
        obtain ⟨vs, q2, _⟩ := q
        have tl := lstC (a := p) (vs := vs) (.inl (.inl q2))
        exact ⟨by simp [oneThing_ref], fun Q' hq => wpAny_tryCompare_declines tl F.slot_list_eq (dec_lst tl (hin _ (by decide)) ⟨rfl, hq⟩)⟩
      | dct kvs =>
        obtain ⟨vs, q2, _⟩ := q
        have td : s.TypeIs (.ref p) "dict" := by
          rcases q2 with q2 | ⟨ob, q2⟩
          · obtain ⟨_, _, vs', _, o, es, ep, h1, h2, _⟩ := (show L2.ObjOk C.prog C.w X s.heap p (.dK _) from I.hok p _ q2)
            exact ⟨o, h1, h2.1⟩
          · obtain ⟨_, h1, h2, _⟩ := I.frzK q2
            exact ⟨ob, h1, h2.1⟩
        exact ⟨by simp [oneThing_ref], fun Q' hq => wpAny_tryCompare_declines td F.slot_dict_eq (dec_dct td (hin _ (by decide)) ⟨rfl, hq⟩)⟩
      | ins c fs => cases hc
      | tbl _ => cases e
/-- an object without == of its own declines -/
theorem dec_own {A : Around} {E : Value → Shared → Prop} (I : Inv C pins σ X s) {a dxa Ca b dxb Cb : Addr} {fsa fsb : List (Str × V)} (ea : X a = some (.ins Ca dxa fsa)) (eb : X b = some (.ins Cb dxb fsb)) (hne : Ca ≠ Cb)
    (hs : PySem.W.findIn C.K (.ref Ca) "__eq__" = some (some (.builtin "object.__eq__"))) (hm : PySem.W.mroIn C.K Ca (.type "object") = some true) (Q' : Option Value → Shared → Prop) (hq : Q' none s) : wpAny (model C.prog C.w) A (tryCompare (.ref a) "__eq__" (.ref b)) Q' E s := by
  obtain ⟨oxa, oda, Ja⟩ := insAt I ea
  obtain ⟨oxb, odb, Jb⟩ := insAt I eb
  have ab : a ≠ b := fun z => by
    rw [z, eb] at ea
    cases ea
    exact hne rfl
  unfold tryCompare
  refine wpAny_bind (HN.ifBound_objEq I.kIn Ja hs ?_)
  exact wpAny_call (codeAny_call_builtin F.cmp_object.eq.plain F.cmpEntry_eq (PySem.W.check_slot F.cmpKind_eq F.cmpSplit_eq (Ja.type.andThen (PySem.W.looks_mroIn I.kIn hm)) (F.cmpArgs_eq _ _) (objEq_entry_other ab Ja.at_ Jb.at_ (fun z => by rw [Ja.cls] at z; cases z) (wpAny_pure hq))))
instance (os : List Nat) (d : Nat → Option F) : Calm2 (vEqA os d) := ⟨fun a b h c fs h' e => by
  unfold vEqA at e
  split at e
  · split at e
    · unfold spc at e
      cases q : pickP d a h with
      | none => rw [q] at e; cases e
      | some cf =>
        rw [q] at e
        revert e
        show tame _ = _ → False
        cases (cf.2 [a, b] h).bind bkAny <;> exact fun e => by cases e
    · cases e
  · split at e
    · split at e
      · unfold spc at e
        cases q : pickP d b h with
        | none => rw [q] at e; cases e
        | some cf =>
          rw [q] at e
          revert e
          show tame _ = _ → False
          cases (cf.2 [b, a] h).bind bkAny <;> exact fun e => by cases e
      · cases e
    · cases e⟩
instance (os : List Nat) (d : Nat → Option F) : Calm2 (vNeA os d) := ⟨fun a b h c fs h' e => by
  unfold vNeA at e
  split at e
  · split at e
    · unfold spc at e
      cases q : pickP d a h with
      | none => rw [q] at e; cases e
      | some cf =>
        rw [q] at e
        revert e
        show tame _ = _ → False
        cases (cf.2 [a, b] h).bind bkNot <;> exact fun e => by cases e
    · cases e
  · cases e⟩
theorem pickP_at {d : Nat → Option F} {x : D} {h : H} {cf : Nat × F} (e : pickP d x h = some cf) : clsOf x h = some cf.1 ∧ d cf.1 = some cf.2 := by
  unfold pickP at e
  obtain ⟨c, e1, e2⟩ := Option.bind_eq_some_iff.mp e
  obtain ⟨f, e3, e4⟩ := Option.map_eq_some_iff.mp e2
  subst e4
  exact ⟨e1, e3⟩
/-- the other's class, not one that goes first -/
theorem other_at {cs : List Nat} (hK : C.K = P.K) (R : HR P r h X) (I : Inv C pins σ X s) {b : D} {y : V} {u : Value} (rb : RV P.K X r b y) (ru : L2.RelV y u) (hk : knownD cs b h = true) {Cl : Addr} (hkin : ∀ T ∈ kinds, PySem.W.subIn C.K (.type T) (.ref Cl) = some false) (hcs : ∀ c ∈ cs, P.ca c = Cl ∨ PySem.W.subIn C.K (.ref (P.ca c)) (.ref Cl) = some false) :
    ∃ tb, PySem.W.Looks (model C.prog C.w) s.heap (typeOf u) tb ∧ PySem.W.notFirst C.K Cl tb = true := by
  unfold knownD at hk
  cases hc : clsOf b h with
  | none =>
    rw [hc] at hk
    obtain ⟨T, hT, ty⟩ := kind_of hK R rb hc hk
    refine ⟨_, typeLk I ru ty, ?_⟩
    unfold PySem.W.notFirst
    rw [hkin T hT]
    simp
  | some c =>
    rw [hc] at hk
    obtain ⟨p, dx, fs, ws, rfl, e2, _, _, _⟩ := clsOf_at R rb hc
    obtain ⟨ox, od, J⟩ := insAt I e2
    obtain rfl : u = Value.ref p := ru
    refine ⟨_, J.type, ?_⟩
    unfold PySem.W.notFirst
    have hk : c ∈ cs := by simpa using hk
    rcases hcs c hk with z | z
    · rw [z]
      simp
    · rw [z]
      simp
theorem oEqA {os : List Nat} {d : Nat → Option F} {j : Nat} (hK : C.K = P.K) (hr : Room j C.A) (hu : C.A.units + 64 < cLine) (hd : Spec C P j "__eq__" d) (hE : ∀ c f, d c = some f → EqF C.K (P.ca c) (os.map P.ca)) : L2.OpR C (compareOp .Eq) (r2 P (vEqA os d)) := fun pins s σ X x y v u Q I rx ry ⟨r, h, a, b, a1, ra, rb, e⟩ => by
  have hu0 : C.A.units < cLine := Nat.lt_of_le_of_lt (Nat.le_add_right _ _) hu
  unfold vEqA at e
  split at e
  · rename_i cf hcf
    split at e
    · rename_i hk
      obtain ⟨q1, q2⟩ := pickP_at hcf
      obtain ⟨c, p, dx, fs, fm, e0, rfl, e2, e3, ⟨f, F, h1, h2, h4, h5⟩, q⟩ := spcAt hd a1 ra (.cons rb .nil) e
      obtain rfl : cf.1 = c := Option.some.inj (q1.symm.trans e0)
      have ef := hE _ _ q2
      obtain ⟨ox, od, J⟩ := insAt I e2
      obtain ⟨m, hF⟩ := I.fr
      obtain rfl : v = Value.ref p := rx
      obtain ⟨tb, lb, nf⟩ := other_at hK a1 I rb ry hk ef.kin (fun c hc => by
        rcases List.mem_cons.mp hc with z | z
        · exact .inl (by rw [z])
        · exact .inr (ef.oth _ (List.mem_map.mpr ⟨c, z, rfl⟩)).2.1)
      exact PySem.W.cmp_K (op := .Eq) (tb := tb) hu0 hF I.ok.mod.kin J lb nf h1 h2 (wpAny_mono (runT I.env0 hr F I (.cons (rvRef p) (.cons ry .nil)) q) (fun u s' z => backOp z) fun _ _ z => z)
    · exact e.elim
  · rename_i hna
    split at e
    · rename_i cf hcf
      split at e
      · rename_i hk
        obtain ⟨q1, q2⟩ := pickP_at hcf
        obtain ⟨c, p, dx, fs, fm, e0, rfl, e2, e3, ⟨f, F, h1, h2, h4, h5⟩, q⟩ := spcAt hd a1 rb (.cons ra .nil) e
        obtain rfl : cf.1 = c := Option.some.inj (q1.symm.trans e0)
        have ef := hE _ _ q2
        obtain ⟨ox, od, J⟩ := insAt I e2
        obtain rfl : u = Value.ref p := ry
        have back := wpAny_mono (runT (E := C.xe) I.env0 hr F I (.cons (rvRef p) (.cons rx .nil)) q) (fun u s' z => backOp z) fun _ _ z => z
        unfold knownD at hk
        cases hc : clsOf a h with
        | none =>
          rw [hc] at hk
          obtain ⟨T, hT, ty⟩ := kind_of hK a1 ra hc hk
          obtain ⟨d1, d2⟩ := dec_any (E := C.xe) (A := C.A) hK a1 I ra rx hc hk e2 ef.sub
          exact rc_back d1 hu0 I.kIn (typeLk I rx ty) J (kindT hT) (ef.sub T hT) d2 h1 h2 back
        | some c2 =>
          rw [hc] at hk
          have hk : c2 ∈ os := by simpa using hk
          obtain ⟨o1, o2, o3, o4, o5⟩ := ef.oth _ (List.mem_map.mpr ⟨c2, hk, rfl⟩)
          obtain ⟨p2, dx2, fs2, ws2, rfl, f2, _, _, _⟩ := clsOf_at a1 ra hc
          obtain ⟨ox2, od2, J2⟩ := insAt I f2
          obtain rfl : v = Value.ref p2 := rx
          exact rc_back (oneThing_ref _ _ _) hu0 I.kIn J2.type J (fun z => o1 (Value.ref.inj z)) o3 (fun Q' hq => dec_own I f2 e2 o1 o4 o5 Q' hq) h1 h2 back
      · exact e.elim
    · exact e.elim
theorem ifBound_ne {M : Model} {A : Around} {E : Value → Shared → Prop} {K : PySem.W.Frag} {x Cx : Addr} {ox : Obj} {od : Option Obj} {args : List Value} {Q : Option Value → Shared → Prop} (KX : K.In s.heap) (J : PySem.W.InstAt s.heap x ox Cx od) (hs : PySem.W.findIn K (.ref Cx) "__ne__" = some (some (.builtin "object.__ne__")))
    (hc : wpAny M A (call (.builtin "object.__ne__") (.ref x :: args)) (fun v => Q (some v)) E s) : wpAny M A (callSpecialIfBound? (.ref x) "__ne__" args) Q E s := by
  have fin : wpAny M A (call (.builtin "object.__ne__") ([.ref x] ++ args) >>= fun v => pure (some v)) Q E s := wpAny_bind (wpAny_mono hc (fun v s' z => wpAny_pure z) fun _ _ z => z)
  simp only [callSpecialIfBound?, bindSpecialIfBound?]
  refine wpAny_holding (wpAny_bind (wpAny_bind (wpAny_bind ?_)))
  refine J.type.here ((PySem.W.looks_findIn KX hs).here ?_)
  refine wpAny_bind (wpAny_askSetting (wpAny_ite ?_))
  split
  · exact wpAny_bind (wpAny_of_eq (F.cmp_object.ne.bind _) (wpAny_pure (by exact fin)))
  · exact wpAny_tryCatch (wpAny_bind (wpAny_of_eq (F.cmp_object.ne.bind _) (wpAny_pure (by exact fin))))
/-- x != b by x's own == -/
theorem rc_ne {A : Around} {E : Value → Shared → Prop} {Q : Value → Shared → Prop} {K : PySem.W.Frag} {b tb : Value} {x Cx f : Addr} {ox : Obj} {od : Option Obj} {prog : Program} {w : World} (hu : A.units + 1 < cLine) (KX : K.In s.heap) (J : PySem.W.InstAt s.heap x ox Cx od) (hb : PySem.W.Looks (model prog w) s.heap (typeOf b) tb) (nf : PySem.W.notFirst K Cx tb = true)
    (hn : PySem.W.findIn K (.ref Cx) "__ne__" = some (some (.builtin "object.__ne__"))) (hm : PySem.W.mroIn K Cx (.type "object") = some true) (hs : PySem.W.findIn K (.ref Cx) "__eq__" = some (some (.ref f))) (hf : PySem.W.isFn K (.ref f) = true)
    (hc : wpAny (model prog w) A.in1 (call (.ref f) [.ref x, b]) (fun v s' => ∃ k, v = .bool k ∧ Q (.bool (!k)) s') E s) : wpAny (model prog w) A (richCompare .NotEq (.ref x) b) Q E s := by
  have one : wpAny (model prog w) A (tryCompare (.ref x) "__ne__" b) (fun r s' => ∃ v, r = some v ∧ Q v s') E s := by
    unfold tryCompare
    refine wpAny_bind (ifBound_ne KX J hn ?_)
    refine wpAny_call (codeAny_call_builtin F.cmp_object.ne.plain F.cmpEntry_ne (PySem.W.check_slot F.cmpKind_ne F.cmpSplit_ne (J.type.andThen (PySem.W.looks_mroIn KX hm)) (F.cmpArgs_ne _ _) ?_))
    unfold Builtin.«object.__ne__»
    refine wpAny_bind (wpAny_of_eq (a := (.ref x, [b])) (by first | rfl | kernel_rfl) ?_)
    refine wpAny_bind (wpAny_cRoomFor (by exact hu) ?_)
    refine wpAny_bind (PySem.W.ifBound_K KX J hs hf (wpAny_mono hc (fun v s' hv => ?_) fun _ _ e => e))
    obtain ⟨k, rfl, q⟩ := hv
    refine wpAny_bind (m := truthy (.bool k)) (wpAny_truthy_bool (wpAny_pure ?_))
    exact wpAny_pure ⟨_, rfl, q⟩
  unfold richCompare
  simp only [oneThing_ref, cmpInfo]
  refine wpAny_holding (wpAny_bind (wpAny_cRoomFor (by omega) ?_))
  refine wpAny_bind (J.type.here (wpAny_bind (hb.here ?_)))
  split
  · rename_i q
    have e : PySem.W.subIn K tb (.ref Cx) = some false := by
      rcases Bool.or_eq_true_iff.mp nf with e | e
      · rw [beq_iff_eq.mp e] at q
        simp at q
      · exact beq_iff_eq.mp e
    refine wpAny_bind ((PySem.W.looks_subIn KX e).here ?_)
    simp only [Bool.false_eq_true, if_false]
    refine wpAny_bind (wpAny_mono one (fun r s' z => ?_) fun _ _ e => e)
    obtain ⟨v, rfl, hq⟩ := z
    exact wpAny_pure hq
  · refine wpAny_bind (wpAny_pure ?_)
    simp only [Bool.false_eq_true, if_false]
    refine wpAny_bind (wpAny_mono one (fun r s' z => ?_) fun _ _ e => e)
    obtain ⟨v, rfl, hq⟩ := z
    exact wpAny_pure hq
theorem oNeA {os : List Nat} {d : Nat → Option F} {j : Nat} (hK : C.K = P.K) (hr : Room (j + 1) C.A) (hu : C.A.units + 64 < cLine) (hd : Spec C P j "__eq__" d) (hE : ∀ c f, d c = some f → EqF C.K (P.ca c) (os.map P.ca)) : L2.OpR C (compareOp .NotEq) (r2 P (vNeA os d)) := fun pins s σ X x y v u Q I rx ry ⟨r, h, a, b, a1, ra, rb, e⟩ => by
  unfold vNeA at e
  split at e
  · rename_i cf hcf
    split at e
    · rename_i hk
      obtain ⟨q1, q2⟩ := pickP_at hcf
      obtain ⟨c, p, dx, fs, fm, e0, rfl, e2, e3, ⟨f, F, h1, h2, h4, h5⟩, q⟩ := spcAt hd a1 ra (.cons rb .nil) e
      obtain rfl : cf.1 = c := Option.some.inj (q1.symm.trans e0)
      have ef := hE _ _ q2
      obtain ⟨ox, od, J⟩ := insAt I e2
      obtain rfl : v = Value.ref p := rx
      obtain ⟨tb, lb, nf⟩ := other_at hK a1 I rb ry hk ef.kin (fun c hc => by
        rcases List.mem_cons.mp hc with z | z
        · exact .inl (by rw [z])
        · exact .inr (ef.oth _ (List.mem_map.mpr ⟨c, z, rfl⟩)).2.1)
      refine rc_ne (by omega) I.kIn J lb nf ef.ne ef.mo h1 h2 (wpAny_mono (runT I.env0.in1 hr.in1 F I (.cons (rvRef p) (.cons ry .nil)) q) (fun u s' z => ?_) fun _ _ z => z)
      obtain ⟨v, X1, I1, ru, r1, h1, z, b1, b2, b3⟩ := z
      unfold bkNot at b3
      split at b3
      · cases b2
        obtain rfl : u = Value.bool _ := ru
        exact ⟨_, rfl, .bl _, X1, I1, rfl, b3 r1 X1 _ .refl b1 (.bl _)⟩
      · exact b3.elim
    · exact e.elim
  · exact e.elim
end
end FL

end

section
set_option Elab.async false
set_option linter.all false
set_option maxRecDepth 100000
set_option maxHeartbeats 1000000
namespace FL
open PySem PySem.SeqAt
open L2 (V Hp HO VK XK St TE TT TA TS TG TGs TI Ends PE PT PW PA PS PSs PG PGs PI Cx Inv SqL SqT Rd upd upd_same upd_ne WX Room)
section
variable {C : Cx} {P : Pm} {w : WX} {o e : Expr} {mo me : E} {apos cpos pos : Pos}
instance : CalmM mCount := ⟨fun o a h c fs h' e => by
  unfold mCount at e
  repeat' (split at e)
  all_goals cases e⟩
theorem tmCount (hK : C.K = P.K) (hu : C.A.units + 65 < cLine) : L2.MtR C "list.count" (rM P mCount) := fun pins s σ X x xs v us Q I rx rxs ⟨r, h, a, ds, hr, ra, rs, e⟩ => by
  unfold mCount at e
  split at e
  · rename_i d
    obtain ⟨y, rfl, ry⟩ := rs.one
    split at e
    · rename_i qs p e1 e2
      split at e
      · rename_i hz
        cases rxs with
        | cons uy ut =>
          cases ut
          have d1 := toP_dp hr ra e1
          have d2 := toP_dp hr ry e2
          rw [← hK] at d1 d2
          obtain ⟨as, r1⟩ := L2.Dp.reads I _ x v d1 rx
          obtain ⟨bs, r2⟩ := L2.Dp.reads I p y _ d2 uy
          have q := e r X _ .refl hr (.int _)
          cases r1 with
          | list g1 g2 g3 g4 =>
            have c1 : PyData.canLayAll0 qs = true := SeqAt.canLay_of_shaped hz.2
            have pl : PyData.plainAll qs = true := PyData.plain_of_canLay0 (.list qs) c1
            exact count_list_data ⟨_, g1, g2, _, g3⟩ g4 r2 pl (PyData.plain_of_canLay0 p (SeqAt.canLay_of_shaped hz.1)) (room_in hz.1 hu) ⟨.int _, X, I.tok _, ⟨_, rfl⟩, q⟩
      · exact e.elim
    · exact e.elim
  · exact e.elim
theorem xCount (hK : C.K = P.K) (hu : C.A.units + 65 < cLine) (ho : PE C o (tE P w mo)) (he : PE C e (tE P w me)) (hbase : attributeBase o "count" C.env (eval o C.env) = eval o C.env := by rfl) (hline : (apos.endLine == cpos.line) = true := by rfl)
    (hs : starEach [e] C.env = (false, eval e C.env) :: starEach [] C.env := by rfl) : PE C (.Call (.Attribute o "count" apos) [e] [] cpos) (tE P w (eLm mCount mo (aCons me aNil))) :=
  peW (L2.pe_bm PySem.F.plainAttrs_list PySem.F.slot_list_count PySem.F.type_list_count (tmCount (P := P) hK hu) ho (xCons he xNil hs) hbase (by rw [hs]; rfl) hline hs rfl) fun σ X Q q => wLm hK q
/-! ### displays -/
theorem xD0 : PE C (.Dict [] [] pos) (tE P w eD0) := peW L2.pe_dnewK fun σ X Q ⟨r, h, l, ds, a1, a2, a3, a4⟩ => fun p hp => by
  have st := Stp.new' (r := r) (o := .dK []) hp
  exact a4 _ _ _ st (a1.new hp ⟨[], .inl upd_same, .nil⟩) (.ref a1.last)
theorem xD1 {ke ve : Expr} {kk : Sum Int (List Nat)} {mv : E} {kv : V} (hk : PE C ke (L2.tC kv)) (ek : L2.kV (keyOf kk) = kv) (hv : PE C ve (tE P w mv)) : PE C (.Dict [some ke] [ve] pos) (tE P w (eD1 kk mv)) :=
  peW (L2.pe_disp (L2.pps_cons hk hv L2.pps_nil) rfl rfl (by simp) (by simp)) fun σ X Q q => fun p hp => by
    obtain ⟨r, h, l, ds, a1, a2, a3, a4⟩ := q
    have st0 := Stp.fresh (r := r) (o := .dK []) hp
    have R0 := a1.fresh hp (o := .dK [])
    have a4 : End relE P w r X σ ((mv l h).bind fun x h1 => alloc (.dct [(kk, x)]) h1) Q := a4
    have pr : p ∉ r := a1.out hp
    refine ⟨r, h, l, [], R0, a2.mono st0 a1.own, .nil, ?_⟩
    show End relE P w r (upd X p (.dK [])) σ (mv l h) _
    revert a4
    cases mv l h with
    | bad => exact fun a4 => a4
    | ex c fs h1 => exact fun a4 r' X' cls dd s' R' hx => a4 r' X' cls dd (st0.trans s') R' hx
    | ok x h2 =>
      intro a4 r2 X2 y s2 b1 b2
      have b2 : RV P.K X2 r2 x y := b2
      have pr2 : p ∉ r2 := fun z => by
        obtain ⟨_, z2⟩ := s2.new p z pr _ (upd_same (H := X))
        cases z2
      have e2 : X2 p = some (.dK []) := s2.kp p _ upd_same pr fun _ z => by cases z
      refine ⟨e2, [(keyOf kk, y)], by simp [ek], by simp, ?_⟩
      have e3 : (L2.mergeK [] [(keyOf kk, y)] : List (L2.Key × V)) = [(keyOf kk, y)] := rfl
      rw [e3]
      have wr : Stp (r2 ++ [p]) X2 (r2 ++ [p]) (upd X2 p (.dK [(keyOf kk, y)])) := Stp.write (by simp)
      have R2 : HR P (r2 ++ [p]) (h2 ++ [Cell.dct []]) X2 := HR.push (c := Cell.dct []) b1 pr2 ⟨[], .inl e2, .nil⟩
      have last : (r2 ++ [p])[h2.length]? = some p := b1.last
      have R3 : HR P (r2 ++ [p]) ((h2 ++ [Cell.dct []]).set h2.length (Cell.dct [(kk, x)])) (upd X2 p (.dK [(keyOf kk, y)])) := HR.write (c := Cell.dct [(kk, x)]) R2 last ⟨[y], .inl upd_same, .cons ((b2.ext _).mono wr R2.own) .nil⟩
      rw [show (h2 ++ [Cell.dct []]).set h2.length (Cell.dct [(kk, x)]) = h2 ++ [Cell.dct [(kk, x)]] by simp] at R3
      refine a4 (r2 ++ [p]) _ (.ref p) ⟨?_, fun a ha hn u e => ?_, fun a u e hn ht => ?_⟩ R3 (.ref last)
      · obtain ⟨t, et⟩ := s2.pre
        exact ⟨t ++ [p], by rw [et, List.append_assoc]⟩
      · rcases List.mem_append.mp ha with z | z
        · have na : a ≠ p := fun z2 => pr2 (by rw [← z2]; exact z)
          exact s2.new a z hn u (by rw [upd_ne na]; exact e)
        · rw [List.mem_singleton.mp z, hp] at e
          cases e
      · have na : a ≠ p := fun z => by rw [z, hp] at e; cases e
        rw [upd_ne na]
        exact s2.kp a u (by rw [upd_ne na]; exact e) hn ht
end
/-! ### isinstance -/
section
variable {C : Cx} {P : Pm} {w : WX}
theorem xIsCO {a : Expr} {ma : E} {c : Nat} {os : List Nat} {x : Str} {p p2 pos : Pos} (hK : C.K = P.K) (io : IsiOk P.K (P.ca c)) (oth : ∀ o ∈ os, PySem.W.kitOne P.K (.ref (P.ca o)) (.ref (P.ca c)) = some false) (ha : PE C a (tE P w ma)) (hg : L2.Gl C "isinstance") (hm : C.mg "isinstance" = none) (hx : PE C (.Name x p2) (L2.tC (.ref (P.ca c))))
    (h1 : starEach [a, .Name x p2] C.env = (false, eval a C.env) :: starEach [.Name x p2] C.env := by rfl) (h2 : starEach [.Name x p2] C.env = (false, eval (.Name x p2) C.env) :: starEach [] C.env := by rfl)
    (hpl : (backTo pos (starEach [.Name x p2] C.env)).any (·.1) = false := by rfl) : PE C (.Call (.Name "isinstance" p) [a, .Name x p2] [] pos) (tE P w (eUn (vIsCO os c) ma)) :=
  peW (L2.pe_callB L2.call_isi hg hm (by decide +kernel) (L2.pa_cons ha (L2.pa_cons hx L2.pa_nil h2) h1) (by decide) (by decide) h1 hpl) fun σ X Q e => by
    obtain ⟨r, h, l, ds, a1, a2, a3, a4⟩ := bindE (R := relE) (m := ma) (k := fun x _ l h => vIsCO os c x h) e
    refine ⟨r, h, l, ds, a1, a2, a3, End.mono (fun v X1 q => ?_) a4⟩
    obtain ⟨r, h, l, ds, a1, a2, a3, a4⟩ := q
    cases a3 with
    | cons b1 b2 =>
      cases b2
      rename_i d
      have a4 : End relE P w r X1 σ (vIsCO os c d h) Q := a4
      have bl : ∀ z, vIsC c d h = z → (∃ b hh, z = .ok (.bl b) hh) ∨ z = .bad := fun z ez => by
        unfold vIsC at ez
        repeat' (split at ez)
        all_goals first | exact .inl ⟨_, _, ez.symm⟩ | exact .inr ez.symm
      have old : End relE P w r X1 σ (vIsC c d h) Q → L2.rIsi C.K [v, .ref (P.ca c)] X1 Q := fun a4 => by
        rcases bl _ rfl with ⟨b, hh, eb⟩ | eb
        · obtain ⟨rfl, u, u1, u2⟩ := isC_ok hK a1 io b1 eb
          rw [eb] at a4
          exact ⟨v, .ref (P.ca c), u, _, b, rfl, .own _, u1, u2, a4 r X1 _ .refl a1 (.bl _)⟩
        · rw [eb] at a4
          exact a4.elim
      unfold vIsCO at a4
      split at a4
      · rename_i c2 hc2
        split at a4
        · rename_i ho
          obtain ⟨pp, dx, fs, ws, rfl, f2, I2, _, _⟩ := clsOf_at a1 b1 hc2
          have k := oth c2 (by simpa using ho)
          rw [← hK] at k I2
          exact ⟨.ref pp, .ref (P.ca c), .ref (P.ca c2), _, false, rfl, .own _, .base (.ins f2 I2.cl I2.ha I2.hn I2.ht I2.hm), k, a4 r X1 _ .refl a1 (.bl _)⟩
        · exact old a4
      · exact old a4
end
end FL

end

section
set_option linter.all false
/-! Generator defs: on values. -/
namespace FL
/-- a generator's run: what it has handed out so far besides -/
inductive GRes where
  | nx (ys : List D) (l : Loc) (h : H) | rt (ys : List D) (d : D) (h : H) | bk (ys : List D) (l : Loc) (h : H) | ct (ys : List D) (l : Loc) (h : H) | ex (c : Nat) (fs : List (PySem.Str × D)) (l : Loc) (h : H) | bad
abbrev SG := List D → Loc → H → GRes
/-- a statement that hands out nothing -/
def gP (s : S) : SG := fun ys l h => match s l h with
  | .nx l h => .nx ys l h
  | .rt d h => .rt ys d h
  | .bk l h => .bk ys l h
  | .ct l h => .ct ys l h
  | .ex c fs l h => .ex c fs l h
  | .bad => .bad
def gYield (a : E) : SG := fun ys l h => if ys.length < LIM then (match a l h with
  | .ok d h' => .nx (ys ++ [d]) l h'
  | .ex c fs h' => .ex c fs l h'
  | .bad => .bad) else .bad
def gNext : SG := fun ys l h => .nx ys l h
def gSeq (a b : SG) : SG := fun ys l h => match a ys l h with
  | .nx ys' l' h' => b ys' l' h'
  | r => r
def turnG (g : G) (b : SG) (d : D) : SG := fun ys l h => match g d l h with
  | some (l1, h1) => b ys l1 h1
  | none => .bad
def loopG (g : G) (b : SG) : List D → SG
  | [] => gNext
  | d :: ds => fun ys l h => match turnG g b d ys l h with
    | .nx ys2 l2 h2 => loopG g b ds ys2 l2 h2
    | .ct ys2 l2 h2 => loopG g b ds ys2 l2 h2
    | .bk ys2 l2 h2 => .nx ys2 l2 h2
    | r => r
/-- over values that stand -/
def gFor (w : W) (g : G) (b : SG) : SG := fun ys l h => match w l h with
  | .ok (.snap xs) h' => loopG g b xs ys l h'
  | .ex c fs h' => .ex c fs l h'
  | _ => .bad
abbrev FG := List D → H → Res (List D)
def fnG (n k : Nat) (b : SG) : FG := fun ds h => if ds.length = k then (match b [] (start n ds) h with
  | .nx ys _ h' => .ok ys h'
  | .rt ys .non h' => .ok ys h'
  | .ex c fs _ h' => .ex c fs h'
  | _ => .bad) else .bad
theorem fnG_ar {n k : Nat} {b : SG} : ∀ ds h, ds.length ≠ k → fnG n k b ds h = .bad := fun ds h e => if_neg e
/-- list(f(..)), f a generator def that raises these only -/
def lstG (cs : List Nat) (f : FG) : F := fun xs h1 => match f xs h1 with
  | .ok ys h2 => if ys.length ≤ LIM then alloc (.lst ys) h2 else .bad
  | .ex c fs h2 => if c ∈ cs then .ex c fs h2 else .bad
  | .bad => .bad
end FL

end

section
set_option Elab.async false
set_option linter.all false
set_option maxRecDepth 100000
set_option maxHeartbeats 1000000
/-! A for statement of a generator whose body hands out. -/
namespace L2
open PySem PySem.Spec PyProof.Rows GenW

abbrev outJ (env : Env) : Value → Sem PySem.Fin := fun e => (do noteFrame e env; theTreesLotGoes e : Sem Unit).wrap (fun _ => .raise e) .raise id id
section
variable {prog : Program} {w : World} {A : Around} {R : GenEnd} {Y : Protocol} {n : Nat} {s₀ : Shared} {fs : List Frame} {s : Shared} {env : Env}
theorem seg_forLoop {target : Expr} {it : Value} {body orelse : List Stmt}
    (h : wpAny (model prog w) (A.over (.forLoop target it body orelse env) fs) (pyNext it) (fun r s₁ => match r with
        | none => Seg (model prog w) A R Y n s₀ (.forLoop target it body orelse env) (.pure (.again (.block orelse env))) fs s₁
        | some v => wpAny (model prog w) (A.over (.forLoop target it body orelse env) fs) (letOwnedTupleGo target it v) (fun _ s₂ => wpAny (model prog w) (A.over (.forLoop target it body orelse env) fs) (assign target env v) (fun _ s₃ =>
            Seg (model prog w) A R Y n s₀ (.forLoop target it body orelse env) ((execs body env).wrap (fun f => match f with
              | .next | .cont => .pure (.again (.forLoop target it body orelse env))
              | .brk => .pure (.done .next)
              | .ret v => .pure (.done (.ret v))) (outJ env) id id) fs s₃)
            (fun x s' => Seg (model prog w) A R Y n s₀ (.forLoop target it body orelse env) (outJ env x) fs s') s₂) (fun x s' => Seg (model prog w) A R Y n s₀ (.forLoop target it body orelse env) (outJ env x) fs s') s₁)
      (fun x s' => Seg (model prog w) A R Y n s₀ (.forLoop target it body orelse env) (outJ env x) fs s') s) :
    Seg (model prog w) A R Y n s₀ (.forLoop target it body orelse env) ((model prog w).den (.forLoop target it body orelse env)) fs s := by
  have cv : ∀ {x : Value} {s' : Shared}, Seg (model prog w) A R Y n s₀ (.forLoop target it body orelse env) (outJ env x) fs s' →
      Seg (model prog w) A R Y n s₀ (.forLoop target it body orelse env) ((do noteFrame x env; theTreesLotGoes x : Sem Unit).bind fun _ => .raise x) fs s' := fun {x s'} hx => by
    rw [Sem.bind_eq_wrap]; exact hx
  show Seg _ A R Y n s₀ _ ((forTurn target it body orelse env).onRaise (fun x => do noteFrame x env; theTreesLotGoes x)) fs s
  rw [Sem.onRaise_eq_wrap]
  unfold forTurn
  refine seg_bind_wrap (wpAny_standAt ?_)
  refine seg_bind_wrap (wpAny_onRaise (wpAny_mono h (fun r s₁ h₁ => ?_) fun x s' hx => wpAny_standAt (cv hx)))
  cases r with
  | none => exact h₁
  | some v =>
    refine seg_bind_wrap (wpAny_mono h₁ (fun _ s₂ h₂ => ?_) fun x s' hx => cv hx)
    refine seg_bind_wrap (wpAny_mono h₂ (fun _ s₃ h₃ => ?_) fun x s' hx => cv hx)
    rw [Sem.bind_eq_wrap', Sem.wrap_wrap]
    rw [Sem.wrap_congr (execs body env) _ _ (K' := fun f => match f with
            | .next | .cont => .pure (.again (.forLoop target it body orelse env))
            | .brk => .pure (.done .next)
            | .ret v => .pure (.done (.ret v))) (H' := outJ env)
        (fun f => by cases f <;> rfl)
        (fun e => by first | exact Sem.bind_eq_wrap _ _ | (show (do noteFrame e env; theTreesLotGoes e : Sem Unit).bind (fun _ => .raise e) = _; rw [Sem.bind_eq_wrap]))]
    exact h₃
theorem seg_block_nil (h : Seg (model prog w) A R Y n s₀ (.block [] env) (.pure (.done .next)) fs s) : Seg (model prog w) A R Y n s₀ (.block [] env) ((model prog w).den (.block [] env)) fs s := by
  show Seg _ A R Y n s₀ _ (do return Fin.done (← (execs [] env).onRaise (fun x => do noteFrame x env; theTreesLotGoes x))) fs s
  exact h
end
section
variable {M : Model} {A : Around} {R : GenEnd} {Y : Protocol} {n : Nat} {s₀ : Shared} {c : Code} {fs : List Frame} {s : Shared} {env : Env}
  {K : Flow → Sem PySem.Fin} {H : Value → Sem PySem.Fin} {gd : Bool → Bool} {lv : List Value → List Value}
theorem seg_For {target iter : Expr} {body orelse : List Stmt} {pos : Pos}
    (h : wpAny M (A.over c fs) (eval iter env) (fun v s₁ => wpAny M (A.over c fs) (pyIter v) (fun it s₂ => ∀ p, Seg M A R Y n s₀ (.forLoop target it body orelse env) (M.den (.forLoop target it body orelse env))
      (.ret (fun r => ((match r with | .ok f => (.pure f : Sem Flow) | .error e => .raise e).onRaise (cameBack env)).wrap K H gd lv) none (gd false) (lv []) c p [] :: fs) s₂)
      (fun x s' => Seg M A R Y n s₀ c (H x) fs s') s₁) (fun x s' => Seg M A R Y n s₀ c (H x) fs s') s)
    (hs : ∀ x, foldedSetIterable iter env x = pure x := by intro _; rfl) :
    Seg M A R Y n s₀ c ((exec (.For target iter body orelse pos) env).wrap K H gd lv) fs s := by
  rw [exec_For]
  refine seg_bind_wrap (wpAny_standAt ?_)
  refine seg_bind_wrap (wpAny_mono h (fun v s₁ h₁ => ?_) fun _ _ x => x)
  refine seg_bind_wrap (wpAny_of_eq (hs v) ?_)
  refine seg_bind_wrap (wpAny_standAt ?_)
  refine seg_bind_wrap (wpAny_holding (wpAny_mono h₁ (fun it s₂ h₂ => ?_) fun _ _ x => x))
  exact seg_call h₂
end

section
variable {X : Cx}
def tGFor (wi : TI) (g : TG) (tb : TGn) : TGn := fun D ys σ H => wi σ H fun J H1 => ∃ W : Nat → Nat → List V → St → Hp → Prop, (∃ m, W 0 m ys σ H1) ∧ ∀ i m ys σ H, W i m ys σ H →
  (J.stop i H ∧ D.nx ys σ H) ∨ (J.go i H ∧ ∃ N : List V → St → Hp → Prop, (∀ ys' σ' H', N ys' σ' H' → ∃ m', m' < m ∧ W (i + 1) m' ys' σ' H') ∧ ∀ x H', J.yld i H x H' → g x σ H' fun σ2 H2 => tb { D with nx := N, ct := N, bk := D.nx } ys σ2 H2)
theorem gs_for {tg iter : Expr} {body : List Stmt} {pos : Pos} {wi : TI} {g : TG} {tb : TGn} (hp : PassesOwn (model X.prog X.w) X.A X.env X.xe) (hc : X.calm = true) (hi : PI X tg iter wi) (hg : PG X tg g) (hb : GSs X body tb)
    (hs : ∀ x, foldedSetIterable iter X.env x = pure x := by intro _; rfl) : GS X (.For tg iter body [] pos) (tGFor wi g tb) := by
  refine ⟨fun A S ip R n ys s₀ c fs K J gd lv s σ H D gc hn k hI ht => ?_⟩
  obtain ⟨acc, cc, r, I⟩ := hI
  refine seg_For (c := c) ?_ hs
  rw [gc.over]
  have ex0 : ∀ x s', X.xe x s' → Seg (model X.prog X.w) A R (GY X S) n s₀ c (J x) fs s' := fun x s' hx => k.exc n s₀ x s' hx
  refine wpAny_mono (hi.run _ s σ H _ I ht) (fun v s1 h1 => wpAny_mono h1 (fun itv s2 h2 => ?_) ex0) ex0
  obtain ⟨it, fp, tn, Jt, H2, e, I2, T, st2, f2, W, ⟨m0, w0⟩, turn⟩ := h2
  subst e
  intro p
  have gl := fun (kk : Result → Sem PySem.Fin) => gc_loop (k := kk) (c' := .forLoop tg (.ref it) body [] X.env) (l := lv []) (kp := []) (p := p) gc rfl rfl
  -- the walked objects are not the consumer's list
  have nS : ∀ b ∈ fp, b ≠ S := fun b hb z => (f2 b hb).2.2.2.2.2 (S, lstObj acc cc) (List.mem_append_right _ List.mem_cons_self) z.symm
  have loop : ∀ (m i n : Nat) (ys : List V) (s₀ s : Shared) (σ : St) (H : Hp), n + ys.length = sizeLine → W i m ys σ H → GI X S ip ys σ H s → tn i s.heap → (∀ b ∈ fp, H b = none) →
      Seg (model X.prog X.w) A R (GY X S) n s₀ (.forLoop tg (.ref it) body [] X.env) ((model X.prog X.w).den (.forLoop tg (.ref it) body [] X.env))
        (.ret (fun r => ((match r with | .ok f => (.pure f : Sem Flow) | .error e => .raise e).onRaise (cameBack X.env)).wrap K J gd lv) none (gd false) (lv []) c p [] :: fs) s := by
    intro m
    induction m using Nat.strongRecOn with
    | ind m ih =>
      intro i n ys s₀ s σ H hn w hI st3 fr3
      have ee : ∀ (n : Nat) (s₀ : Shared) (x : Value) (s' : Shared), X.xe x s' → Seg (model X.prog X.w) A R (GY X S) n s₀ (.forLoop tg (.ref it) body [] X.env)
          (outJ X.env x)
          (.ret (fun r => ((match r with | .ok f => (.pure f : Sem Flow) | .error e => .raise e).onRaise (cameBack X.env)).wrap K J gd lv) none (gd false) (lv []) c p [] :: fs) s' := fun n s₀ x s' hx => by
        refine seg_wrap ?_
        rw [(gl _).over]
        refine wpAny_bind (wpAny_mono (hp x s' hx) (fun _ s'' hcb => wpAny_theTreesLotGoes ?_) fun y s'' hcb => ?_)
        · exact seg_leaf (.error x) (seg_cameBack gc k hcb)
        · exact seg_leaf (.error y) (seg_cameBack gc k hcb)
      refine seg_forLoop ?_
      rw [(gl _).over]
      obtain ⟨acc, cc, r, I⟩ := hI
      have stat : ∀ {H' : Hp}, (∀ b ∈ fp, H' b = none) → ∀ b ∈ fp, FpOk X ((S, lstObj acc cc) :: ip) H' b := fun hn b hb => by
        obtain ⟨_, q1, q2, q3, q4, q5⟩ := f2 b hb
        refine ⟨hn b hb, q1, q2, q3, q4, fun p hp => ?_⟩
        rcases List.mem_append.mp hp with z | z
        · exact q5 p (List.mem_append_left _ z)
        · rcases List.mem_cons.mp z with z | z
          · rw [z]
            exact fun y => nS b hb y.symm
          · exact q5 p (List.mem_append_right _ (List.mem_cons_of_mem _ z))
      rcases turn i m ys σ H w with ⟨stop, qn⟩ | ⟨go, N, hN, step⟩
      · refine wpAny_mono (T.done X rfl rfl rfl hc i _ s σ H X.xe I (stat fr3) st3 stop) (fun r' s4 ⟨hr, I4⟩ => ?_) fun x s' hx => ee n s₀ x s' hx
        subst hr
        refine seg_again rfl (seg_block_nil ?_)
        exact seg_leaf (.ok .next) (k.ok n ys s₀ s4 .next hn ⟨σ, H, ⟨acc, cc, r, I4⟩, qn⟩)
      · refine wpAny_mono (T.item X rfl rfl rfl hc i _ s σ H X.xe I (stat fr3) st3 go) (fun r' s4 ⟨u, hr, h4⟩ => ?_) fun x s' hx => ee n s₀ x s' hx
        subst hr
        refine wpAny_mono h4 (fun _ s5 ⟨x, H5, I5, r5, y5, st5, fr5⟩ => ?_) fun x s' hx => ee n s₀ x s' hx
        have I5' := I5.pinned (stat fr5) (T.obj _ _ st5)
        refine wpAny_mono (hg.run _ s5 σ H5 x u _ I5' r5 (step x H5 y5)) (fun _ s6 ⟨σ6, H6, I6, q6⟩ => ?_) fun x s' hx => ee n s₀ x s' hx
        have hip2 : ∀ p ∈ ip ++ pinsAt fp s5.heap, p.1 ≠ S := fun p hp => by
          rcases List.mem_append.mp hp with z | z
          · exact gc.ip p z
          · exact nS p.1 (of_pinsAt z).1
        have g2 := gl (fun r => ((match r with | .ok f => (.pure f : Sem Flow) | .error e => .raise e).onRaise (cameBack X.env)).wrap K J gd lv)
        refine hb.run A S (ip ++ pinsAt fp s5.heap) R n ys s₀ _ _ _ _ id id s6 σ6 H6 { D with nx := N, ct := N, bk := D.nx } ⟨g2.pn, hip2, g2.apart, g2.over, g2.split, g2.guard, g2.gd⟩ hn ⟨fun n' ys' s₀' s7 f hn' q7 => ?_, fun n' s₀' x s3 hx => ee n' s₀' x s3 hx⟩ ⟨acc, cc, r, I6⟩ q6
        have again : ∀ {σ7 : St} {H7 : Hp}, GI X S (ip ++ pinsAt fp s5.heap) ys' σ7 H7 s7 → N ys' σ7 H7 → Seg (model X.prog X.w) A R (GY X S) n' s₀' (.forLoop tg (.ref it) body [] X.env) (.pure (.again (.forLoop tg (.ref it) body [] X.env)))
            (.ret (fun r => ((match r with | .ok f => (.pure f : Sem Flow) | .error e => .raise e).onRaise (cameBack X.env)).wrap K J gd lv) none (gd false) (lv []) c p [] :: fs) s7 := fun {σ7 H7} G7 n7 => by
          obtain ⟨m', hm, w7⟩ := hN ys' σ7 H7 n7
          obtain ⟨acc7, cc7, r7, I7⟩ := G7
          have pin7 : ∀ b ∈ fp, ∀ o, s5.heap.get? b = some o → s7.heap.get? b = some o ∧ H7 b = none := fun b hb o e => by
            have q := I7.pin (b, o) (List.mem_append_right _ (List.mem_cons_of_mem _ (List.mem_append_right _ (mem_pinsAt hb e))))
            exact ⟨q.1, q.2.1⟩
          have I7' : Inv X (((S, lstObj acc7 cc7) :: ip) ++ pinsAt fp s5.heap) σ7 H7 s7 := I7
          refine seg_again rfl (ih m' hm (i + 1) n' ys' s₀' s7 σ7 H7 hn' w7 ⟨acc7, cc7, r7, I7'.unpinned⟩ (T.keep _ _ _ st5 fun b hb o e => (pin7 b hb o e).1) fun b hb => ?_)
          obtain ⟨o, e, d⟩ := T.obj _ _ st5 b hb
          exact (pin7 b hb o e).2
        have un7 : ∀ {zs : List V} {σ7 : St} {H7 : Hp} {s7 : Shared}, GI X S (ip ++ pinsAt fp s5.heap) zs σ7 H7 s7 → GI X S ip zs σ7 H7 s7 := fun {zs σ7 H7 s7} G7 => by
          obtain ⟨acc7, cc7, r7, I7⟩ := G7
          have I7' : Inv X (((S, lstObj acc7 cc7) :: ip) ++ pinsAt fp s5.heap) σ7 H7 s7 := I7
          exact ⟨acc7, cc7, r7, I7'.unpinned⟩
        cases f with
        | next => obtain ⟨σ7, H7, G7, n7⟩ := q7; exact again G7 n7
        | cont => obtain ⟨σ7, H7, G7, n7⟩ := q7; exact again G7 n7
        | brk =>
          obtain ⟨σ7, H7, G7, n7⟩ := q7
          exact seg_leaf (.ok .next) (k.ok n' ys' s₀' s7 .next hn' ⟨σ7, H7, un7 G7, n7⟩)
        | ret v =>
          obtain ⟨x7, σ7, H7, G7, r7, n7⟩ := q7
          exact seg_leaf (.ok (.ret v)) (k.ok n' ys' s₀' s7 (.ret v) hn' ⟨x7, σ7, H7, un7 G7, r7, n7⟩)
  exact loop m0 0 n ys s₀ s2 σ H2 hn w0 ⟨acc, cc, r, I2⟩ st2 fun b hb => (f2 b hb).1
end
end L2

end

section
set_option Elab.async false
set_option linter.all false
set_option maxRecDepth 100000
set_option maxHeartbeats 1000000
/-! Generator defs, list(f(..)). -/
namespace FL
open PySem
open L2 (V Hp HO VK XK St TE TT TA TS TG TGs TI Ends PE PT PW PA PS PSs PG PGs PI Cx Inv SqL SqT Rd upd upd_same upd_ne WX Room GS GSs GEnds TGn GFn gcxOf)

def EndG (P : Pm) (w : WX) (r : List Addr) (X : Hp) (z : GRes) (D : GEnds) : Prop := match z with
  | .nx ys l h' => ∀ r' X' σ zs, Stp r X r' X' → HR P r' h' X' → SL P.K X' r' l σ → RVs P.K X' r' ys zs → D.nx zs σ X'
  | .bk ys l h' => ∀ r' X' σ zs, Stp r X r' X' → HR P r' h' X' → SL P.K X' r' l σ → RVs P.K X' r' ys zs → D.bk zs σ X'
  | .ct ys l h' => ∀ r' X' σ zs, Stp r X r' X' → HR P r' h' X' → SL P.K X' r' l σ → RVs P.K X' r' ys zs → D.ct zs σ X'
  | .rt ys d h' => ∀ r' X' v zs, Stp r X r' X' → HR P r' h' X' → RV P.K X' r' d v → RVs P.K X' r' ys zs → D.rt zs v X'
  | .ex c fs l h' => ∀ r' X' σ cls dd, Stp r X r' X' → HR P r' h' X' → SL P.K X' r' l σ → RX P X' r' c fs cls dd → w cls dd σ X'
  | .bad => False
def tGS (P : Pm) (w : WX) (m : SG) : TGn := fun D ys σ X => ∃ r h l ds, HR P r h X ∧ SL P.K X r l σ ∧ RVs P.K X r ds ys ∧ EndG P w r X (m ds l h) D
section
variable {P : Pm} {w : WX} {r r1 : List Addr} {X X1 : Hp} {h : H} {l : Loc} {σ : St} {D D' : GEnds}
theorem EndG.step {z : GRes} (s : Stp r X r1 X1) (e : EndG P w r X z D) : EndG P w r1 X1 z D := by
  cases z with
  | nx ys l h' => exact fun r' X' σ zs s' => e r' X' σ zs (s.trans s')
  | bk ys l h' => exact fun r' X' σ zs s' => e r' X' σ zs (s.trans s')
  | ct ys l h' => exact fun r' X' σ zs s' => e r' X' σ zs (s.trans s')
  | rt ys d h' => exact fun r' X' v zs s' => e r' X' v zs (s.trans s')
  | ex c fs l h' => exact fun r' X' σ cls dd s' => e r' X' σ cls dd (s.trans s')
  | bad => exact e
theorem gsW {C : Cx} {st : Stmt} {t t' : TGn} (p : GS C st t) (f : ∀ D ys σ X, t' D ys σ X → t D ys σ X) : GS C st t' := ⟨fun A S ip R n ys s₀ c fs K J gd lv s σ H D g hn k hI ht => p.run A S ip R n ys s₀ c fs K J gd lv s σ H D g hn k hI (f D ys σ H ht)⟩
theorem gssW {C : Cx} {st : List Stmt} {t t' : TGn} (p : GSs C st t) (f : ∀ D ys σ X, t' D ys σ X → t D ys σ X) : GSs C st t' := ⟨fun A S ip R n ys s₀ c fs K J gd lv s σ H D g hn k hI ht => p.run A S ip R n ys s₀ c fs K J gd lv s σ H D g hn k hI (f D ys σ H ht)⟩
end
section
variable {C : Cx} {P : Pm} {w : WX} {a b c : Expr} {pos yp : Pos} {ma mb mc : E} {st : Stmt} {rest : List Stmt}
theorem gsP {s : S} (p : PS C st (tS P w s)) : GS C st (tGS P w (gP s)) := gsW (L2.gs_ps p) fun D ys σ X ⟨r, h, l, ds, a1, a2, a3, a4⟩ => by
  refine ⟨r, h, l, a1, a2, ?_⟩
  unfold gP at a4
  revert a4
  cases s l h with
  | nx l' h' => exact fun a4 r' X' σ' s' hr hl => a4 r' X' σ' ys s' hr hl (a3.mono s' a1.own)
  | bk l' h' => exact fun a4 r' X' σ' s' hr hl => a4 r' X' σ' ys s' hr hl (a3.mono s' a1.own)
  | ct l' h' => exact fun a4 r' X' σ' s' hr hl => a4 r' X' σ' ys s' hr hl (a3.mono s' a1.own)
  | rt d h' => exact fun a4 r' X' v s' hr hv => a4 r' X' v ys s' hr hv (a3.mono s' a1.own)
  | ex c fs l' h' => exact fun a4 => a4
  | bad => exact fun a4 => a4
theorem gsYield (ha : PE C a (tE P w ma)) (hco : C.env.scope.isCoroutine = false := by rfl) (hi : interactive C.env = false := by rfl) : GS C (.Expr (.Yield (some a) yp) pos) (tGS P w (gYield ma)) :=
  gsW (L2.gs_yield ha hco hi) fun D ys σ X ⟨r, h, l, ds, a1, a2, a3, a4⟩ => by
    unfold gYield at a4
    split at a4
    · rename_i hlt
      refine ⟨by rw [← a3.length]; exact limLt hlt, r, h, l, [], a1, a2, .nil, ?_⟩
      show End relE P w r X σ (ma l h) _
      revert a4
      cases ma l h with
      | ok d h' => exact fun a4 r' X' v s hr hv => a4 r' X' σ _ s hr (a2.mono s a1.own) ((a3.mono s a1.own).append (.cons hv .nil))
      | ex c fs h' => exact fun a4 r' X' cls dd s hr hx => a4 r' X' σ cls dd s hr (a2.mono s a1.own) hx
      | bad => exact fun a4 => a4
    · exact a4.elim
theorem gssNil : GSs C [] (tGS P w gNext) := gssW L2.gss_nil fun D ys σ X ⟨r, h, l, ds, a1, a2, a3, a4⟩ => a4 r X σ ys .refl a1 a2 a3
theorem gssCons {m n : SG} (p : GS C st (tGS P w m)) (q : GSs C rest (tGS P w n)) : GSs C (st :: rest) (tGS P w (gSeq m n)) := gssW (L2.gss_cons p q) fun D ys σ X ⟨r, h, l, ds, a1, a2, a3, a4⟩ => by
  refine ⟨r, h, l, ds, a1, a2, a3, ?_⟩
  unfold gSeq at a4
  revert a4
  cases m ds l h with
  | nx ys' l' h' => exact fun a4 r' X' σ' zs s hr hl hy => ⟨r', h', l', ys', hr, hl, hy, EndG.step s a4⟩
  | bk ys' l' h' => exact fun a4 => a4
  | ct ys' l' h' => exact fun a4 => a4
  | rt ys' d h' => exact fun a4 => a4
  | ex c fs l' h' => exact fun a4 => a4
  | bad => exact fun a4 => a4
theorem gsFor {tg iter : Expr} {body : List Stmt} {m : W} {g : G} {b : SG} (hp : PassesOwn (model C.prog C.w) C.A C.env C.xe) (hc : C.calm = true) (hi : PI C tg iter (tW P w m)) (hg : PG C tg (tGt P g)) (hb : GSs C body (tGS P w b))
    (hs : ∀ x, foldedSetIterable iter C.env x = pure x := by intro _; rfl) : GS C (.For tg iter body [] pos) (tGS P w (gFor m g b)) := gsW (L2.gs_for hp hc hi hg hb hs) fun D ys σ X ⟨r, h, l, ds, a1, a2, a3, a4⟩ => by
  unfold gFor at a4
  refine ⟨r, h, l, [], a1, a2, .nil, ?_⟩
  show End relW P w r X σ (m l h) _
  revert a4
  cases m l h with
  | bad => exact fun a4 => a4
  | ex c fs h' => exact fun a4 r' X' cls dd s hr hx => a4 r' X' σ cls dd s hr (a2.mono s a1.own) hx
  | ok it h' =>
    cases it with
    | live n => exact fun a4 => a4.elim
    | dyn u k => exact fun a4 => a4.elim
    | snap xs =>
      intro a4 r1 X1 J st b1 b3
      have b2 : SL P.K X1 r1 l σ := a2.mono st a1.own
      have b5 : RVs P.K X1 r1 ds ys := a3.mono st a1.own
      have b4 := EndG.step st a4
      dsimp only at b4
      refine ⟨fun i m zs σ' X' => m = xs.length - i ∧ i ≤ xs.length ∧ ∃ r' h' l' ds', Stp r1 X1 r' X' ∧ HR P r' h' X' ∧ SL P.K X' r' l' σ' ∧ RVs P.K X' r' ds' zs ∧ EndG P w r' X' (loopG g b (xs.drop i) ds' l' h') D, ⟨xs.length, by omega, Nat.zero_le _, r1, h', l, ds, .refl, b1, b2, b5, b4⟩, ?_⟩
      rintro i m zs σ' X' ⟨rfl, hi, r', h'', l', ds', c1, c2, c3, c5, c4⟩
      have Y := b3 r' X' h'' c1 c2 i
      by_cases hlt : i < xs.length
      · obtain ⟨Yg, Yy⟩ := Y.1 xs[i] (List.getElem?_eq_getElem hlt)
        refine .inr ⟨Yg, fun zs2 σ2 X2 => (i + 1) ≤ xs.length ∧ ∃ r' h' l' ds', Stp r1 X1 r' X2 ∧ HR P r' h' X2 ∧ SL P.K X2 r' l' σ2 ∧ RVs P.K X2 r' ds' zs2 ∧ EndG P w r' X2 (loopG g b (xs.drop (i + 1)) ds' l' h') D, fun zs2 σ2 X2 q => ⟨xs.length - (i + 1), by omega, rfl, q⟩, fun x X'' hy => ?_⟩
        obtain ⟨s2, hr2, hx⟩ := Yy x X'' hy
        rw [List.drop_eq_getElem_cons hlt] at c4
        have c6 : EndG P w r' X'' (match turnG g b xs[i] ds' l' h'' with
          | .nx ys2 l2 h2 => loopG g b (xs.drop (i + 1)) ys2 l2 h2
          | .ct ys2 l2 h2 => loopG g b (xs.drop (i + 1)) ys2 l2 h2
          | .bk ys2 l2 h2 => .nx ys2 l2 h2
          | r => r) D := EndG.step s2 c4
        have cs : Stp r1 X1 r' X'' := c1.trans s2
        refine ⟨r', h'', l', xs[i], hr2, c3.mono s2 c2.own, hx, ?_⟩
        unfold turnG at c6
        cases hgd : g xs[i] l' h'' with
        | none =>
          rw [hgd] at c6
          exact c6.elim
        | some z =>
          obtain ⟨l3, h3⟩ := z
          rw [hgd] at c6
          refine fun r3 X3 σ3 s3 hr3 hl3 => ⟨r3, h3, l3, ds', hr3, hl3, (c5.mono s2 c2.own).mono s3 hr2.own, ?_⟩
          have c7 := EndG.step s3 c6
          have cs3 : Stp r1 X1 r3 X3 := cs.trans s3
          revert c7
          dsimp only
          cases b ds' l3 h3 with
          | nx ys2 l2 h2 => exact fun e r4 X4 σ4 zs4 s4 hr4 hl4 hz4 => ⟨hlt, r4, h2, l2, ys2, cs3.trans s4, hr4, hl4, hz4, EndG.step s4 e⟩
          | ct ys2 l2 h2 => exact fun e r4 X4 σ4 zs4 s4 hr4 hl4 hz4 => ⟨hlt, r4, h2, l2, ys2, cs3.trans s4, hr4, hl4, hz4, EndG.step s4 e⟩
          | bk ys2 l2 h2 => exact fun e => e
          | rt ys2 d h2 => exact fun e => e
          | ex c fs l2 h2 => exact fun e => e
          | bad => exact fun e => e
      · have e : i = xs.length := by omega
        subst e
        rw [List.drop_length] at c4
        exact .inl ⟨Y.2 (List.getElem?_eq_none (Nat.le_refl _)), c4 r' X' σ' zs .refl c2 c3 c5⟩
end

/-! ### the def -/
def spG (P : Pm) (n : Nat) (f : FG) : L2.SpG := fun vs X Q Ex => vs.length = n ∧ ∃ r h ds, HR P r h X ∧ RVs P.K X r ds vs ∧ End relA P (fun cls dd _ X' => Ex cls dd X') r X [] (f ds h) Q
section
variable {Pg : Program} {wd : World} {K : PySem.W.Frag} {mg : Str → Option Value} {base : Heap} {k j n : Nat} {f : Addr} {fd : FuncData} {P : Pm} {x qual : Str} {params : Arguments} {body : List Stmt} {scope : Scope} {N ps : List Str} {m : SG}
theorem bodyG_ok {X : Hp} {vs : List V} {Q : List V → Hp → Prop} {Ex : XK} (nn kk : Nat) (hn : N.length = nn) (h : spG P kk (fnG nn kk m) vs X Q Ex) :
    tGS P (fun cls dd _ X' => Ex cls dd X') m { nx := fun ys _ H' => Q ys H', rt := fun ys v H' => v = .non ∧ Q ys H' } [] (L2.start N vs) X := by
  obtain ⟨hl, r, h, ds, a1, a2, a3⟩ := h
  refine ⟨r, h, start nn ds, [], a1, start_ok nn hn a2, .nil, ?_⟩
  unfold fnG at a3
  rw [if_pos (by rw [a2.length]; exact hl)] at a3
  revert a3
  cases m [] (start nn ds) h with
  | nx ys l h' => exact fun a3 r' X' σ zs s hr _ hz => a3 r' X' zs s hr hz
  | rt ys d h' =>
    cases d with
    | non => exact fun a3 r' X' v zs s hr hv hz => ⟨(by cases hv; rfl), a3 r' X' zs s hr hz⟩
    | _ => exact fun a3 => (show False from a3).elim
  | bk ys l h' => exact fun a3 => (show False from a3).elim
  | ct ys l h' => exact fun a3 => (show False from a3).elim
  | ex c fs l h' => exact fun a3 r' X' σ cls dd s hr _ hx => a3 r' X' cls dd s hr hx
  | bad => exact fun a3 => a3
theorem okGen (nn kk : Nat) (hn : N.length = nn) (hk : ps.length = kk) (F : L2.FunD K x qual params body scope [] [] f fd) (S : L2.GScope N ps scope)
    (hbody : ∀ (cdv : Value) (A : Around) (outer : List Env) (s : Shared) (X : Hp) (Ex : XK) (pn : List (Addr × Obj)), Bd false (gcxOf Pg wd K mg base N qual scope f cdv A outer s X Ex pn) (fun cls dd _ X' => Ex cls dd X') k →
      GSs (gcxOf Pg wd K mg base N qual scope f cdv A outer s X Ex pn) body (tGS P (fun cls dd _ X' => Ex cls dd X') m)) : GFn Pg wd K mg base (k + 1) f fd ps (spG P kk (fnG nn kk m)) := by
  obtain ⟨oc, od, dV, kV, doc, pm, an, cdv, ct, osl, rfl, lk, hcd, hD, _⟩ := F.ex
  refine L2.gfn_of lk hcd S (fun vs X Q Ex h => by rw [hk]; exact h.1) fun A outer s X vs Q Ex pn hr hs => ?_
  exact ⟨_, hbody cdv A outer s X Ex pn ⟨hr, (fun z => by cases z), L2.takes_gcx, L2.owns_gcx, rfl⟩, bodyG_ok nn kk hn hs⟩
end

/-! ### the call -/
section
variable {g : Bool} {C : Cx} {P : Pm} {w : WX} {k j n : Nat} {f : Addr} {x : Str} {p pos p2 pos2 : Pos} {e : Expr} {es : List Expr} {mas : A} {fm : FG}
/-- what a caller knows of a generator def -/
structure CalG (C : Cx) (P : Pm) (x : Str) (k n : Nat) (fm : FG) : Prop where
  ex : ∃ f fd ps, GFn C.prog C.w C.K C.mg C.base k f fd ps (spG P n fm) ∧ C.mg x = some (.ref f) ∧ PySem.W.keepIn C.K (.ref f) = true ∧ L2.Binds C.K fd ps []
  ar : ∀ ds h, ds.length ≠ n → fm ds h = .bad
theorem lstG_ar {cs : List Nat} {fm : FG} (ar : ∀ ds h, ds.length ≠ n → fm ds h = .bad) : ∀ ds h, ds.length ≠ n → lstG cs fm ds h = .bad := fun ds h e => by
  unfold lstG
  rw [ar ds h e]
/-- what leaves it -/
def exG (P : Pm) (cs : List Nat) (Ex : XK) : XK := fun cls dd X => Ex cls dd X ∧ ∃ c, c ∈ cs ∧ cls = .ref (P.ca c)
theorem wGen {cs : List Nat} {vs : List V} {X : Hp} {Q : VK} {Ex : XK} (h : spF P n (lstG cs fm) vs X Q Ex) : spG P n fm vs X (fun out H2 => out.length ≤ sizeLine ∧ ∀ q, H2 q = none → Q (.ref q) (upd H2 q (.lst out))) (exG P cs Ex) := by
  obtain ⟨hl, r, h, ds, a1, a2, a3⟩ := h
  refine ⟨hl, r, h, ds, a1, a2, ?_⟩
  unfold lstG at a3
  revert a3
  cases fm ds h with
  | ok ys h' =>
    intro a3
    dsimp only at a3
    split at a3
    · rename_i hz
      exact fun r' X' zs s hr hy => ⟨lim (by rw [← hy.length]; exact hz), fun q hq => a3 _ _ _ (s.trans (Stp.new' hq)) (hr.newL hq hy) (.ref hr.last)⟩
    · exact a3.elim
  | ex c fs h' =>
    intro a3
    dsimp only at a3
    split at a3
    · rename_i hc
      exact fun r' X' cls dd s hr hx => ⟨a3 r' X' cls dd s hr hx, c, hc, hx.1⟩
    · exact a3.elim
  | bad => exact fun a3 => a3
theorem xListG {nm : Str} {cs : List Nat} (hK : C.K = P.K) (B : Bd g C w k) (F : CalG C P x j n fm) (hr : Room (j + 3) C.A) (hns : ∀ c ∈ cs, PySem.W.subIn C.K (.ref (P.ca c)) (.type "StopIteration") = some false)
    (hg : L2.Gl C nm) (hmg : C.mg nm = none) (hv : bootBuiltins nm = some (.type "list")) (hgx : L2.Gl C x) (ha : PA C (e :: es) (tA P w mas)) (hnm : nm ≠ "__name__" := by decide) (hdb : (nm == ("__debug__" : Str)) = false := by decide) (hdx : (x == ("__debug__" : Str)) = false := by decide)
    (he : starEach (e :: es) C.env = (false, eval e C.env) :: starEach es C.env := by rfl) (hpl : (backTo pos2 (starEach es C.env)).any (·.1) = false := by rfl)
    (he1 : starEach [.Call (.Name x p2) (e :: es) [] pos2] C.env = (false, eval (.Call (.Name x p2) (e :: es) [] pos2) C.env) :: starEach [] C.env := by rfl) :
    PE C (.Call (.Name nm p) [.Call (.Name x p2) (e :: es) [] pos2] [] pos) (tE P w (eCall (lstG cs fm) mas)) := by
  obtain ⟨f, fd, ps, F1, hm, hk, hb⟩ := F.ex
  refine ⟨fun pins s σ X Q I h => ?_⟩
  refine wpAny_Call_Name_kw (L2.ld_blt I hg hmg hv ?_ hnm hdb)
  refine PyProof.Rows.callWith_type1 ?_ he1 rfl
  rw [he1]
  show wpAny _ _ (spliced ((false, eval (.Call (.Name x p2) (e :: es) [] pos2) C.env) :: backTo pos (starEach [] C.env))) _ _ s
  have hgen : L2.PGen C j (.Call (.Name x p2) (e :: es) [] pos2) (L2.tCallG (spG P n fm) [] (exG P cs (L2.WE w σ)) (tA P w mas)) (exG P cs (L2.WE w σ)) :=
    L2.pgen_call F1 ⟨hr.hd, by have := hr.dp; omega, by have := hr.un; omega⟩ hgx hm hk hb .nil ha hdx he hpl
  have ht : L2.tCallG (spG P n fm) [] (exG P cs (L2.WE w σ)) (tA P w mas) σ X fun out H2 => out.length ≤ sizeLine ∧ ∀ q, H2 q = none → Q (.ref q) (upd H2 q (.lst out)) := by
    have z := wOwn (lstG_ar F.ar) h
    obtain ⟨r, h, l, ds, a1, a2, a3, a4⟩ := z
    refine ⟨r, h, l, ds, a1, a2, a3, End.mono (fun vs X1 q => ?_) a4⟩
    rw [List.append_nil]
    exact wGen q
  have hnsx : L2.NoStop C.K (exG P cs (L2.WE w σ)) := fun cls d H ⟨_, c, hc, e⟩ => by rw [e]; exact hns c hc
  refine Calls.spliced_cons (L2.thn (hgen.run pins s σ X _ I ht) fun u s1 ⟨H1, sc, ex, I1, hex, hG⟩ => ?_)
  refine Calls.spliced_nil ?_
  have hsz : sc.heap.objs.size ≤ s1.heap.objs.size := by
    obtain ⟨a, g, c, _, h1, h2, _⟩ := hG
    exact Nat.le_trans h1 (Nat.le_of_lt h2)
  refine L2.call_list_new hr I1.ok.frames hG (fun S s' acc c H' ys q0 q1 q2 hl q3 q4 q5 q6 q7 q8 => ?_) fun e s' g hc => ?_
  · exact ⟨.ref S, upd H' S (.lst ys), I1.drained (Nat.le_trans hsz q0) hl q1 q2 hex q3 q4 q5 q6 q7, rfl, q8.2 S q7⟩
  · have kin : C.K.In s'.heap := by
      obtain ⟨a, B, H', cls, d, _, fl, _, ub, _⟩ := id hc
      refine I1.ok.mod.kin.keeps fun b o eb => fl.1 b o (ub.keep b o (I1.bs b o eb).1 (I1.bs b o eb).2 fun hm => ?_)
      rcases List.mem_cons.mp (I1.stkSub b hm) with z | z
      · have h1 := Heap.lt_size eb
        have h2 := Nat.le_trans I1.ok.bsz I1.ok.above
        rw [z] at h1
        exact absurd (Nat.lt_of_lt_of_le h1 h2) (Nat.lt_irrefl _)
      · exact I1.ok.nofr eb z
    refine ⟨L2.notStop_of hnsx kin hc, L2.passAt B.tk σ pins H1 sc e _ I1 ?_⟩
    obtain ⟨a, B, H', cls, d, z1, fl, z2, ub, z3, z4, z5, z6⟩ := hc
    exact ⟨a, B, H', cls, d, z1, fl, z2, ub, z3, z4, L2.allBare_setGen z5 rfl, z6.1⟩
end
end FL

end

section
set_option linter.all false
/-! l.pop(): on values. -/
namespace FL
def ePop (o : E) : E := fun l h => (o l h).bind fun x h1 => match x with
  | .ref n => (match h1[n]? with
    | some (.lst xs) => (match xs[xs.length - 1]? with
      | some d => .ok d (h1.set n (.lst xs.dropLast))
      | none => .bad)
    | _ => .bad)
  | _ => .bad
end FL

end

section
set_option Elab.async false
set_option linter.all false
set_option maxRecDepth 100000
set_option maxHeartbeats 1000000
/-! l.pop() -/
namespace FL
open PySem
open L2 (V Hp HO VK XK St TE TT TA TS TG TGs TI Ends PE PT PW PA PS PSs PG PGs PI Cx Inv SqL SqT Rd upd upd_same upd_ne WX)
theorem RVs.dropLast {K : PySem.W.Frag} {X : Hp} {r : List Addr} : ∀ {ds : List D} {vs : List V}, RVs K X r ds vs → RVs K X r ds.dropLast vs.dropLast
  | _, _, .nil => .nil
  | _, _, .cons a .nil => .nil
  | _, _, .cons a (.cons b c) => .cons a (RVs.dropLast (.cons b c))
section
variable {C : Cx} {P : Pm} {w : WX} {o : Expr} {mo : E} {apos cpos : Pos}
theorem xPop (hK : C.K = P.K) (ho : PE C o (tE P w mo)) (hbase : attributeBase o "pop" C.env (eval o C.env) = eval o C.env := by rfl) (hline : (apos.endLine == cpos.line) = true := by rfl) : PE C (.Call (.Attribute o "pop" apos) [] [] cpos) (tE P w (ePop mo)) := by
  refine peW (L2.pe_bm0 PySem.F.plainAttrs_list PySem.F.slot_list_pop PySem.F.type_list_pop L2.mt_pop ho hbase hline) fun σ X Q h => ?_
  obtain ⟨r, h, l, ds, a1, a2, a3, a4⟩ := bindE (R := relE) (m := mo) (k := fun x _ l h1 => match x with
    | .ref n => (match h1[n]? with
      | some (.lst xs) => (match xs[xs.length - 1]? with
        | some d => .ok d (h1.set n (.lst xs.dropLast))
        | none => .bad)
      | _ => .bad)
    | _ => .bad) h
  refine ⟨r, h, l, ds, a1, a2, a3, End.mono (fun x X1 q => ?_) a4⟩
  obtain ⟨r, h1, l, ds, a1, a2, a3, a4⟩ := q
  cases a3 with
  | @cons d _ _ _ b1 b2 =>
    cases b2
    dsimp only at a4
    cases b1 <;> try (exact a4.elim)
    case ref n a ha =>
      dsimp only at a4
      split at a4
      · rename_i xs ex
        split at a4
        · rename_i y ey
          obtain ⟨us, q1, q2⟩ := a1.lst ex ha
          obtain ⟨u, eu, ru⟩ := q2.get ey
          rw [q2.length] at eu
          have st := Stp.write (X := X1) (o := .lst us.dropLast) (List.mem_of_getElem? ha)
          refine ⟨.inl ⟨rfl, us, .inl (.inl q1)⟩, a, us, u, rfl, rfl, q1, eu, ?_⟩
          exact a4 r _ u st (a1.write ha ⟨_, upd_same, RVs.mono st a1.own (RVs.dropLast q2)⟩) (ru.mono st a1.own)
        · exact a4.elim
      · exact a4.elim
end
end FL

end

section
set_option Elab.async false
set_option linter.all false
set_option maxRecDepth 100000
set_option maxHeartbeats 1000000
namespace GT
open PySem FL
open L2 (V Hp HO VK XK St TE TT TA TS TG TGs TI Ends PE PT PW PA PS PSs PG PGs PI Cx Inv SqL SqT Rd upd upd_same upd_ne WX Room inClass defArgs defBody defScope)
def top (i : Nat) : Stmt := PySem.Challenge.pw_burstlimits_k45_whole_gates_one_behind_t.main.body.getD i (.Pass ⟨0, 0, 0, 0⟩)
def pm (K : PySem.W.Frag) : Pm := { K := K, ca := fun _ => He.ga K "Limits" }
def one (c : Nat) (f : F) : Nat → Option F := fun d => if d = c then some f else none
theorem r65 {k : Nat} {A : Around} (r : Room k A) : A.units + 65 < cLine := by have := r.un; omega
structure Bi (K : PySem.W.Frag) (mg : Str → Option Value) : Prop where
  isi : IsiOk K ((pm K).ca 0)
  sfst : PySem.W.selfFirst K ((pm K).ca 0) = true
  g_Limits : mg "Limits" = some (.ref ((pm K).ca 0))
  f_held : ∀ c ∈ [0], PySem.W.findIn K (.ref ((pm K).ca c)) "held" = some none
  n_all : mg "all" = none
  n_bool : mg "bool" = none
  n_enumerate : mg "enumerate" = none
  n_int : mg "int" = none
  n_isinstance : mg "isinstance" = none
  n_len : mg "len" = none
  n_list : mg "list" = none
  n_max : mg "max" = none
  n_min : mg "min" = none
  n_range : mg "range" = none
  n_set : mg "set" = none
  n_sum : mg "sum" = none
  n_tuple : mg "tuple" = none
  n_zip : mg "zip" = none
  i_GREATEST : ∃ t, mg "GREATEST" = some (.int 20 t)
  i_LONGEST : ∃ t, mg "LONGEST" = some (.int 1000 t)
  i_MOST_LIMITS : ∃ t, mg "MOST_LIMITS" = some (.int 6 t)
  i_MOST_REQUESTS : ∃ t, mg "MOST_REQUESTS" = some (.int 60 t)
def Cw (g : Bool) (Pg : Program) (wd : World) (K : PySem.W.Frag) (mg : Str → Option Value) (base : Heap) (x : Str) (k n : Nat) (fm : F) : Prop := (∃ f, FnX g Pg wd K mg base k f (spF (pm K) n fm) ∧ mg x = some (.ref f) ∧ PySem.W.keepIn K (.ref f) = true) ∧ ∀ ds h, ds.length ≠ n → fm ds h = .bad
theorem cal {g : Bool} {C : Cx} {x : Str} {k n : Nat} {fm : F} (h : Cw g C.prog C.w C.K C.mg C.base x k n fm) : Cal g C (pm C.K) x k n fm := ⟨h.1, h.2⟩
def Gw (Pg : Program) (wd : World) (K : PySem.W.Frag) (mg : Str → Option Value) (base : Heap) (x : Str) (k n : Nat) (fm : FG) : Prop := (∃ f fd ps, L2.GFn Pg wd K mg base k f fd ps (spG (pm K) n fm) ∧ mg x = some (.ref f) ∧ PySem.W.keepIn K (.ref f) = true ∧ L2.Binds K fd ps []) ∧ ∀ ds h, ds.length ≠ n → fm ds h = .bad
theorem calg {C : Cx} {x : Str} {k n : Nat} {fm : FG} (h : Gw C.prog C.w C.K C.mg C.base x k n fm) : CalG C (pm C.K) x k n fm := ⟨h.1, h.2⟩
def Dw (Pg : Program) (wd : World) (K : PySem.W.Frag) (mg : Str → Option Value) (base : Heap) (c : Nat) (m : Str) (k : Nat) (fm : F) : Prop := ∃ f, FnX false Pg wd K mg base k f (spA (pm K) fm) ∧ PySem.W.findIn K (.ref ((pm K).ca c)) m = some (some (.ref f)) ∧ PySem.W.isFn K (.ref f) = true ∧ PySem.W.fnIn K f = true ∧ PySem.W.keepIn K (.ref f) = true
theorem eqfo {K : PySem.W.Frag} {os : List Addr} {fm : F} (h : EqF K ((pm K).ca 0) os) : ∀ c f, one 0 fm c = some f → EqF K ((pm K).ca c) os := fun c f e => by
  unfold one at e
  split at e
  · rename_i hc
    subst hc
    exact h
  · cases e
theorem dsp {C : Cx} {cc : Nat} {m : Str} {k : Nat} {fm : F} (h : Dw C.prog C.w C.K C.mg C.base cc m k fm) : Disp C (pm C.K) k m (one cc fm) := fun c f e => by
  unfold one at e
  split at e
  · rename_i hc
    subst hc
    cases e
    exact ⟨h⟩
  · cases e
theorem sfo {K : PySem.W.Frag} {fm : F} (h : PySem.W.selfFirst K ((pm K).ca 0) = true) : ∀ c f, one 0 fm c = some f → PySem.W.selfFirst K ((pm K).ca c) = true := fun c f e => by
  unfold one at e
  split at e
  · rename_i hc
    subst hc
    exact h
  · cases e
def Mw (Pg : Program) (wd : World) (K : PySem.W.Frag) (mg : Str → Option Value) (base : Heap) (c : Nat) (k : Nat) (fm : F) : Prop := (∃ f, FnX false Pg wd K mg base k f (spA (pm K) fm) ∧ L2.Mk K ((pm K).ca c) f) ∧ InsOk K ((pm K).ca c)
theorem mkt {C : Cx} {c k : Nat} {fm : F} (h : Mw C.prog C.w C.K C.mg C.base c k fm) : MkAt C (pm C.K) k c fm := ⟨h.1, h.2⟩
def Pw (Pg : Program) (wd : World) (K : PySem.W.Frag) (mg : Str → Option Value) (base : Heap) (m : Str) (k : Nat) (fm : F) : Prop := ∃ p f, L2.PropOf K ((pm K).ca 0) m p f ∧ FnX false Pg wd K mg base k f (spA (pm K) fm)
theorem prp {C : Cx} {m : Str} {k : Nat} {fm : F} (h : Pw C.prog C.w C.K C.mg C.base m k fm) : ∀ c f, one 0 fm c = some f → PropAt C (pm C.K) k m c f := fun c f e => by
  unfold one at e
  split at e
  · rename_i hc
    subst hc
    cases e
    exact h
  · cases e
def Sw (Pg : Program) (wd : World) (K : PySem.W.Frag) (mg : Str → Option Value) (base : Heap) (m : Str) (k : Nat) (fm : F) : Prop := ∃ (mc : Value) (p f : Addr) (rest : List Value), FnX false Pg wd K mg base k f (spA (pm K) fm) ∧ ClX.CRead K ((pm K).ca 0) mc ∧ PySem.W.findCls K (.ref ((pm K).ca 0)) mc m = some (.get (.builtin "staticmethod.__get__") (.ref p) .none (.ref ((pm K).ca 0))) ∧
    PySem.W.recIn K p "staticmethod" = some (.ref f :: rest) ∧ PySem.W.keepIn K (.ref f) = true
theorem stt {C : Cx} {m : Str} {k : Nat} {fm : F} (h : Sw C.prog C.w C.K C.mg C.base m k fm) : StAt C (pm C.K) k ((pm C.K).ca 0) m fm := ⟨h⟩
def Kw (Pg : Program) (wd : World) (K : PySem.W.Frag) (mg : Str → Option Value) (base : Heap) (m : Str) (k : Nat) (fm : F) : Prop := ∃ (mc : Value) (p f : Addr), FnX false Pg wd K mg base k f (spA (pm K) fm) ∧ ClX.CRead K ((pm K).ca 0) mc ∧ ClX.CMet K ((pm K).ca 0) mc m p f
theorem cmt {C : Cx} {m : Str} {k : Nat} {fm : F} (h : Kw C.prog C.w C.K C.mg C.base m k fm) : CmAt C (pm C.K) k ((pm C.K).ca 0) m fm := ⟨h⟩
def KC (Pg : Program) (wd : World) (K : PySem.W.Frag) (mg : Str → Option Value) (base : Heap) (m : Str) (k n : Nat) (ks : List Str) (po : {α : Type} → List α → List α) (fm : F) : Prop := (∃ (mc : Value) (p f : Addr) (fd : FuncData) (ps : List Str), FnB false Pg wd K mg base k f fd ps (spF (pm K) n fm) ∧ ClX.CRead K ((pm K).ca 0) mc ∧ ClX.CMet K ((pm K).ca 0) mc m p f ∧ KwB fd ps ks 1 po) ∧ ∀ ds h, ds.length ≠ n → fm ds h = .bad
theorem ckt {C : Cx} {m : Str} {k n : Nat} {ks : List Str} {po : {α : Type} → List α → List α} {fm : F} (h : KC C.prog C.w C.K C.mg C.base m k n ks po fm) : CmAtK C (pm C.K) k ((pm C.K).ca 0) m n ks po fm := ⟨h.1, h.2⟩
def KS (Pg : Program) (wd : World) (K : PySem.W.Frag) (mg : Str → Option Value) (base : Heap) (m : Str) (k n : Nat) (ks : List Str) (po : {α : Type} → List α → List α) (fm : F) : Prop := (∃ (mc : Value) (p f : Addr) (rest : List Value) (fd : FuncData) (ps : List Str), FnB false Pg wd K mg base k f fd ps (spF (pm K) n fm) ∧ ClX.CRead K ((pm K).ca 0) mc ∧ PySem.W.findCls K (.ref ((pm K).ca 0)) mc m = some (.get (.builtin "staticmethod.__get__") (.ref p) .none (.ref ((pm K).ca 0))) ∧
    PySem.W.recIn K p "staticmethod" = some (.ref f :: rest) ∧ PySem.W.keepIn K (.ref f) = true ∧ KwB fd ps ks 0 po) ∧ ∀ ds h, ds.length ≠ n → fm ds h = .bad
theorem skt {C : Cx} {m : Str} {k n : Nat} {ks : List Str} {po : {α : Type} → List α → List α} {fm : F} (h : KS C.prog C.w C.K C.mg C.base m k n ks po fm) : StAtK C (pm C.K) k ((pm C.K).ca 0) m n ks po fm := ⟨h.1, h.2⟩
def KF (Pg : Program) (wd : World) (K : PySem.W.Frag) (mg : Str → Option Value) (base : Heap) (m : Str) (k n : Nat) (ks : List Str) (po : {α : Type} → List α → List α) (fm : F) : Prop := (∃ (f : Addr) (fd : FuncData) (ps : List Str), FnB false Pg wd K mg base k f fd ps (spF (pm K) n fm) ∧ mg m = some (.ref f) ∧ PySem.W.keepIn K (.ref f) = true ∧ KwB fd ps ks 0 po) ∧ ∀ ds h, ds.length ≠ n → fm ds h = .bad
theorem fkt {C : Cx} {m : Str} {k n : Nat} {ks : List Str} {po : {α : Type} → List α → List α} {fm : F} (h : KF C.prog C.w C.K C.mg C.base m k n ks po fm) : FnAtK C (pm C.K) k m n ks po fm := ⟨h.1, h.2⟩
def KD (Pg : Program) (wd : World) (K : PySem.W.Frag) (mg : Str → Option Value) (base : Heap) (m : Str) (k n : Nat) (ks : List Str) (po : {α : Type} → List α → List α) (fm : F) : Prop := (∃ (f : Addr) (fd : FuncData) (ps : List Str), FnB false Pg wd K mg base k f fd ps (spF (pm K) n fm) ∧ PySem.W.findIn K (.ref ((pm K).ca 0)) m = some (some (.ref f)) ∧ PySem.W.isFn K (.ref f) = true ∧ PySem.W.fnIn K f = true ∧ KwB fd ps ks 1 po) ∧ ∀ ds h, ds.length ≠ n → fm ds h = .bad
theorem dkt {C : Cx} {m : Str} {k n : Nat} {ks : List Str} {po : {α : Type} → List α → List α} {fm : F} (h : KD C.prog C.w C.K C.mg C.base m k n ks po fm) : ∀ c f, one 0 fm c = some f → DefAtK C (pm C.K) k m c n ks po f := fun c f e => by
  unfold one at e
  split at e
  · rename_i hc
    subst hc
    cases e
    exact ⟨h.1, h.2⟩
  · cases e
theorem bk {g : Bool} {C : Cx} {w : WX} {k : Nat} {scope : Scope} {f : Cx → Prop} (B : Bd g C w k) (h : ∀ (s : Shared) (X : Hp) (c : Addr) (cl : List (Str × Addr)) (fp : List Addr), Bd g (C.blk s X scope (compEnvC scope cl c C.env) fp) w0 k → f (C.blk s X scope (compEnvC scope cl c C.env) fp)) : Blk C scope f := fun s X c cl fp => h s X c cl fp (B.blk _ _ _ _ _)
section
variable {Pg : Program} {wd : World} {K : PySem.W.Frag} {mg : Str → Option Value} {base : Heap}
abbrev s_is_integer : Stmt := top 2
def m_is_integer : F := fn 1 1 (sRet (eAnd (eUn (vIsTy .int) (eVar 0)) (eNot (eUn (vIsTy .bool) (eVar 0)))))
theorem sc_is_integer : L2.FnScope ["thing"] ["thing"] (defScope s_is_integer) := ⟨rfl, rfl, rfl, by decide +kernel, rfl, by decide +kernel, by decide +kernel⟩
theorem ok_is_integer {g : Bool} {f : Addr} {fd : FuncData} (Z : Bi K mg) (F0 : L2.FunD K "is_integer" "is_integer" (defArgs s_is_integer) (defBody s_is_integer) (defScope s_is_integer) [] [] f fd)  (bn : ∀ us : List Value, us.length = 1 → ∀ s, BindsTo s fd ⟨us, []⟩ ((["thing"] : List Str).zip us)) : FnX g Pg wd K mg base 1 f (spF (pm K) 1 m_is_integer) :=
  okDef 1 1 rfl rfl F0 sc_is_integer bn fun cdv A outer s X Ex B => by
    have SC := sc_is_integer
    exact yOne (yRet (xAnd (xIsTy (t := .int) rfl ((xVar (L2.pe_var (i := 0) rfl (by first | exact Or.inl rfl | exact Or.inr (Or.inl rfl) | exact Or.inr (Or.inr rfl))))) rfl Z.n_isinstance (L2.pe_bltn rfl Z.n_int (by first | exact PyProof.Rows.boot_sum | decide +kernel) rfl)) (xOne (xNot (xIsTy (t := .bool) rfl ((xVar (L2.pe_var (i := 0) rfl (by first | exact Or.inl rfl | exact Or.inr (Or.inl rfl) | exact Or.inr (Or.inr rfl))))) rfl Z.n_isinstance (L2.pe_bltn rfl Z.n_bool (by first | exact PyProof.Rows.boot_sum | decide +kernel) rfl))))))
abbrev s_is_between : Stmt := top 3
def m_is_between : F := fn 3 3 (sRet (eAnd (eCall m_is_integer (aCons (eVar 0) (aNil))) (eChain vLe vLe (eVar 1) (eVar 0) (eVar 2))))
theorem sc_is_between : L2.FnScope ["thing", "least", "greatest"] ["thing", "least", "greatest"] (defScope s_is_between) := ⟨rfl, rfl, rfl, by decide +kernel, rfl, by decide +kernel, by decide +kernel⟩
theorem ok_is_between {g : Bool} {f : Addr} {fd : FuncData} (Z : Bi K mg) (F0 : L2.FunD K "is_between" "is_between" (defArgs s_is_between) (defBody s_is_between) (defScope s_is_between) [] [] f fd) (h_is_integer : Cw g Pg wd K mg base "is_integer" 1 1 m_is_integer) (bn : ∀ us : List Value, us.length = 3 → ∀ s, BindsTo s fd ⟨us, []⟩ ((["thing", "least", "greatest"] : List Str).zip us)) : FnX g Pg wd K mg base 2 f (spF (pm K) 3 m_is_between) :=
  okDef 3 3 rfl rfl F0 sc_is_between bn fun cdv A outer s X Ex B => by
    have SC := sc_is_between
    exact yOne (yRet (xAnd (xCall B (cal h_is_integer) (by decide) rfl (xCons ((xVar (L2.pe_var (i := 0) rfl (by first | exact Or.inl rfl | exact Or.inr (Or.inl rfl) | exact Or.inr (Or.inr rfl))))) (xNil))) (xOne (xChain oLe oLe ((xVar (L2.pe_var (i := 1) rfl (by first | exact Or.inl rfl | exact Or.inr (Or.inl rfl) | exact Or.inr (Or.inr rfl))))) ((xVar (L2.pe_var (i := 0) rfl (by first | exact Or.inl rfl | exact Or.inr (Or.inl rfl) | exact Or.inr (Or.inr rfl))))) ((xVar (L2.pe_var (i := 2) rfl (by first | exact Or.inl rfl | exact Or.inr (Or.inl rfl) | exact Or.inr (Or.inr rfl)))))))))
abbrev s_is_row : Stmt := top 4
def m_is_row : F := fn 2 1 (sSeq (sIf (tNot (tTruth (eUn (vIsTy .tuple) (eVar 0)))) (sRet (eC (.bl false))) (sNext)) (sRet (eAnd (eCall fAll (aCons (eComp (wSeq (eVar 0)) (gName 1) (tYes) (eCall m_is_between (aCons (eVar 1) (aCons (eC (.int 0)) (aCons (eC (.int 60)) (aNil))))) [1]) (aNil))) (eBin vLe (eCall fSum (aCons (eVar 0) (aNil))) (eC (.int 60))))))
theorem sc_is_row : L2.FnScope ["thing", "part"] ["thing"] (defScope s_is_row) := ⟨rfl, rfl, rfl, by decide +kernel, rfl, by decide +kernel, by decide +kernel⟩
theorem ok_is_row {g : Bool} {f : Addr} {fd : FuncData} (Z : Bi K mg) (F0 : L2.FunD K "is_row" "is_row" (defArgs s_is_row) (defBody s_is_row) (defScope s_is_row) [] [] f fd) (h_is_between : Cw g Pg wd K mg base "is_between" 2 3 m_is_between) (bn : ∀ us : List Value, us.length = 1 → ∀ s, BindsTo s fd ⟨us, []⟩ ((["thing"] : List Str).zip us)) : FnX g Pg wd K mg base 3 f (spF (pm K) 1 m_is_row) :=
  okDef 2 1 rfl rfl F0 sc_is_row bn fun cdv A outer s X Ex B => by
    have SC := sc_is_row
    exact ySeq (yIf (xTNot (xTruth rfl (xIsTy (t := .tuple) rfl ((xVar (L2.pe_var (i := 0) rfl (by first | exact Or.inl rfl | exact Or.inr (Or.inl rfl) | exact Or.inr (Or.inr rfl))))) rfl Z.n_isinstance (L2.pe_bltn rfl Z.n_tuple (by first | exact PyProof.Rows.boot_sum | decide +kernel) rfl)))) (yOne (yRet (xC L2.pe_bl (fun _ _ _ => .bl _)))) (yNil)) (yOne (yRet (xAnd (xB (fm := fAll) (cAll rfl rfl) rfl Z.n_all (by first | exact PyProof.Rows.boot_sum | decide +kernel) (xCons (xComp (own := [("part", 1)]) rfl SC.nd (piSeq rfl ((xVar (L2.pe_var (i := 0) rfl (by first | exact Or.inl rfl | exact Or.inr (Or.inl rfl) | exact Or.inr (Or.inr rfl)))))) (by exact ⟨rfl, of_decide_eq_true (by kernel_rfl), of_decide_eq_true (by kernel_rfl), of_decide_eq_true (by kernel_rfl), of_decide_eq_true (by kernel_rfl)⟩) (tgName (by decide)) (bk B fun _ _ _ _ _ B => (L2.pg_name (i := 1) SC.nd rfl (by first | exact Or.inl rfl | exact Or.inr rfl))) (bk B fun _ _ _ _ _ B => xTsNil) (bk B fun _ _ _ _ _ B => xCall B (cal h_is_between) (by decide) rfl (xCons ((xVar (L2.pe_var (i := 1) rfl (by first | exact Or.inl rfl | exact Or.inr (Or.inl rfl) | exact Or.inr (Or.inr rfl))))) (xCons (xC L2.pe_int (fun _ _ _ => .int _)) (xCons ((match Z.i_MOST_REQUESTS with | ⟨t, e⟩ => xC (L2.pe_glob (v := .int 60) rfl e ⟨t, rfl⟩) (fun _ _ _ => .int _))) (xNil)))))) (xNil))) (xOne (xCmp oLe (xB (fm := fSum) (cSum rfl rfl) rfl Z.n_sum (by first | exact PyProof.Rows.boot_sum | decide +kernel) (xCons ((xVar (L2.pe_var (i := 0) rfl (by first | exact Or.inl rfl | exact Or.inr (Or.inl rfl) | exact Or.inr (Or.inr rfl))))) (xNil))) ((match Z.i_MOST_REQUESTS with | ⟨t, e⟩ => xC (L2.pe_glob (v := .int 60) rfl e ⟨t, rfl⟩) (fun _ _ _ => .int _))) (L2.nomark _))))))
abbrev s_Limits_is_limit : Stmt := inClass (top 18) 14
def m_Limits_is_limit : F := fn 1 1 (sSeq (sIf (tOr (tNot (tTruth (eUn (vIsTy .tuple) (eVar 0)))) (tVal (eBin vNe (eCall fLen (aCons (eVar 0) (aNil))) (eC (.int 2))))) (sRet (eC (.bl false))) (sNext)) (sRet (eAnd (eCall m_is_between (aCons (eBin vIx (eVar 0) (eC (.int 0))) (aCons (eC (.int 1)) (aCons (eC (.int 20)) (aNil))))) (eCall m_is_between (aCons (eBin vIx (eVar 0) (eC (.int 1))) (aCons (eC (.int 1)) (aCons (eC (.int 20)) (aNil))))))))
theorem sc_Limits_is_limit : L2.FnScope ["thing"] ["thing"] (defScope s_Limits_is_limit) := ⟨rfl, rfl, rfl, by decide +kernel, rfl, by decide +kernel, by decide +kernel⟩
theorem ok_Limits_is_limit {g : Bool} {f : Addr} {fd : FuncData} (Z : Bi K mg) (F0 : L2.FunD K "is_limit" "Limits.is_limit" (defArgs s_Limits_is_limit) (defBody s_Limits_is_limit) (defScope s_Limits_is_limit) [] [] f fd) (h_is_between : Cw g Pg wd K mg base "is_between" 2 3 m_is_between) (bn : ∀ us : List Value, us.length = 1 → ∀ s, BindsTo s fd ⟨us, []⟩ ((["thing"] : List Str).zip us)) : FnX g Pg wd K mg base 3 f (spF (pm K) 1 m_Limits_is_limit) :=
  okDef 1 1 rfl rfl F0 sc_Limits_is_limit bn fun cdv A outer s X Ex B => by
    have SC := sc_Limits_is_limit
    exact ySeq (yIf (L2.PW.pt (xWOr (xTNot (xTruth rfl (xIsTy (t := .tuple) rfl ((xVar (L2.pe_var (i := 0) rfl (by first | exact Or.inl rfl | exact Or.inr (Or.inl rfl) | exact Or.inr (Or.inr rfl))))) rfl Z.n_isinstance (L2.pe_bltn rfl Z.n_tuple (by first | exact PyProof.Rows.boot_sum | decide +kernel) rfl)))) (xWOr1 (xTCmp (oNe rfl B.room.units) (xB (fm := fLen) (cLen rfl) rfl Z.n_len (by first | exact PyProof.Rows.boot_sum | decide +kernel) (xCons ((xVar (L2.pe_var (i := 0) rfl (by first | exact Or.inl rfl | exact Or.inr (Or.inl rfl) | exact Or.inr (Or.inr rfl))))) (xNil))) (xC L2.pe_int (fun _ _ _ => .int _)) (L2.nomark _))))) (yOne (yRet (xC L2.pe_bl (fun _ _ _ => .bl _)))) (yNil)) (yOne (yRet (xAnd (xCall B (cal h_is_between) (by decide) rfl (xCons (xIx rfl ((xVar (L2.pe_var (i := 0) rfl (by first | exact Or.inl rfl | exact Or.inr (Or.inl rfl) | exact Or.inr (Or.inr rfl))))) (xC L2.pe_int (fun _ _ _ => .int _))) (xCons (xC L2.pe_int (fun _ _ _ => .int _)) (xCons ((match Z.i_GREATEST with | ⟨t, e⟩ => xC (L2.pe_glob (v := .int 20) rfl e ⟨t, rfl⟩) (fun _ _ _ => .int _))) (xNil))))) (xOne (xCall B (cal h_is_between) (by decide) rfl (xCons (xIx rfl ((xVar (L2.pe_var (i := 0) rfl (by first | exact Or.inl rfl | exact Or.inr (Or.inl rfl) | exact Or.inr (Or.inr rfl))))) (xC L2.pe_int (fun _ _ _ => .int _))) (xCons (xC L2.pe_int (fun _ _ _ => .int _)) (xCons ((match Z.i_GREATEST with | ⟨t, e⟩ => xC (L2.pe_glob (v := .int 20) rfl e ⟨t, rfl⟩) (fun _ _ _ => .int _))) (xNil)))))))))
abbrev s_are_limits : Stmt := top 19
def m_are_limits : F := fn 2 1 (sSeq (sIf (tNot (tTruth (eCall fAll (aCons (eComp (wSeq (eVar 0)) (gName 1) (tYes) (eSt m_Limits_is_limit (aCons (eVar 1) (aNil))) [1]) (aNil))))) (sRet (eC (.bl false))) (sNext)) (sRet (eAnd (eBin vGt (eCall fLen (aCons (eVar 0) (aNil))) (eC (.int 0))) (eBin vEq (eLenSet (eVar 0)) (eCall fLen (aCons (eVar 0) (aNil)))))))
theorem sc_are_limits : L2.FnScope ["pairs", "pair"] ["pairs"] (defScope s_are_limits) := ⟨rfl, rfl, rfl, by decide +kernel, rfl, by decide +kernel, by decide +kernel⟩
theorem ok_are_limits {g : Bool} {f : Addr} {fd : FuncData} (Z : Bi K mg) (F0 : L2.FunD K "are_limits" "are_limits" (defArgs s_are_limits) (defBody s_are_limits) (defScope s_are_limits) [] [] f fd) (h_Limits_is_limit : Sw Pg wd K mg base "is_limit" 3 m_Limits_is_limit) (bn : ∀ us : List Value, us.length = 1 → ∀ s, BindsTo s fd ⟨us, []⟩ ((["pairs"] : List Str).zip us)) : FnX g Pg wd K mg base 4 f (spF (pm K) 1 m_are_limits) :=
  okDef 2 1 rfl rfl F0 sc_are_limits bn fun cdv A outer s X Ex B => by
    have SC := sc_are_limits
    exact ySeq (yIf (xTNot (xTruth rfl (xB (fm := fAll) (cAll rfl rfl) rfl Z.n_all (by first | exact PyProof.Rows.boot_sum | decide +kernel) (xCons (xComp (own := [("pair", 1)]) rfl SC.nd (piSeq rfl ((xVar (L2.pe_var (i := 0) rfl (by first | exact Or.inl rfl | exact Or.inr (Or.inl rfl) | exact Or.inr (Or.inr rfl)))))) (by exact ⟨rfl, of_decide_eq_true (by kernel_rfl), of_decide_eq_true (by kernel_rfl), of_decide_eq_true (by kernel_rfl), of_decide_eq_true (by kernel_rfl)⟩) (tgName (by decide)) (bk B fun _ _ _ _ _ B => (L2.pg_name (i := 1) SC.nd rfl (by first | exact Or.inl rfl | exact Or.inr rfl))) (bk B fun _ _ _ _ _ B => xTsNil) (bk B fun _ _ _ _ _ B => xStat B (stt h_Limits_is_limit) (by decide) rfl Z.g_Limits (xCons ((xVar (L2.pe_var (i := 1) rfl (by first | exact Or.inl rfl | exact Or.inr (Or.inl rfl) | exact Or.inr (Or.inr rfl))))) (xNil)))) (xNil))))) (yOne (yRet (xC L2.pe_bl (fun _ _ _ => .bl _)))) (yNil)) (yOne (yRet (xAnd (xCmp oGt (xB (fm := fLen) (cLen rfl) rfl Z.n_len (by first | exact PyProof.Rows.boot_sum | decide +kernel) (xCons ((xVar (L2.pe_var (i := 0) rfl (by first | exact Or.inl rfl | exact Or.inr (Or.inl rfl) | exact Or.inr (Or.inr rfl))))) (xNil))) (xC L2.pe_int (fun _ _ _ => .int _)) (L2.nomark _)) (xOne (xCmp (oEq rfl B.room.units) (xLenSet rfl rfl B.room.units rfl Z.n_len rfl Z.n_set ((xVar (L2.pe_var (i := 0) rfl (by first | exact Or.inl rfl | exact Or.inr (Or.inl rfl) | exact Or.inr (Or.inr rfl)))))) (xB (fm := fLen) (cLen rfl) rfl Z.n_len (by first | exact PyProof.Rows.boot_sum | decide +kernel) (xCons ((xVar (L2.pe_var (i := 0) rfl (by first | exact Or.inl rfl | exact Or.inr (Or.inl rfl) | exact Or.inr (Or.inr rfl))))) (xNil))) (L2.nomark _))))))
abbrev s_need_limits : Stmt := top 20
def m_need_limits : F := fn 1 1 (sIf (tNot (tTruth (eUn (vIsC 0) (eVar 0)))) (sNever) (sNext))
theorem sc_need_limits : L2.FnScope ["limits"] ["limits"] (defScope s_need_limits) := ⟨rfl, rfl, rfl, by decide +kernel, rfl, by decide +kernel, by decide +kernel⟩
theorem ok_need_limits {g : Bool} {f : Addr} {fd : FuncData} (Z : Bi K mg) (F0 : L2.FunD K "need_limits" "need_limits" (defArgs s_need_limits) (defBody s_need_limits) (defScope s_need_limits) [] [] f fd)  (bn : ∀ us : List Value, us.length = 1 → ∀ s, BindsTo s fd ⟨us, []⟩ ((["limits"] : List Str).zip us)) : FnX g Pg wd K mg base 1 f (spF (pm K) 1 m_need_limits) :=
  okDef 1 1 rfl rfl F0 sc_need_limits bn fun cdv A outer s X Ex B => by
    have SC := sc_need_limits
    exact yOne (yIf (xTNot (xTruth rfl (xIsC rfl Z.isi ((xVar (L2.pe_var (i := 0) rfl (by first | exact Or.inl rfl | exact Or.inr (Or.inl rfl) | exact Or.inr (Or.inr rfl))))) rfl Z.n_isinstance (L2.pe_glob (v := .ref _) rfl Z.g_Limits rfl)))) (yOne (yNever)) (yNil))
abbrev s_least_sums : Stmt := top 21
def m_least_sums : F := fn 6 2 (sSeq (sAsg (eLst (aCons (eC (.int 0)) (aNil))) (gName 2)) (sSeq (sFor (wRng2 (aCons (eC (.int 1)) (aCons (eBin vAdd (eVar 1) (eC (.int 1))) (aNil)))) (gName 3) (sDrop (eLm mAppend (eVar 2) (aCons (eCall fMin (aCons (eComp (wSeq (eVar 0)) (gTup 2 (gCons (gName 4) (gCons (gName 5) (gNil)))) (tYes) (eBin vAdd (eVar 5) (eBin vIx (eVar 2) (eCall fMax (aCons (eC (.int 0)) (aCons (eBin vSub (eVar 3) (eVar 4)) (aNil)))))) [4, 5]) (aNil))) aNil)))) (sRet (eVar 2))))
theorem sc_least_sums : L2.FnScope ["pairs", "longest", "sums", "covered", "length", "most"] ["pairs", "longest"] (defScope s_least_sums) := ⟨rfl, rfl, rfl, by decide +kernel, rfl, by decide +kernel, by decide +kernel⟩
theorem ok_least_sums {g : Bool} {f : Addr} {fd : FuncData} (Z : Bi K mg) (F0 : L2.FunD K "least_sums" "least_sums" (defArgs s_least_sums) (defBody s_least_sums) (defScope s_least_sums) [] [] f fd)  (bn : ∀ us : List Value, us.length = 2 → ∀ s, BindsTo s fd ⟨us, []⟩ ((["pairs", "longest"] : List Str).zip us)) : FnX g Pg wd K mg base 1 f (spF (pm K) 2 m_least_sums) :=
  okDef 6 2 rfl rfl F0 sc_least_sums bn fun cdv A outer s X Ex B => by
    have SC := sc_least_sums
    exact ySeq (ySet (i := 2) SC.nd rfl (by first | exact Or.inl rfl | exact Or.inr rfl) (xLst (xCons (xC L2.pe_int (fun _ _ _ => .int _)) (xNil)))) (ySeq (yFor B.po rfl (piRng2 rfl Z.n_range (xCons (xC L2.pe_int (fun _ _ _ => .int _)) (xCons (xBin (oAdd rfl) ((xVar (L2.pe_var (i := 1) rfl (by first | exact Or.inl rfl | exact Or.inr (Or.inl rfl) | exact Or.inr (Or.inr rfl))))) (xC L2.pe_int (fun _ _ _ => .int _))) (xNil)))) (gtName ((L2.pg_name (i := 3) SC.nd rfl (by first | exact Or.inl rfl | exact Or.inr rfl)))) (yOne (yDrop (xAppend rfl ((xVar (L2.pe_var (i := 2) rfl (by first | exact Or.inl rfl | exact Or.inr (Or.inl rfl) | exact Or.inr (Or.inr rfl))))) (xB (fm := fMin) (cMin rfl rfl) rfl Z.n_min (by first | exact PyProof.Rows.boot_sum | decide +kernel) (xCons (xComp (own := [("length", 4), ("most", 5)]) rfl SC.nd (piSeq rfl ((xVar (L2.pe_var (i := 0) rfl (by first | exact Or.inl rfl | exact Or.inr (Or.inl rfl) | exact Or.inr (Or.inr rfl)))))) (by exact ⟨rfl, of_decide_eq_true (by kernel_rfl), of_decide_eq_true (by kernel_rfl), of_decide_eq_true (by kernel_rfl), of_decide_eq_true (by kernel_rfl)⟩) (tgTup (tgCons (tgName (by decide)) (tgCons (tgName (by decide)) (tgNil)))) (bk B fun _ _ _ _ _ B => L2.pg_tup rfl (L2.pgs_cons ((L2.pg_name (i := 4) SC.nd rfl (by first | exact Or.inl rfl | exact Or.inr rfl))) (L2.pgs_cons ((L2.pg_name (i := 5) SC.nd rfl (by first | exact Or.inl rfl | exact Or.inr rfl))) (L2.pgs_nil) rfl) rfl) rfl rfl) (bk B fun _ _ _ _ _ B => xTsNil) (bk B fun _ _ _ _ _ B => xBin (oAdd rfl) ((xVar (L2.pe_var (i := 5) rfl (by first | exact Or.inl rfl | exact Or.inr (Or.inl rfl) | exact Or.inr (Or.inr rfl))))) (xIx rfl ((xVar (L2.pe_var (i := 2) rfl (by first | exact Or.inl rfl | exact Or.inr (Or.inl rfl) | exact Or.inr (Or.inr rfl))))) (xB (fm := fMax) (cMax rfl rfl) rfl Z.n_max (by first | exact PyProof.Rows.boot_sum | decide +kernel) (xCons (xC L2.pe_int (fun _ _ _ => .int _)) (xCons (xBin oSub ((xVar (L2.pe_var (i := 3) rfl (by first | exact Or.inl rfl | exact Or.inr (Or.inl rfl) | exact Or.inr (Or.inr rfl))))) ((xVar (L2.pe_var (i := 4) rfl (by first | exact Or.inl rfl | exact Or.inr (Or.inl rfl) | exact Or.inr (Or.inr rfl)))))) (xNil))))))) (xNil))))))) (yOne (yRet ((xVar (L2.pe_var (i := 2) rfl (by first | exact Or.inl rfl | exact Or.inr (Or.inl rfl) | exact Or.inr (Or.inr rfl))))))))
abbrev s_need_row : Stmt := top 26
def m_need_row : F := fn 1 1 (sIf (tNot (tTruth (eCall m_is_row (aCons (eVar 0) (aNil))))) (sNever) (sNext))
theorem sc_need_row : L2.FnScope ["row"] ["row"] (defScope s_need_row) := ⟨rfl, rfl, rfl, by decide +kernel, rfl, by decide +kernel, by decide +kernel⟩
theorem ok_need_row {g : Bool} {f : Addr} {fd : FuncData} (Z : Bi K mg) (F0 : L2.FunD K "need_row" "need_row" (defArgs s_need_row) (defBody s_need_row) (defScope s_need_row) [] [] f fd) (h_is_row : Cw g Pg wd K mg base "is_row" 3 1 m_is_row) (bn : ∀ us : List Value, us.length = 1 → ∀ s, BindsTo s fd ⟨us, []⟩ ((["row"] : List Str).zip us)) : FnX g Pg wd K mg base 4 f (spF (pm K) 1 m_need_row) :=
  okDef 1 1 rfl rfl F0 sc_need_row bn fun cdv A outer s X Ex B => by
    have SC := sc_need_row
    exact yOne (yIf (xTNot (xTruth rfl (xCall B (cal h_is_row) (by decide) rfl (xCons ((xVar (L2.pe_var (i := 0) rfl (by first | exact Or.inl rfl | exact Or.inr (Or.inl rfl) | exact Or.inr (Or.inr rfl))))) (xNil))))) (yOne (yNever)) (yNil))
abbrev s_requests_in : Stmt := top 27
def m_requests_in : F := fn 3 3 (sRet (eCall fSum (aCons (eCut (eVar 0) (some (eVar 1)) (some (eBin vAdd (eVar 1) (eVar 2)))) (aNil))))
theorem sc_requests_in : L2.FnScope ["row", "start", "length"] ["row", "start", "length"] (defScope s_requests_in) := ⟨rfl, rfl, rfl, by decide +kernel, rfl, by decide +kernel, by decide +kernel⟩
theorem ok_requests_in {g : Bool} {f : Addr} {fd : FuncData} (Z : Bi K mg) (F0 : L2.FunD K "requests_in" "requests_in" (defArgs s_requests_in) (defBody s_requests_in) (defScope s_requests_in) [] [] f fd)  (bn : ∀ us : List Value, us.length = 3 → ∀ s, BindsTo s fd ⟨us, []⟩ ((["row", "start", "length"] : List Str).zip us)) : FnX g Pg wd K mg base 1 f (spF (pm K) 3 m_requests_in) :=
  okDef 3 3 rfl rfl F0 sc_requests_in bn fun cdv A outer s X Ex B => by
    have SC := sc_requests_in
    exact yOne (yRet (xB (fm := fSum) (cSum rfl rfl) rfl Z.n_sum (by first | exact PyProof.Rows.boot_sum | decide +kernel) (xCons (xCut rfl ((xVar (L2.pe_var (i := 0) rfl (by first | exact Or.inl rfl | exact Or.inr (Or.inl rfl) | exact Or.inr (Or.inr rfl))))) (pSome ((xVar (L2.pe_var (i := 1) rfl (by first | exact Or.inl rfl | exact Or.inr (Or.inl rfl) | exact Or.inr (Or.inr rfl)))))) (pSome (xBin (oAdd rfl) ((xVar (L2.pe_var (i := 1) rfl (by first | exact Or.inl rfl | exact Or.inr (Or.inl rfl) | exact Or.inr (Or.inr rfl))))) ((xVar (L2.pe_var (i := 2) rfl (by first | exact Or.inl rfl | exact Or.inr (Or.inl rfl) | exact Or.inr (Or.inr rfl)))))))) (xNil))))
abbrev s_Limits_pairs : Stmt := inClass (top 18) 1
def m_Limits_pairs : F := fn 1 1 (sRet (eUn (vFld [0] "held") (eVar 0)))
theorem sc_Limits_pairs : L2.FnScope ["self"] ["self"] (defScope s_Limits_pairs) := ⟨rfl, rfl, rfl, by decide +kernel, rfl, by decide +kernel, by decide +kernel⟩
theorem ok_Limits_pairs {g : Bool} {f : Addr} {fd : FuncData} (Z : Bi K mg) (F0 : L2.FunD K "pairs" "Limits.pairs" (defArgs s_Limits_pairs) (defBody s_Limits_pairs) (defScope s_Limits_pairs) [] [] f fd)  (bn : ∀ us : List Value, us.length = 1 → ∀ s, BindsTo s fd ⟨us, []⟩ ((["self"] : List Str).zip us)) : FnX g Pg wd K mg base 1 f (spF (pm K) 1 m_Limits_pairs) :=
  okDef 1 1 rfl rfl F0 sc_Limits_pairs bn fun cdv A outer s X Ex B => by
    have SC := sc_Limits_pairs
    exact yOne (yRet (xFld (cs := [0]) rfl ((xVar (L2.pe_var (i := 0) rfl (by first | exact Or.inl rfl | exact Or.inr (Or.inl rfl) | exact Or.inr (Or.inr rfl))))) Z.f_held))
abbrev s_verdict : Stmt := top 25
def m_verdict : F := fn 7 2 (sSeq (sDrop (eCall m_need_limits (aCons (eVar 0) (aNil)))) (sSeq (sDrop (eCall m_need_row (aCons (eVar 1) (aNil)))) (sSeq (sFor (wRng1 (aCons (eCall fLen (aCons (eVar 1) (aNil))) (aNil))) (gName 2) (sFor (wEnum (aCons (eOP (one 0 m_Limits_pairs) (eVar 0)) (aNil))) (gTup 2 (gCons (gName 3) (gCons (gTup 2 (gCons (gName 5) (gCons (gName 6) (gNil)))) (gNil)))) (sSeq (sAsg (eCall m_requests_in (aCons (eVar 1) (aCons (eVar 2) (aCons (eVar 5) (aNil))))) (gName 4)) (sIf (tVal (eBin vGt (eVar 4) (eVar 6))) (sRet (eTup (aCons (eC (.str [98, 114, 111, 107, 101, 110])) (aCons (eVar 2) (aCons (eVar 3) (aCons (eVar 4) (aNil))))))) (sNext))))) (sRet (eTup (aCons (eC (.str [107, 101, 112, 116])) (aNil)))))))
theorem sc_verdict : L2.FnScope ["limits", "row", "start", "number", "amount", "length", "most"] ["limits", "row"] (defScope s_verdict) := ⟨rfl, rfl, rfl, by decide +kernel, rfl, by decide +kernel, by decide +kernel⟩
theorem ok_verdict {g : Bool} {f : Addr} {fd : FuncData} (Z : Bi K mg) (F0 : L2.FunD K "verdict" "verdict" (defArgs s_verdict) (defBody s_verdict) (defScope s_verdict) [] [] f fd) (h_need_limits : Cw g Pg wd K mg base "need_limits" 1 1 m_need_limits) (h_need_row : Cw g Pg wd K mg base "need_row" 4 1 m_need_row) (h_requests_in : Cw g Pg wd K mg base "requests_in" 1 3 m_requests_in) (h_Limits_pairs : Pw Pg wd K mg base "pairs" 1 m_Limits_pairs) (bn : ∀ us : List Value, us.length = 2 → ∀ s, BindsTo s fd ⟨us, []⟩ ((["limits", "row"] : List Str).zip us)) : FnX g Pg wd K mg base 5 f (spF (pm K) 2 m_verdict) :=
  okDef 7 2 rfl rfl F0 sc_verdict bn fun cdv A outer s X Ex B => by
    have SC := sc_verdict
    exact ySeq (yDrop (xCall B (cal h_need_limits) (by decide) rfl (xCons ((xVar (L2.pe_var (i := 0) rfl (by first | exact Or.inl rfl | exact Or.inr (Or.inl rfl) | exact Or.inr (Or.inr rfl))))) (xNil)))) (ySeq (yDrop (xCall B (cal h_need_row) (by decide) rfl (xCons ((xVar (L2.pe_var (i := 1) rfl (by first | exact Or.inl rfl | exact Or.inr (Or.inl rfl) | exact Or.inr (Or.inr rfl))))) (xNil)))) (ySeq (yFor B.po rfl (piRng1 rfl Z.n_range (xCons (xB (fm := fLen) (cLen rfl) rfl Z.n_len (by first | exact PyProof.Rows.boot_sum | decide +kernel) (xCons ((xVar (L2.pe_var (i := 1) rfl (by first | exact Or.inl rfl | exact Or.inr (Or.inl rfl) | exact Or.inr (Or.inr rfl))))) (xNil))) (xNil))) (gtName ((L2.pg_name (i := 2) SC.nd rfl (by first | exact Or.inl rfl | exact Or.inr rfl)))) (yOne (yFor B.po rfl (piEnum rfl rfl Z.n_enumerate (xCons (xProp rfl B ((xVar (L2.pe_var (i := 0) rfl (by first | exact Or.inl rfl | exact Or.inr (Or.inl rfl) | exact Or.inr (Or.inr rfl))))) (prp h_Limits_pairs) (by decide)) (xNil))) (gtTup rfl rfl (gtCons (gtName ((L2.pg_name (i := 3) SC.nd rfl (by first | exact Or.inl rfl | exact Or.inr rfl)))) (gtCons (gtTup rfl rfl (gtCons (gtName ((L2.pg_name (i := 5) SC.nd rfl (by first | exact Or.inl rfl | exact Or.inr rfl)))) (gtCons (gtName ((L2.pg_name (i := 6) SC.nd rfl (by first | exact Or.inl rfl | exact Or.inr rfl)))) (gtNil)))) (gtNil)))) (ySeq (ySet (i := 4) SC.nd rfl (by first | exact Or.inl rfl | exact Or.inr rfl) (xCall B (cal h_requests_in) (by decide) rfl (xCons ((xVar (L2.pe_var (i := 1) rfl (by first | exact Or.inl rfl | exact Or.inr (Or.inl rfl) | exact Or.inr (Or.inr rfl))))) (xCons ((xVar (L2.pe_var (i := 2) rfl (by first | exact Or.inl rfl | exact Or.inr (Or.inl rfl) | exact Or.inr (Or.inr rfl))))) (xCons ((xVar (L2.pe_var (i := 5) rfl (by first | exact Or.inl rfl | exact Or.inr (Or.inl rfl) | exact Or.inr (Or.inr rfl))))) (xNil)))))) (yOne (yIf (xTCmp oGt ((xVar (L2.pe_var (i := 4) rfl (by first | exact Or.inl rfl | exact Or.inr (Or.inl rfl) | exact Or.inr (Or.inr rfl))))) ((xVar (L2.pe_var (i := 6) rfl (by first | exact Or.inl rfl | exact Or.inr (Or.inl rfl) | exact Or.inr (Or.inr rfl))))) (L2.nomark _)) (yOne (yRet (xTup (xCons (xC L2.pe_str (fun _ _ _ => rvStr (by decide +kernel))) (xCons ((xVar (L2.pe_var (i := 2) rfl (by first | exact Or.inl rfl | exact Or.inr (Or.inl rfl) | exact Or.inr (Or.inr rfl))))) (xCons ((xVar (L2.pe_var (i := 3) rfl (by first | exact Or.inl rfl | exact Or.inr (Or.inl rfl) | exact Or.inr (Or.inr rfl))))) (xCons ((xVar (L2.pe_var (i := 4) rfl (by first | exact Or.inl rfl | exact Or.inr (Or.inl rfl) | exact Or.inr (Or.inr rfl))))) (xNil)))))))) (yNil))))))) (yOne (yRet (xTup (xCons (xC L2.pe_str (fun _ _ _ => rvStr (by decide +kernel))) (xNil)))))))
abbrev s_next_through : Stmt := top 32
def m_next_through : F := fn 6 3 (sSeq (sAsg (eCall fMin (aCons (eComp (wSeq (eVar 0)) (gTup 2 (gCons (gName 4) (gCons (gName 5) (gNil)))) (tYes) (eBin vSub (eVar 5) (eCall fSum (aCons (eCut (eVar 1) (some (eCall fMax (aCons (eC (.int 0)) (aCons (eBin vSub (eBin vAdd (eCall fLen (aCons (eVar 1) (aNil))) (eC (.int 1))) (eVar 4)) (aNil))))) (none)) (aNil)))) [4, 5]) (aNil))) (gName 3)) (sRet (eCall fMin (aCons (eVar 2) (aCons (eVar 3) (aNil))))))
theorem sc_next_through : L2.FnScope ["pairs", "gone", "held", "room", "length", "most"] ["pairs", "gone", "held"] (defScope s_next_through) := ⟨rfl, rfl, rfl, by decide +kernel, rfl, by decide +kernel, by decide +kernel⟩
theorem ok_next_through {g : Bool} {f : Addr} {fd : FuncData} (Z : Bi K mg) (F0 : L2.FunD K "next_through" "next_through" (defArgs s_next_through) (defBody s_next_through) (defScope s_next_through) [] [] f fd)  (bn : ∀ us : List Value, us.length = 3 → ∀ s, BindsTo s fd ⟨us, []⟩ ((["pairs", "gone", "held"] : List Str).zip us)) : FnX g Pg wd K mg base 1 f (spF (pm K) 3 m_next_through) :=
  okDef 6 3 rfl rfl F0 sc_next_through bn fun cdv A outer s X Ex B => by
    have SC := sc_next_through
    exact ySeq (ySet (i := 3) SC.nd rfl (by first | exact Or.inl rfl | exact Or.inr rfl) (xB (fm := fMin) (cMin rfl rfl) rfl Z.n_min (by first | exact PyProof.Rows.boot_sum | decide +kernel) (xCons (xComp (own := [("length", 4), ("most", 5)]) rfl SC.nd (piSeq rfl ((xVar (L2.pe_var (i := 0) rfl (by first | exact Or.inl rfl | exact Or.inr (Or.inl rfl) | exact Or.inr (Or.inr rfl)))))) (by exact ⟨rfl, of_decide_eq_true (by kernel_rfl), of_decide_eq_true (by kernel_rfl), of_decide_eq_true (by kernel_rfl), of_decide_eq_true (by kernel_rfl)⟩) (tgTup (tgCons (tgName (by decide)) (tgCons (tgName (by decide)) (tgNil)))) (bk B fun _ _ _ _ _ B => L2.pg_tup rfl (L2.pgs_cons ((L2.pg_name (i := 4) SC.nd rfl (by first | exact Or.inl rfl | exact Or.inr rfl))) (L2.pgs_cons ((L2.pg_name (i := 5) SC.nd rfl (by first | exact Or.inl rfl | exact Or.inr rfl))) (L2.pgs_nil) rfl) rfl) rfl rfl) (bk B fun _ _ _ _ _ B => xTsNil) (bk B fun _ _ _ _ _ B => xBin oSub ((xVar (L2.pe_var (i := 5) rfl (by first | exact Or.inl rfl | exact Or.inr (Or.inl rfl) | exact Or.inr (Or.inr rfl))))) (xB (fm := fSum) (cSum rfl rfl) rfl Z.n_sum (by first | exact PyProof.Rows.boot_sum | decide +kernel) (xCons (xCut rfl ((xVar (L2.pe_var (i := 1) rfl (by first | exact Or.inl rfl | exact Or.inr (Or.inl rfl) | exact Or.inr (Or.inr rfl))))) (pSome (xB (fm := fMax) (cMax rfl rfl) rfl Z.n_max (by first | exact PyProof.Rows.boot_sum | decide +kernel) (xCons (xC L2.pe_int (fun _ _ _ => .int _)) (xCons (xBin oSub (xBin (oAdd rfl) (xB (fm := fLen) (cLen rfl) rfl Z.n_len (by first | exact PyProof.Rows.boot_sum | decide +kernel) (xCons ((xVar (L2.pe_var (i := 1) rfl (by first | exact Or.inl rfl | exact Or.inr (Or.inl rfl) | exact Or.inr (Or.inr rfl))))) (xNil))) (xC L2.pe_int (fun _ _ _ => .int _))) ((xVar (L2.pe_var (i := 4) rfl (by first | exact Or.inl rfl | exact Or.inr (Or.inl rfl) | exact Or.inr (Or.inr rfl)))))) (xNil))))) (pNone)) (xNil))))) (xNil)))) (yOne (yRet (xB (fm := fMin) (cMin rfl rfl) rfl Z.n_min (by first | exact PyProof.Rows.boot_sum | decide +kernel) (xCons ((xVar (L2.pe_var (i := 2) rfl (by first | exact Or.inl rfl | exact Or.inr (Or.inl rfl) | exact Or.inr (Or.inr rfl))))) (xCons ((xVar (L2.pe_var (i := 3) rfl (by first | exact Or.inl rfl | exact Or.inr (Or.inl rfl) | exact Or.inr (Or.inr rfl))))) (xNil))))))
abbrev s_all_through : Stmt := top 33
def m_all_through : F := fn 5 4 (sSeq (sAsg (eCall fList (aCons (eVar 1) (aNil))) (gName 4)) (sSeq (sWhile (tOr (tVal (eBin vLt (eBin vSub (eCall fLen (aCons (eVar 4) (aNil))) (eCall fLen (aCons (eVar 1) (aNil)))) (eCall fLen (aCons (eVar 3) (aNil))))) (tVal (eBin vGt (eVar 2) (eC (.int 0))))) (sSeq (sAug 2 vPlus (eCall m_requests_in (aCons (eVar 3) (aCons (eBin vSub (eCall fLen (aCons (eVar 4) (aNil))) (eCall fLen (aCons (eVar 1) (aNil)))) (aCons (eC (.int 1)) (aNil)))))) (sSeq (sDrop (eLm mAppend (eVar 4) (aCons (eCall m_next_through (aCons (eVar 0) (aCons (eVar 4) (aCons (eVar 2) (aNil))))) aNil))) (sAug 2 vMinus (eBin vIx (eVar 4) (eUn vNeg (eC (.int 1)))))))) (sRet (eCut (eVar 4) (some (eCall fLen (aCons (eVar 1) (aNil)))) (none)))))
theorem sc_all_through : L2.FnScope ["pairs", "ahead", "held", "row", "gone"] ["pairs", "ahead", "held", "row"] (defScope s_all_through) := ⟨rfl, rfl, rfl, by decide +kernel, rfl, by decide +kernel, by decide +kernel⟩
theorem ok_all_through {g : Bool} {f : Addr} {fd : FuncData} (Z : Bi K mg) (F0 : L2.FunD K "all_through" "all_through" (defArgs s_all_through) (defBody s_all_through) (defScope s_all_through) [] [] f fd) (h_next_through : Cw g Pg wd K mg base "next_through" 1 3 m_next_through) (h_requests_in : Cw g Pg wd K mg base "requests_in" 1 3 m_requests_in) (bn : ∀ us : List Value, us.length = 4 → ∀ s, BindsTo s fd ⟨us, []⟩ ((["pairs", "ahead", "held", "row"] : List Str).zip us)) : FnX g Pg wd K mg base 2 f (spF (pm K) 4 m_all_through) :=
  okDef 5 4 rfl rfl F0 sc_all_through bn fun cdv A outer s X Ex B => by
    have SC := sc_all_through
    exact ySeq (ySet (i := 4) SC.nd rfl (by first | exact Or.inl rfl | exact Or.inr rfl) (xTy (fm := fList) (cList rfl) rfl Z.n_list (by first | exact PyProof.Rows.boot_sum | decide +kernel) (xCons ((xVar (L2.pe_var (i := 1) rfl (by first | exact Or.inl rfl | exact Or.inr (Or.inl rfl) | exact Or.inr (Or.inr rfl))))) (xNil)))) (ySeq (yWhile B.po (L2.PW.pt (xWOr (xTCmp oLt (xBin oSub (xB (fm := fLen) (cLen rfl) rfl Z.n_len (by first | exact PyProof.Rows.boot_sum | decide +kernel) (xCons ((xVar (L2.pe_var (i := 4) rfl (by first | exact Or.inl rfl | exact Or.inr (Or.inl rfl) | exact Or.inr (Or.inr rfl))))) (xNil))) (xB (fm := fLen) (cLen rfl) rfl Z.n_len (by first | exact PyProof.Rows.boot_sum | decide +kernel) (xCons ((xVar (L2.pe_var (i := 1) rfl (by first | exact Or.inl rfl | exact Or.inr (Or.inl rfl) | exact Or.inr (Or.inr rfl))))) (xNil)))) (xB (fm := fLen) (cLen rfl) rfl Z.n_len (by first | exact PyProof.Rows.boot_sum | decide +kernel) (xCons ((xVar (L2.pe_var (i := 3) rfl (by first | exact Or.inl rfl | exact Or.inr (Or.inl rfl) | exact Or.inr (Or.inr rfl))))) (xNil))) (L2.nomark _)) (xWOr1 (xTCmp oGt ((xVar (L2.pe_var (i := 2) rfl (by first | exact Or.inl rfl | exact Or.inr (Or.inl rfl) | exact Or.inr (Or.inr rfl))))) (xC L2.pe_int (fun _ _ _ => .int _)) (L2.nomark _))))) (ySeq (yAug (i := 2) (f := vPlus) SC.nd rfl (by first | exact Or.inl rfl | exact Or.inr rfl) L2.ip_add (xCall B (cal h_requests_in) (by decide) rfl (xCons ((xVar (L2.pe_var (i := 3) rfl (by first | exact Or.inl rfl | exact Or.inr (Or.inl rfl) | exact Or.inr (Or.inr rfl))))) (xCons (xBin oSub (xB (fm := fLen) (cLen rfl) rfl Z.n_len (by first | exact PyProof.Rows.boot_sum | decide +kernel) (xCons ((xVar (L2.pe_var (i := 4) rfl (by first | exact Or.inl rfl | exact Or.inr (Or.inl rfl) | exact Or.inr (Or.inr rfl))))) (xNil))) (xB (fm := fLen) (cLen rfl) rfl Z.n_len (by first | exact PyProof.Rows.boot_sum | decide +kernel) (xCons ((xVar (L2.pe_var (i := 1) rfl (by first | exact Or.inl rfl | exact Or.inr (Or.inl rfl) | exact Or.inr (Or.inr rfl))))) (xNil)))) (xCons (xC L2.pe_int (fun _ _ _ => .int _)) (xNil)))))) (ySeq (yDrop (xAppend rfl ((xVar (L2.pe_var (i := 4) rfl (by first | exact Or.inl rfl | exact Or.inr (Or.inl rfl) | exact Or.inr (Or.inr rfl))))) (xCall B (cal h_next_through) (by decide) rfl (xCons ((xVar (L2.pe_var (i := 0) rfl (by first | exact Or.inl rfl | exact Or.inr (Or.inl rfl) | exact Or.inr (Or.inr rfl))))) (xCons ((xVar (L2.pe_var (i := 4) rfl (by first | exact Or.inl rfl | exact Or.inr (Or.inl rfl) | exact Or.inr (Or.inr rfl))))) (xCons ((xVar (L2.pe_var (i := 2) rfl (by first | exact Or.inl rfl | exact Or.inr (Or.inl rfl) | exact Or.inr (Or.inr rfl))))) (xNil))))))) (yOne (yAug (i := 2) (f := vMinus) SC.nd rfl (by first | exact Or.inl rfl | exact Or.inr rfl) L2.ip_sub (xIx rfl ((xVar (L2.pe_var (i := 4) rfl (by first | exact Or.inl rfl | exact Or.inr (Or.inl rfl) | exact Or.inr (Or.inr rfl))))) (xUn oNeg (xC L2.pe_int (fun _ _ _ => .int _))))))))) (yOne (yRet (xCut rfl ((xVar (L2.pe_var (i := 4) rfl (by first | exact Or.inl rfl | exact Or.inr (Or.inl rfl) | exact Or.inr (Or.inr rfl))))) (pSome (xB (fm := fLen) (cLen rfl) rfl Z.n_len (by first | exact PyProof.Rows.boot_sum | decide +kernel) (xCons ((xVar (L2.pe_var (i := 1) rfl (by first | exact Or.inl rfl | exact Or.inr (Or.inl rfl) | exact Or.inr (Or.inr rfl))))) (xNil)))) (pNone)))))
abbrev s_passed : Stmt := top 29
def m_passed : F := fn 2 2 (sSeq (sDrop (eCall m_need_limits (aCons (eVar 0) (aNil)))) (sSeq (sDrop (eCall m_need_row (aCons (eVar 1) (aNil)))) (sRet (eCall fTuple (aCons (eCall m_all_through (aCons (eOP (one 0 m_Limits_pairs) (eVar 0)) (aCons (eTup (aNil)) (aCons (eC (.int 0)) (aCons (eVar 1) (aNil)))))) (aNil))))))
theorem sc_passed : L2.FnScope ["limits", "row"] ["limits", "row"] (defScope s_passed) := ⟨rfl, rfl, rfl, by decide +kernel, rfl, by decide +kernel, by decide +kernel⟩
theorem ok_passed {g : Bool} {f : Addr} {fd : FuncData} (Z : Bi K mg) (F0 : L2.FunD K "passed" "passed" (defArgs s_passed) (defBody s_passed) (defScope s_passed) [] [] f fd) (h_all_through : Cw g Pg wd K mg base "all_through" 2 4 m_all_through) (h_need_limits : Cw g Pg wd K mg base "need_limits" 1 1 m_need_limits) (h_need_row : Cw g Pg wd K mg base "need_row" 4 1 m_need_row) (h_Limits_pairs : Pw Pg wd K mg base "pairs" 1 m_Limits_pairs) (bn : ∀ us : List Value, us.length = 2 → ∀ s, BindsTo s fd ⟨us, []⟩ ((["limits", "row"] : List Str).zip us)) : FnX g Pg wd K mg base 5 f (spF (pm K) 2 m_passed) :=
  okDef 2 2 rfl rfl F0 sc_passed bn fun cdv A outer s X Ex B => by
    have SC := sc_passed
    exact ySeq (yDrop (xCall B (cal h_need_limits) (by decide) rfl (xCons ((xVar (L2.pe_var (i := 0) rfl (by first | exact Or.inl rfl | exact Or.inr (Or.inl rfl) | exact Or.inr (Or.inr rfl))))) (xNil)))) (ySeq (yDrop (xCall B (cal h_need_row) (by decide) rfl (xCons ((xVar (L2.pe_var (i := 1) rfl (by first | exact Or.inl rfl | exact Or.inr (Or.inl rfl) | exact Or.inr (Or.inr rfl))))) (xNil)))) (yOne (yRet (xTy (fm := fTuple) (cTuple rfl) rfl Z.n_tuple (by first | exact PyProof.Rows.boot_sum | decide +kernel) (xCons (xCall B (cal h_all_through) (by decide) rfl (xCons (xProp rfl B ((xVar (L2.pe_var (i := 0) rfl (by first | exact Or.inl rfl | exact Or.inr (Or.inl rfl) | exact Or.inr (Or.inr rfl))))) (prp h_Limits_pairs) (by decide)) (xCons (xTup (xNil)) (xCons (xC L2.pe_int (fun _ _ _ => .int _)) (xCons ((xVar (L2.pe_var (i := 1) rfl (by first | exact Or.inl rfl | exact Or.inr (Or.inl rfl) | exact Or.inr (Or.inr rfl))))) (xNil)))))) (xNil))))))
abbrev s_ticks_of : Stmt := top 34
def m_ticks_of : F := fn 4 1 (sRet (eComp2 (wEnum (aCons (eVar 0) (aNil))) (gTup 2 (gCons (gName 2) (gCons (gName 3) (gNil)))) (aCons (eVar 3) (aNil)) (gName 1) (tYes) (eVar 2) [2, 3, 1] [1]))
theorem sc_ticks_of : L2.FnScope ["row", "request", "tick", "amount"] ["row"] (defScope s_ticks_of) := ⟨rfl, rfl, rfl, by decide +kernel, rfl, by decide +kernel, by decide +kernel⟩
theorem ok_ticks_of {g : Bool} {f : Addr} {fd : FuncData} (Z : Bi K mg) (F0 : L2.FunD K "ticks_of" "ticks_of" (defArgs s_ticks_of) (defBody s_ticks_of) (defScope s_ticks_of) [] [] f fd)  (bn : ∀ us : List Value, us.length = 1 → ∀ s, BindsTo s fd ⟨us, []⟩ ((["row"] : List Str).zip us)) : FnX g Pg wd K mg base 1 f (spF (pm K) 1 m_ticks_of) :=
  okDef 4 1 rfl rfl F0 sc_ticks_of bn fun cdv A outer s X Ex B => by
    have SC := sc_ticks_of
    exact yOne (yRet (xComp2 (own := [("tick", 2), ("amount", 3), ("request", 1)]) (vs1 := [1]) rfl SC.nd (piEnum rfl rfl Z.n_enumerate (xCons ((xVar (L2.pe_var (i := 0) rfl (by first | exact Or.inl rfl | exact Or.inr (Or.inl rfl) | exact Or.inr (Or.inr rfl))))) (xNil))) (by exact ⟨rfl, of_decide_eq_true (by kernel_rfl), of_decide_eq_true (by kernel_rfl), of_decide_eq_true (by kernel_rfl), of_decide_eq_true (by kernel_rfl)⟩) (by decide) (tgTup (tgCons (tgName (by decide)) (tgCons (tgName (by decide)) (tgNil)))) (tgName (by decide)) (bk B fun _ _ _ _ _ B => L2.pg_tup rfl (L2.pgs_cons ((L2.pg_name (i := 2) SC.nd rfl (by first | exact Or.inl rfl | exact Or.inr rfl))) (L2.pgs_cons ((L2.pg_name (i := 3) SC.nd rfl (by first | exact Or.inl rfl | exact Or.inr rfl))) (L2.pgs_nil) rfl) rfl) rfl rfl) (bk B fun _ _ _ _ _ B => xTsNil) (bk B fun _ _ _ _ _ B => piRngN rfl Z.n_range (xCons ((xVar (L2.pe_var (i := 3) rfl (by first | exact Or.inl rfl | exact Or.inr (Or.inl rfl) | exact Or.inr (Or.inr rfl))))) (xNil))) (bk B fun _ _ _ _ _ B => (L2.pg_name (i := 1) SC.nd rfl (by first | exact Or.inl rfl | exact Or.inr rfl))) (bk B fun _ _ _ _ _ B => xTsNil) (bk B fun _ _ _ _ _ B => (xVar (L2.pe_var (i := 2) rfl (by first | exact Or.inl rfl | exact Or.inr (Or.inl rfl) | exact Or.inr (Or.inr rfl))))) ))
abbrev s_waits : Stmt := top 30
def m_waits : F := fn 5 2 (sSeq (sAsg (eCall m_passed (aCons (eVar 0) (aCons (eVar 1) (aNil)))) (gName 2)) (sRet (eCall fTuple (aCons (eComp (wZip (aCons (eCall m_ticks_of (aCons (eVar 1) (aNil))) (aCons (eCall m_ticks_of (aCons (eVar 2) (aNil))) (aNil)))) (gTup 2 (gCons (gName 3) (gCons (gName 4) (gNil)))) (tYes) (eBin vSub (eVar 4) (eVar 3)) [3, 4]) (aNil)))))
theorem sc_waits : L2.FnScope ["limits", "row", "through", "came", "left"] ["limits", "row"] (defScope s_waits) := ⟨rfl, rfl, rfl, by decide +kernel, rfl, by decide +kernel, by decide +kernel⟩
theorem ok_waits {g : Bool} {f : Addr} {fd : FuncData} (Z : Bi K mg) (F0 : L2.FunD K "waits" "waits" (defArgs s_waits) (defBody s_waits) (defScope s_waits) [] [] f fd) (h_passed : Cw g Pg wd K mg base "passed" 5 2 m_passed) (h_ticks_of : Cw g Pg wd K mg base "ticks_of" 1 1 m_ticks_of) (bn : ∀ us : List Value, us.length = 2 → ∀ s, BindsTo s fd ⟨us, []⟩ ((["limits", "row"] : List Str).zip us)) : FnX g Pg wd K mg base 6 f (spF (pm K) 2 m_waits) :=
  okDef 5 2 rfl rfl F0 sc_waits bn fun cdv A outer s X Ex B => by
    have SC := sc_waits
    exact ySeq (ySet (i := 2) SC.nd rfl (by first | exact Or.inl rfl | exact Or.inr rfl) (xCall B (cal h_passed) (by decide) rfl (xCons ((xVar (L2.pe_var (i := 0) rfl (by first | exact Or.inl rfl | exact Or.inr (Or.inl rfl) | exact Or.inr (Or.inr rfl))))) (xCons ((xVar (L2.pe_var (i := 1) rfl (by first | exact Or.inl rfl | exact Or.inr (Or.inl rfl) | exact Or.inr (Or.inr rfl))))) (xNil))))) (yOne (yRet (xTy (fm := fTuple) (cTuple rfl) rfl Z.n_tuple (by first | exact PyProof.Rows.boot_sum | decide +kernel) (xCons (xComp (own := [("came", 3), ("left", 4)]) rfl SC.nd (piZip rfl rfl Z.n_zip (xCons (xCall B (cal h_ticks_of) (by decide) rfl (xCons ((xVar (L2.pe_var (i := 1) rfl (by first | exact Or.inl rfl | exact Or.inr (Or.inl rfl) | exact Or.inr (Or.inr rfl))))) (xNil))) (xCons (xCall B (cal h_ticks_of) (by decide) rfl (xCons ((xVar (L2.pe_var (i := 2) rfl (by first | exact Or.inl rfl | exact Or.inr (Or.inl rfl) | exact Or.inr (Or.inr rfl))))) (xNil))) (xNil)))) (by exact ⟨rfl, of_decide_eq_true (by kernel_rfl), of_decide_eq_true (by kernel_rfl), of_decide_eq_true (by kernel_rfl), of_decide_eq_true (by kernel_rfl)⟩) (tgTup (tgCons (tgName (by decide)) (tgCons (tgName (by decide)) (tgNil)))) (bk B fun _ _ _ _ _ B => L2.pg_tup rfl (L2.pgs_cons ((L2.pg_name (i := 3) SC.nd rfl (by first | exact Or.inl rfl | exact Or.inr rfl))) (L2.pgs_cons ((L2.pg_name (i := 4) SC.nd rfl (by first | exact Or.inl rfl | exact Or.inr rfl))) (L2.pgs_nil) rfl) rfl) rfl rfl) (bk B fun _ _ _ _ _ B => xTsNil) (bk B fun _ _ _ _ _ B => xBin oSub ((xVar (L2.pe_var (i := 4) rfl (by first | exact Or.inl rfl | exact Or.inr (Or.inl rfl) | exact Or.inr (Or.inr rfl))))) ((xVar (L2.pe_var (i := 3) rfl (by first | exact Or.inl rfl | exact Or.inr (Or.inl rfl) | exact Or.inr (Or.inr rfl))))))) (xNil)))))
abbrev s_waiting : Stmt := top 31
def m_waiting : FG := fnG 5 2 (gSeq (gP (sAsg (eC (.int 0)) (gName 2))) (gSeq (gFor (wEnum (aCons (eCall m_passed (aCons (eVar 0) (aCons (eVar 1) (aNil)))) (aNil))) (gTup 2 (gCons (gName 3) (gCons (gName 4) (gNil)))) (gSeq (gP (sAug 2 vPlus (eBin vSub (eCall m_requests_in (aCons (eVar 1) (aCons (eVar 3) (aCons (eC (.int 1)) (aNil))))) (eVar 4)))) (gSeq (gYield (eVar 2)) (gNext)))) (gNext)))
theorem sc_waiting : L2.GScope ["limits", "row", "held", "tick", "amount"] ["limits", "row"] (defScope s_waiting) := ⟨rfl, rfl, rfl, by decide +kernel, rfl, by decide +kernel, by decide +kernel⟩
theorem ok_waiting {f : Addr} {fd : FuncData} (Z : Bi K mg) (F0 : L2.FunD K "waiting" "waiting" (defArgs s_waiting) (defBody s_waiting) (defScope s_waiting) [] [] f fd) (h_passed : Cw false Pg wd K mg base "passed" 5 2 m_passed) (h_requests_in : Cw false Pg wd K mg base "requests_in" 1 3 m_requests_in) : L2.GFn Pg wd K mg base 6 f fd ["limits", "row"] (spG (pm K) 2 m_waiting) :=
  okGen 5 2 rfl rfl F0 sc_waiting fun cdv A outer s X Ex pn B => by
    have SC := sc_waiting
    exact gssCons (gsP (ySet (i := 2) SC.nd rfl (by first | exact Or.inl rfl | exact Or.inr rfl) (xC L2.pe_int (fun _ _ _ => .int _)))) (gssCons (gsFor B.po rfl (piEnum rfl rfl Z.n_enumerate (xCons (xCall B (cal h_passed) (by decide) rfl (xCons ((xVar (L2.pe_var (i := 0) rfl (by first | exact Or.inl rfl | exact Or.inr (Or.inl rfl) | exact Or.inr (Or.inr rfl))))) (xCons ((xVar (L2.pe_var (i := 1) rfl (by first | exact Or.inl rfl | exact Or.inr (Or.inl rfl) | exact Or.inr (Or.inr rfl))))) (xNil)))) (xNil))) (gtTup rfl rfl (gtCons (gtName ((L2.pg_name (i := 3) SC.nd rfl (by first | exact Or.inl rfl | exact Or.inr rfl)))) (gtCons (gtName ((L2.pg_name (i := 4) SC.nd rfl (by first | exact Or.inl rfl | exact Or.inr rfl)))) (gtNil)))) (gssCons (gsP (yAug (i := 2) (f := vPlus) SC.nd rfl (by first | exact Or.inl rfl | exact Or.inr rfl) L2.ip_add (xBin oSub (xCall B (cal h_requests_in) (by decide) rfl (xCons ((xVar (L2.pe_var (i := 1) rfl (by first | exact Or.inl rfl | exact Or.inr (Or.inl rfl) | exact Or.inr (Or.inr rfl))))) (xCons ((xVar (L2.pe_var (i := 3) rfl (by first | exact Or.inl rfl | exact Or.inr (Or.inl rfl) | exact Or.inr (Or.inr rfl))))) (xCons (xC L2.pe_int (fun _ _ _ => .int _)) (xNil))))) ((xVar (L2.pe_var (i := 4) rfl (by first | exact Or.inl rfl | exact Or.inr (Or.inl rfl) | exact Or.inr (Or.inr rfl)))))))) (gssCons (gsYield ((xVar (L2.pe_var (i := 2) rfl (by first | exact Or.inl rfl | exact Or.inr (Or.inl rfl) | exact Or.inr (Or.inr rfl)))))) (gssNil)))) (gssNil))
abbrev s__law_cell : Stmt := top 36
def m__law_cell : F := fn 2 2 (sRet (eIf (tVal (eBin vLt (eVar 1) (eCall fLen (aCons (eVar 0) (aNil))))) (eBin vIx (eVar 0) (eVar 1)) (eC (.int 0))))
theorem sc__law_cell : L2.FnScope ["_law_script", "_law_k"] ["_law_script", "_law_k"] (defScope s__law_cell) := ⟨rfl, rfl, rfl, by decide +kernel, rfl, by decide +kernel, by decide +kernel⟩
theorem ok__law_cell {g : Bool} {f : Addr} {fd : FuncData} (Z : Bi K mg) (F0 : L2.FunD K "_law_cell" "_law_cell" (defArgs s__law_cell) (defBody s__law_cell) (defScope s__law_cell) [] [] f fd)  (bn : ∀ us : List Value, us.length = 2 → ∀ s, BindsTo s fd ⟨us, []⟩ ((["_law_script", "_law_k"] : List Str).zip us)) : FnX g Pg wd K mg base 1 f (spF (pm K) 2 m__law_cell) :=
  okDef 2 2 rfl rfl F0 sc__law_cell bn fun cdv A outer s X Ex B => by
    have SC := sc__law_cell
    exact yOne (yRet (xIf (xTCmp oLt ((xVar (L2.pe_var (i := 1) rfl (by first | exact Or.inl rfl | exact Or.inr (Or.inl rfl) | exact Or.inr (Or.inr rfl))))) (xB (fm := fLen) (cLen rfl) rfl Z.n_len (by first | exact PyProof.Rows.boot_sum | decide +kernel) (xCons ((xVar (L2.pe_var (i := 0) rfl (by first | exact Or.inl rfl | exact Or.inr (Or.inl rfl) | exact Or.inr (Or.inr rfl))))) (xNil))) (L2.nomark _)) (xIx rfl ((xVar (L2.pe_var (i := 0) rfl (by first | exact Or.inl rfl | exact Or.inr (Or.inl rfl) | exact Or.inr (Or.inr rfl))))) ((xVar (L2.pe_var (i := 1) rfl (by first | exact Or.inl rfl | exact Or.inr (Or.inl rfl) | exact Or.inr (Or.inr rfl)))))) (xC L2.pe_int (fun _ _ _ => .int _))))
abbrev s__law_pen : Stmt := top 37
def m__law_pen : F := fn 1 1 (sRet (eLst (aCons (eCall fMax (aCons (eC (.int 0)) (aCons (eBin vSub (eVar 0) (eBin vPow (eC (.int 10)) (eC (.int 18)))) (aNil)))) (aCons (eBin vAdd (eBin vMod (eVar 0) (eC (.int 2147483629))) (eC (.int 1))) (aCons (eC (.int 0)) (aNil))))))
theorem sc__law_pen : L2.FnScope ["_law_cell_here"] ["_law_cell_here"] (defScope s__law_pen) := ⟨rfl, rfl, rfl, by decide +kernel, rfl, by decide +kernel, by decide +kernel⟩
theorem ok__law_pen {g : Bool} {f : Addr} {fd : FuncData} (Z : Bi K mg) (F0 : L2.FunD K "_law_pen" "_law_pen" (defArgs s__law_pen) (defBody s__law_pen) (defScope s__law_pen) [] [] f fd)  (bn : ∀ us : List Value, us.length = 1 → ∀ s, BindsTo s fd ⟨us, []⟩ ((["_law_cell_here"] : List Str).zip us)) : FnX g Pg wd K mg base 1 f (spF (pm K) 1 m__law_pen) :=
  okDef 1 1 rfl rfl F0 sc__law_pen bn fun cdv A outer s X Ex B => by
    have SC := sc__law_pen
    exact yOne (yRet (xLst (xCons (xB (fm := fMax) (cMax rfl rfl) rfl Z.n_max (by first | exact PyProof.Rows.boot_sum | decide +kernel) (xCons (xC L2.pe_int (fun _ _ _ => .int _)) (xCons (xBin oSub ((xVar (L2.pe_var (i := 0) rfl (by first | exact Or.inl rfl | exact Or.inr (Or.inl rfl) | exact Or.inr (Or.inr rfl))))) (xBin oPow (xC L2.pe_int (fun _ _ _ => .int _)) (xC L2.pe_int (fun _ _ _ => .int _)))) (xNil)))) (xCons (xBin (oAdd rfl) (xBin oMod ((xVar (L2.pe_var (i := 0) rfl (by first | exact Or.inl rfl | exact Or.inr (Or.inl rfl) | exact Or.inr (Or.inr rfl))))) (xC L2.pe_int (fun _ _ _ => .int _))) (xC L2.pe_int (fun _ _ _ => .int _))) (xCons (xC L2.pe_int (fun _ _ _ => .int _)) (xNil))))))
abbrev s__law_draw : Stmt := top 38
def m__law_draw : F := fn 4 2 (sSeq (sIf (tVal (eBin vGt (eBin vIx (eVar 0) (eC (.int 0))) (eC (.int 0)))) (sSeq (sAsg (eBin vMod (eBin vIx (eVar 0) (eC (.int 0))) (eVar 1)) (gName 3)) (sSeq (sAsg (eBin vFdiv (eBin vIx (eVar 0) (eC (.int 0))) (eVar 1)) (gSub (eVar 0) (eC (.int 0)))) (sRet (eVar 3)))) (sNext)) (sSeq (sAsg (eBin vAdd (eBin vIx (eVar 0) (eC (.int 2))) (eC (.int 1))) (gSub (eVar 0) (eC (.int 2)))) (sSeq (sAsg (eBin vMod (eBin vAdd (eBin vAdd (eBin vMul (eBin vIx (eVar 0) (eC (.int 1))) (eC (.int 48271))) (eBin vMul (eC (.int 1009)) (eBin vIx (eVar 0) (eC (.int 2))))) (eC (.int 7))) (eC (.int 2147483647))) (gSub (eVar 0) (eC (.int 1)))) (sSeq (sAsg (eBin vMod (eBin vAdd (eBin vAdd (eBin vMul (eBin vIx (eVar 0) (eC (.int 1))) (eBin vIx (eVar 0) (eC (.int 1)))) (eBin vMul (eC (.int 69621)) (eBin vIx (eVar 0) (eC (.int 1))))) (eC (.int 11))) (eC (.int 2147483629))) (gName 2)) (sSeq (sAsg (eBin vMod (eBin vAdd (eBin vMul (eVar 2) (eVar 2)) (eBin vMul (eC (.int 40014)) (eVar 2))) (eC (.int 2147483587))) (gName 2)) (sRet (eBin vMod (eBin vFdiv (eVar 2) (eC (.int 16))) (eVar 1))))))))
theorem sc__law_draw : L2.FnScope ["_law_pen_here", "_law_count", "_law_stirred", "_law_found"] ["_law_pen_here", "_law_count"] (defScope s__law_draw) := ⟨rfl, rfl, rfl, by decide +kernel, rfl, by decide +kernel, by decide +kernel⟩
theorem ok__law_draw {g : Bool} {f : Addr} {fd : FuncData} (Z : Bi K mg) (F0 : L2.FunD K "_law_draw" "_law_draw" (defArgs s__law_draw) (defBody s__law_draw) (defScope s__law_draw) [] [] f fd)  (bn : ∀ us : List Value, us.length = 2 → ∀ s, BindsTo s fd ⟨us, []⟩ ((["_law_pen_here", "_law_count"] : List Str).zip us)) : FnX g Pg wd K mg base 1 f (spF (pm K) 2 m__law_draw) :=
  okDef 4 2 rfl rfl F0 sc__law_draw bn fun cdv A outer s X Ex B => by
    have SC := sc__law_draw
    exact ySeq (yIf (xTCmp oGt (xIx rfl ((xVar (L2.pe_var (i := 0) rfl (by first | exact Or.inl rfl | exact Or.inr (Or.inl rfl) | exact Or.inr (Or.inr rfl))))) (xC L2.pe_int (fun _ _ _ => .int _))) (xC L2.pe_int (fun _ _ _ => .int _)) (L2.nomark _)) (ySeq (ySet (i := 3) SC.nd rfl (by first | exact Or.inl rfl | exact Or.inr rfl) (xBin oMod (xIx rfl ((xVar (L2.pe_var (i := 0) rfl (by first | exact Or.inl rfl | exact Or.inr (Or.inl rfl) | exact Or.inr (Or.inr rfl))))) (xC L2.pe_int (fun _ _ _ => .int _))) ((xVar (L2.pe_var (i := 1) rfl (by first | exact Or.inl rfl | exact Or.inr (Or.inl rfl) | exact Or.inr (Or.inr rfl))))))) (ySeq (yAsg (xBin oFdiv (xIx rfl ((xVar (L2.pe_var (i := 0) rfl (by first | exact Or.inl rfl | exact Or.inr (Or.inl rfl) | exact Or.inr (Or.inr rfl))))) (xC L2.pe_int (fun _ _ _ => .int _))) ((xVar (L2.pe_var (i := 1) rfl (by first | exact Or.inl rfl | exact Or.inr (Or.inl rfl) | exact Or.inr (Or.inr rfl)))))) (gtSub (w := wN) ((xVar (L2.pe_var (i := 0) rfl (by first | exact Or.inl rfl | exact Or.inr (Or.inl rfl) | exact Or.inr (Or.inr rfl))))) (xC L2.pe_int (fun _ _ _ => .int _)))) (yOne (yRet ((xVar (L2.pe_var (i := 3) rfl (by first | exact Or.inl rfl | exact Or.inr (Or.inl rfl) | exact Or.inr (Or.inr rfl))))))))) (yNil)) (ySeq (yAsg (xBin (oAdd rfl) (xIx rfl ((xVar (L2.pe_var (i := 0) rfl (by first | exact Or.inl rfl | exact Or.inr (Or.inl rfl) | exact Or.inr (Or.inr rfl))))) (xC L2.pe_int (fun _ _ _ => .int _))) (xC L2.pe_int (fun _ _ _ => .int _))) (gtSub (w := wN) ((xVar (L2.pe_var (i := 0) rfl (by first | exact Or.inl rfl | exact Or.inr (Or.inl rfl) | exact Or.inr (Or.inr rfl))))) (xC L2.pe_int (fun _ _ _ => .int _)))) (ySeq (yAsg (xBin oMod (xBin (oAdd rfl) (xBin (oAdd rfl) (xBin oMul (xIx rfl ((xVar (L2.pe_var (i := 0) rfl (by first | exact Or.inl rfl | exact Or.inr (Or.inl rfl) | exact Or.inr (Or.inr rfl))))) (xC L2.pe_int (fun _ _ _ => .int _))) (xC L2.pe_int (fun _ _ _ => .int _))) (xBin oMul (xC L2.pe_int (fun _ _ _ => .int _)) (xIx rfl ((xVar (L2.pe_var (i := 0) rfl (by first | exact Or.inl rfl | exact Or.inr (Or.inl rfl) | exact Or.inr (Or.inr rfl))))) (xC L2.pe_int (fun _ _ _ => .int _))))) (xC L2.pe_int (fun _ _ _ => .int _))) (xC L2.pe_int (fun _ _ _ => .int _))) (gtSub (w := wN) ((xVar (L2.pe_var (i := 0) rfl (by first | exact Or.inl rfl | exact Or.inr (Or.inl rfl) | exact Or.inr (Or.inr rfl))))) (xC L2.pe_int (fun _ _ _ => .int _)))) (ySeq (ySet (i := 2) SC.nd rfl (by first | exact Or.inl rfl | exact Or.inr rfl) (xBin oMod (xBin (oAdd rfl) (xBin (oAdd rfl) (xBin oMul (xIx rfl ((xVar (L2.pe_var (i := 0) rfl (by first | exact Or.inl rfl | exact Or.inr (Or.inl rfl) | exact Or.inr (Or.inr rfl))))) (xC L2.pe_int (fun _ _ _ => .int _))) (xIx rfl ((xVar (L2.pe_var (i := 0) rfl (by first | exact Or.inl rfl | exact Or.inr (Or.inl rfl) | exact Or.inr (Or.inr rfl))))) (xC L2.pe_int (fun _ _ _ => .int _)))) (xBin oMul (xC L2.pe_int (fun _ _ _ => .int _)) (xIx rfl ((xVar (L2.pe_var (i := 0) rfl (by first | exact Or.inl rfl | exact Or.inr (Or.inl rfl) | exact Or.inr (Or.inr rfl))))) (xC L2.pe_int (fun _ _ _ => .int _))))) (xC L2.pe_int (fun _ _ _ => .int _))) (xC L2.pe_int (fun _ _ _ => .int _)))) (ySeq (ySet (i := 2) SC.nd rfl (by first | exact Or.inl rfl | exact Or.inr rfl) (xBin oMod (xBin (oAdd rfl) (xBin oMul ((xVar (L2.pe_var (i := 2) rfl (by first | exact Or.inl rfl | exact Or.inr (Or.inl rfl) | exact Or.inr (Or.inr rfl))))) ((xVar (L2.pe_var (i := 2) rfl (by first | exact Or.inl rfl | exact Or.inr (Or.inl rfl) | exact Or.inr (Or.inr rfl)))))) (xBin oMul (xC L2.pe_int (fun _ _ _ => .int _)) ((xVar (L2.pe_var (i := 2) rfl (by first | exact Or.inl rfl | exact Or.inr (Or.inl rfl) | exact Or.inr (Or.inr rfl))))))) (xC L2.pe_int (fun _ _ _ => .int _)))) (yOne (yRet (xBin oMod (xBin oFdiv ((xVar (L2.pe_var (i := 2) rfl (by first | exact Or.inl rfl | exact Or.inr (Or.inl rfl) | exact Or.inr (Or.inr rfl))))) (xC L2.pe_int (fun _ _ _ => .int _))) ((xVar (L2.pe_var (i := 1) rfl (by first | exact Or.inl rfl | exact Or.inr (Or.inl rfl) | exact Or.inr (Or.inr rfl))))))))))))
abbrev s__law_pairs : Stmt := top 39
def m__law_pairs : F := fn 7 2 (sSeq (sAsg (eLst (aNil)) (gName 2)) (sSeq (sFor (wRng1 (aCons (eBin vAdd (eC (.int 1)) (eCall m__law_draw (aCons (eVar 0) (aCons (eVar 1) (aNil))))) (aNil))) (gName 3) (sSeq (sAsg (eBin vIx (eLst (aCons (eC (.int 1)) (aCons (eC (.int 2)) (aCons (eC (.int 3)) (aCons (eC (.int 4)) (aCons (eC (.int 6)) (aCons (eC (.int 9)) (aCons (eC (.int 20)) (aCons (eBin vAdd (eC (.int 1)) (eCall m__law_draw (aCons (eVar 0) (aCons (eC (.int 20)) (aNil))))) (aNil)))))))))) (eCall m__law_draw (aCons (eVar 0) (aCons (eC (.int 8)) (aNil))))) (gName 4)) (sSeq (sAsg (eBin vIx (eLst (aCons (eC (.int 1)) (aCons (eC (.int 2)) (aCons (eC (.int 3)) (aCons (eC (.int 5)) (aCons (eC (.int 8)) (aCons (eC (.int 20)) (aCons (eBin vAdd (eC (.int 1)) (eCall m__law_draw (aCons (eVar 0) (aCons (eC (.int 20)) (aNil))))) (aNil))))))))) (eCall m__law_draw (aCons (eVar 0) (aCons (eC (.int 7)) (aNil))))) (gName 5)) (sSeq (sAsg (eTup (aCons (eVar 4) (aCons (eCall fMax (aCons (eVar 5) (aCons (eBin vFdiv (eBin vAdd (eVar 4) (eC (.int 2))) (eC (.int 3))) (aNil)))) (aNil)))) (gName 6)) (sIf (tVal (eBin vNotIn (eVar 6) (eVar 2))) (sDrop (eLm mAppend (eVar 2) (aCons (eVar 6) aNil))) (sNext)))))) (sRet (eVar 2))))
theorem sc__law_pairs : L2.FnScope ["_law_pen_here", "_law_most", "_law_found", "_law_lap", "_law_length", "_law_number", "_law_pair"] ["_law_pen_here", "_law_most"] (defScope s__law_pairs) := ⟨rfl, rfl, rfl, by decide +kernel, rfl, by decide +kernel, by decide +kernel⟩
theorem ok__law_pairs {g : Bool} {f : Addr} {fd : FuncData} (Z : Bi K mg) (F0 : L2.FunD K "_law_pairs" "_law_pairs" (defArgs s__law_pairs) (defBody s__law_pairs) (defScope s__law_pairs) [] [] f fd) (h__law_draw : Cw g Pg wd K mg base "_law_draw" 1 2 m__law_draw) (bn : ∀ us : List Value, us.length = 2 → ∀ s, BindsTo s fd ⟨us, []⟩ ((["_law_pen_here", "_law_most"] : List Str).zip us)) : FnX g Pg wd K mg base 2 f (spF (pm K) 2 m__law_pairs) :=
  okDef 7 2 rfl rfl F0 sc__law_pairs bn fun cdv A outer s X Ex B => by
    have SC := sc__law_pairs
    exact ySeq (ySet (i := 2) SC.nd rfl (by first | exact Or.inl rfl | exact Or.inr rfl) (xLst (xNil))) (ySeq (yFor B.po rfl (piRng1 rfl Z.n_range (xCons (xBin (oAdd rfl) (xC L2.pe_int (fun _ _ _ => .int _)) (xCall B (cal h__law_draw) (by decide) rfl (xCons ((xVar (L2.pe_var (i := 0) rfl (by first | exact Or.inl rfl | exact Or.inr (Or.inl rfl) | exact Or.inr (Or.inr rfl))))) (xCons ((xVar (L2.pe_var (i := 1) rfl (by first | exact Or.inl rfl | exact Or.inr (Or.inl rfl) | exact Or.inr (Or.inr rfl))))) (xNil))))) (xNil))) (gtName ((L2.pg_name (i := 3) SC.nd rfl (by first | exact Or.inl rfl | exact Or.inr rfl)))) (ySeq (ySet (i := 4) SC.nd rfl (by first | exact Or.inl rfl | exact Or.inr rfl) (xIx rfl (xLst (xCons (xC L2.pe_int (fun _ _ _ => .int _)) (xCons (xC L2.pe_int (fun _ _ _ => .int _)) (xCons (xC L2.pe_int (fun _ _ _ => .int _)) (xCons (xC L2.pe_int (fun _ _ _ => .int _)) (xCons (xC L2.pe_int (fun _ _ _ => .int _)) (xCons (xC L2.pe_int (fun _ _ _ => .int _)) (xCons (xC L2.pe_int (fun _ _ _ => .int _)) (xCons (xBin (oAdd rfl) (xC L2.pe_int (fun _ _ _ => .int _)) (xCall B (cal h__law_draw) (by decide) rfl (xCons ((xVar (L2.pe_var (i := 0) rfl (by first | exact Or.inl rfl | exact Or.inr (Or.inl rfl) | exact Or.inr (Or.inr rfl))))) (xCons (xC L2.pe_int (fun _ _ _ => .int _)) (xNil))))) (xNil)))))))))) (xCall B (cal h__law_draw) (by decide) rfl (xCons ((xVar (L2.pe_var (i := 0) rfl (by first | exact Or.inl rfl | exact Or.inr (Or.inl rfl) | exact Or.inr (Or.inr rfl))))) (xCons (xC L2.pe_int (fun _ _ _ => .int _)) (xNil)))))) (ySeq (ySet (i := 5) SC.nd rfl (by first | exact Or.inl rfl | exact Or.inr rfl) (xIx rfl (xLst (xCons (xC L2.pe_int (fun _ _ _ => .int _)) (xCons (xC L2.pe_int (fun _ _ _ => .int _)) (xCons (xC L2.pe_int (fun _ _ _ => .int _)) (xCons (xC L2.pe_int (fun _ _ _ => .int _)) (xCons (xC L2.pe_int (fun _ _ _ => .int _)) (xCons (xC L2.pe_int (fun _ _ _ => .int _)) (xCons (xBin (oAdd rfl) (xC L2.pe_int (fun _ _ _ => .int _)) (xCall B (cal h__law_draw) (by decide) rfl (xCons ((xVar (L2.pe_var (i := 0) rfl (by first | exact Or.inl rfl | exact Or.inr (Or.inl rfl) | exact Or.inr (Or.inr rfl))))) (xCons (xC L2.pe_int (fun _ _ _ => .int _)) (xNil))))) (xNil))))))))) (xCall B (cal h__law_draw) (by decide) rfl (xCons ((xVar (L2.pe_var (i := 0) rfl (by first | exact Or.inl rfl | exact Or.inr (Or.inl rfl) | exact Or.inr (Or.inr rfl))))) (xCons (xC L2.pe_int (fun _ _ _ => .int _)) (xNil)))))) (ySeq (ySet (i := 6) SC.nd rfl (by first | exact Or.inl rfl | exact Or.inr rfl) (xTup (xCons ((xVar (L2.pe_var (i := 4) rfl (by first | exact Or.inl rfl | exact Or.inr (Or.inl rfl) | exact Or.inr (Or.inr rfl))))) (xCons (xB (fm := fMax) (cMax rfl rfl) rfl Z.n_max (by first | exact PyProof.Rows.boot_sum | decide +kernel) (xCons ((xVar (L2.pe_var (i := 5) rfl (by first | exact Or.inl rfl | exact Or.inr (Or.inl rfl) | exact Or.inr (Or.inr rfl))))) (xCons (xBin oFdiv (xBin (oAdd rfl) ((xVar (L2.pe_var (i := 4) rfl (by first | exact Or.inl rfl | exact Or.inr (Or.inl rfl) | exact Or.inr (Or.inr rfl))))) (xC L2.pe_int (fun _ _ _ => .int _))) (xC L2.pe_int (fun _ _ _ => .int _))) (xNil)))) (xNil))))) (yOne (yIf (xTCmp (oNotIn rfl (r65 B.room)) ((xVar (L2.pe_var (i := 6) rfl (by first | exact Or.inl rfl | exact Or.inr (Or.inl rfl) | exact Or.inr (Or.inr rfl))))) ((xVar (L2.pe_var (i := 2) rfl (by first | exact Or.inl rfl | exact Or.inr (Or.inl rfl) | exact Or.inr (Or.inr rfl))))) (by with_unfolding_all rfl)) (yOne (yDrop (xAppend rfl ((xVar (L2.pe_var (i := 2) rfl (by first | exact Or.inl rfl | exact Or.inr (Or.inl rfl) | exact Or.inr (Or.inr rfl))))) ((xVar (L2.pe_var (i := 6) rfl (by first | exact Or.inl rfl | exact Or.inr (Or.inl rfl) | exact Or.inr (Or.inr rfl)))))))) (yNil))))))) (yOne (yRet ((xVar (L2.pe_var (i := 2) rfl (by first | exact Or.inl rfl | exact Or.inr (Or.inl rfl) | exact Or.inr (Or.inr rfl))))))))
abbrev s_Limits___init__ : Stmt := inClass (top 18) 0
def m_Limits___init__ : F := fnS 2 1 (sSeq (sIf (tNot (tTruth (eCall m_are_limits (aCons (eVar 1) (aNil))))) (sNever) (sNext)) (sSeq (sIf (tVal (eBin vGt (eCall fLen (aCons (eVar 1) (aNil))) (eC (.int 6)))) (sNever) (sNext)) (sFldA [0] (eVar 0) "held" (eVar 1))))
theorem sc_Limits___init__ : L2.FnScope ["self", "pairs"] ["self", "pairs"] (defScope s_Limits___init__) := ⟨rfl, rfl, rfl, by decide +kernel, rfl, by decide +kernel, by decide +kernel⟩
theorem ok_Limits___init__ {f : Addr} {fd : FuncData} (Z : Bi K mg) (F0 : L2.FunD K "__init__" "Limits.__init__" (defArgs s_Limits___init__) (defBody s_Limits___init__) (defScope s_Limits___init__) [] [] f fd) (h_are_limits : Cw false Pg wd K mg base "are_limits" 4 1 m_are_limits) : FnX false Pg wd K mg base 5 f (spA (pm K) m_Limits___init__) :=
  okDefS (ps := ["self"]) (pv := "pairs") 2 1 rfl rfl rfl F0 sc_Limits___init__ (fun kV doc pm an cdv ct us rest hl => StX.bind_star1 (B := fun vs => bindArgs (PySem.W.fnOf "__init__" "Limits.__init__" (defArgs s_Limits___init__) (defBody s_Limits___init__) (defScope s_Limits___init__) .none kV doc pm an cdv ct) ⟨vs, []⟩) (fun a => by kernel_rfl) (fun a r rs => by kernel_rfl) us rest hl) fun cdv A outer s X Ex B => by
    have SC := sc_Limits___init__
    exact ySeq (yIf (xTNot (xTruth rfl (xCall B (cal h_are_limits) (by decide) rfl (xCons ((xVar (L2.pe_var (i := 1) rfl (by first | exact Or.inl rfl | exact Or.inr (Or.inl rfl) | exact Or.inr (Or.inr rfl))))) (xNil))))) (yOne (yNever)) (yNil)) (ySeq (yIf (xTCmp oGt (xB (fm := fLen) (cLen rfl) rfl Z.n_len (by first | exact PyProof.Rows.boot_sum | decide +kernel) (xCons ((xVar (L2.pe_var (i := 1) rfl (by first | exact Or.inl rfl | exact Or.inr (Or.inl rfl) | exact Or.inr (Or.inr rfl))))) (xNil))) ((match Z.i_MOST_LIMITS with | ⟨t, e⟩ => xC (L2.pe_glob (v := .int 6) rfl e ⟨t, rfl⟩) (fun _ _ _ => .int _))) (L2.nomark _)) (yOne (yNever)) (yNil)) (yOne (ySetFld (cs := [0]) rfl ((xVar (L2.pe_var (i := 0) rfl (by first | exact Or.inl rfl | exact Or.inr (Or.inl rfl) | exact Or.inr (Or.inr rfl))))) ((xVar (L2.pe_var (i := 1) rfl (by first | exact Or.inl rfl | exact Or.inr (Or.inl rfl) | exact Or.inr (Or.inr rfl))))) Z.f_held)))
abbrev s_Limits_single : Stmt := inClass (top 18) 13
def m_Limits_single (ca : Nat) : F := fn 3 3 (sRet (eMkW ca 0 m_Limits___init__ (eVar 0) (aCons (eTup (aCons (eVar 1) (aCons (eVar 2) (aNil)))) (aNil))))
theorem sc_Limits_single : L2.FnScope ["cls", "length", "most"] ["cls", "length", "most"] (defScope s_Limits_single) := ⟨rfl, rfl, rfl, by decide +kernel, rfl, by decide +kernel, by decide +kernel⟩
theorem ok_Limits_single {g : Bool} {f : Addr} {fd : FuncData} (Z : Bi K mg) (F0 : L2.FunD K "single" "Limits.single" (defArgs s_Limits_single) (defBody s_Limits_single) (defScope s_Limits_single) [] [] f fd) (h_Limits___init__ : Mw Pg wd K mg base 0 5 m_Limits___init__) (bn : ∀ us : List Value, us.length = 3 → ∀ s, BindsTo s fd ⟨us, []⟩ ((["cls", "length", "most"] : List Str).zip us)) : FnX g Pg wd K mg base 7 f (spF (pm K) 3 (m_Limits_single ((pm K).ca 0))) :=
  okDef 3 3 rfl rfl F0 sc_Limits_single bn fun cdv A outer s X Ex B => by
    have SC := sc_Limits_single
    exact yOne (yRet (xMkW B (mkt h_Limits___init__) (by decide) ((xVar (L2.pe_var (i := 0) rfl (by first | exact Or.inl rfl | exact Or.inr (Or.inl rfl) | exact Or.inr (Or.inr rfl))))) (xCons (xTup (xCons ((xVar (L2.pe_var (i := 1) rfl (by first | exact Or.inl rfl | exact Or.inr (Or.inl rfl) | exact Or.inr (Or.inr rfl))))) (xCons ((xVar (L2.pe_var (i := 2) rfl (by first | exact Or.inl rfl | exact Or.inr (Or.inl rfl) | exact Or.inr (Or.inr rfl))))) (xNil)))) (xNil))))
abbrev s_Limits___add__ : Stmt := inClass (top 18) 7
def m_Limits___add__ : F := fn 5 2 (sSeq (sIf (tNot (tTruth (eUn (vIsC 0) (eVar 1)))) (sNever) (sNext)) (sSeq (sAsg (eComp (wSeq (eUn (vFld [0] "held") (eVar 1))) (gName 4) (tVal (eBin vNotIn (eVar 4) (eUn (vFld [0] "held") (eVar 0)))) (eVar 4) [4]) (gName 2)) (sSeq (sAsg (eTup (aStarQ (eUn (vFld [0] "held") (eVar 0)) (aStarQ (eVar 2) (aNil)))) (gName 3)) (sRet (eMkS 0 m_Limits___init__ (eVar 3))))))
theorem sc_Limits___add__ : L2.FnScope ["self", "other", "added", "pairs", "pair"] ["self", "other"] (defScope s_Limits___add__) := ⟨rfl, rfl, rfl, by decide +kernel, rfl, by decide +kernel, by decide +kernel⟩
theorem ok_Limits___add__ {g : Bool} {f : Addr} {fd : FuncData} (Z : Bi K mg) (F0 : L2.FunD K "__add__" "Limits.__add__" (defArgs s_Limits___add__) (defBody s_Limits___add__) (defScope s_Limits___add__) [] [] f fd) (h_Limits___init__ : Mw Pg wd K mg base 0 5 m_Limits___init__) (bn : ∀ us : List Value, us.length = 2 → ∀ s, BindsTo s fd ⟨us, []⟩ ((["self", "other"] : List Str).zip us)) : FnX g Pg wd K mg base 7 f (spF (pm K) 2 m_Limits___add__) :=
  okDef 5 2 rfl rfl F0 sc_Limits___add__ bn fun cdv A outer s X Ex B => by
    have SC := sc_Limits___add__
    exact ySeq (yIf (xTNot (xTruth rfl (xIsC rfl Z.isi ((xVar (L2.pe_var (i := 1) rfl (by first | exact Or.inl rfl | exact Or.inr (Or.inl rfl) | exact Or.inr (Or.inr rfl))))) rfl Z.n_isinstance (L2.pe_glob (v := .ref _) rfl Z.g_Limits rfl)))) (yOne (yNever)) (yNil)) (ySeq (ySetComp (i := 2) (own := [("pair", 4)]) rfl SC.nd rfl rfl rfl (piSeq rfl (xFld (cs := [0]) rfl ((xVar (L2.pe_var (i := 1) rfl (by first | exact Or.inl rfl | exact Or.inr (Or.inl rfl) | exact Or.inr (Or.inr rfl))))) Z.f_held)) (by exact ⟨rfl, of_decide_eq_true (by kernel_rfl), of_decide_eq_true (by kernel_rfl), of_decide_eq_true (by kernel_rfl), of_decide_eq_true (by kernel_rfl)⟩) (tgName (by decide)) (bk B fun _ _ _ _ _ B => (L2.pg_name (i := 4) SC.nd rfl (by first | exact Or.inl rfl | exact Or.inr rfl))) (bk B fun _ _ _ _ _ B => xTsOne (xTCmp (oNotIn rfl (r65 B.room)) ((xVar (L2.pe_var (i := 4) rfl (by first | exact Or.inl rfl | exact Or.inr (Or.inl rfl) | exact Or.inr (Or.inr rfl))))) (xFld (cs := [0]) rfl ((xVar (L2.pe_var (i := 0) rfl (by first | exact Or.inl rfl | exact Or.inr (Or.inl rfl) | exact Or.inr (Or.inr rfl))))) Z.f_held) (by with_unfolding_all rfl))) (bk B fun _ _ _ _ _ B => (xVar (L2.pe_var (i := 4) rfl (by first | exact Or.inl rfl | exact Or.inr (Or.inl rfl) | exact Or.inr (Or.inr rfl)))))) (ySeq (ySet (i := 3) SC.nd rfl (by first | exact Or.inl rfl | exact Or.inr rfl) (xTup (xStarQ rfl (xFld (cs := [0]) rfl ((xVar (L2.pe_var (i := 0) rfl (by first | exact Or.inl rfl | exact Or.inr (Or.inl rfl) | exact Or.inr (Or.inr rfl))))) Z.f_held) (xStarQ rfl ((xVar (L2.pe_var (i := 2) rfl (by first | exact Or.inl rfl | exact Or.inr (Or.inl rfl) | exact Or.inr (Or.inr rfl))))) (xNil))))) (yOne (yRet (xMkS rfl B (mkt h_Limits___init__) (by decide) rfl Z.g_Limits ((xVar (L2.pe_var (i := 3) rfl (by first | exact Or.inl rfl | exact Or.inr (Or.inl rfl) | exact Or.inr (Or.inr rfl))))))))))
abbrev s__law_limits : Stmt := top 40
def m__law_limits (ca : Nat) : F := fn 4 1 (sSeq (sAsg (eCm ca (m_Limits_single ca) (aCons (eBin vIx (eBin vIx (eVar 0) (eC (.int 0))) (eC (.int 0))) (aCons (eBin vIx (eBin vIx (eVar 0) (eC (.int 0))) (eC (.int 1))) (aNil)))) (gName 1)) (sSeq (sFor (wSeq (eCut (eVar 0) (some (eC (.int 1))) (none))) (gTup 2 (gCons (gName 2) (gCons (gName 3) (gNil)))) (sAsg (eBin (vAddO (one 0 m_Limits___add__)) (eVar 1) (eCm ca (m_Limits_single ca) (aCons (eVar 2) (aCons (eVar 3) (aNil))))) (gName 1))) (sRet (eVar 1))))
theorem sc__law_limits : L2.FnScope ["_law_pairs_here", "_law_made", "_law_length", "_law_number"] ["_law_pairs_here"] (defScope s__law_limits) := ⟨rfl, rfl, rfl, by decide +kernel, rfl, by decide +kernel, by decide +kernel⟩
theorem ok__law_limits {g : Bool} {f : Addr} {fd : FuncData} (Z : Bi K mg) (F0 : L2.FunD K "_law_limits" "_law_limits" (defArgs s__law_limits) (defBody s__law_limits) (defScope s__law_limits) [] [] f fd) (h_Limits_single : Kw Pg wd K mg base "single" 7 (m_Limits_single ((pm K).ca 0))) (h_Limits___add__ : Dw Pg wd K mg base 0 "__add__" 7 m_Limits___add__) (bn : ∀ us : List Value, us.length = 1 → ∀ s, BindsTo s fd ⟨us, []⟩ ((["_law_pairs_here"] : List Str).zip us)) : FnX g Pg wd K mg base 8 f (spF (pm K) 1 (m__law_limits ((pm K).ca 0))) :=
  okDef 4 1 rfl rfl F0 sc__law_limits bn fun cdv A outer s X Ex B => by
    have SC := sc__law_limits
    exact ySeq (ySet (i := 1) SC.nd rfl (by first | exact Or.inl rfl | exact Or.inr rfl) (xCm B (cmt h_Limits_single) (by decide) rfl Z.g_Limits (xCons (xIx rfl (xIx rfl ((xVar (L2.pe_var (i := 0) rfl (by first | exact Or.inl rfl | exact Or.inr (Or.inl rfl) | exact Or.inr (Or.inr rfl))))) (xC L2.pe_int (fun _ _ _ => .int _))) (xC L2.pe_int (fun _ _ _ => .int _))) (xCons (xIx rfl (xIx rfl ((xVar (L2.pe_var (i := 0) rfl (by first | exact Or.inl rfl | exact Or.inr (Or.inl rfl) | exact Or.inr (Or.inr rfl))))) (xC L2.pe_int (fun _ _ _ => .int _))) (xC L2.pe_int (fun _ _ _ => .int _))) (xNil))))) (ySeq (yFor B.po rfl (piSeq rfl (xCut rfl ((xVar (L2.pe_var (i := 0) rfl (by first | exact Or.inl rfl | exact Or.inr (Or.inl rfl) | exact Or.inr (Or.inr rfl))))) (pSome (xC L2.pe_int (fun _ _ _ => .int _))) (pNone))) (gtTup rfl rfl (gtCons (gtName ((L2.pg_name (i := 2) SC.nd rfl (by first | exact Or.inl rfl | exact Or.inr rfl)))) (gtCons (gtName ((L2.pg_name (i := 3) SC.nd rfl (by first | exact Or.inl rfl | exact Or.inr rfl)))) (gtNil)))) (yOne (ySet (i := 1) SC.nd rfl (by first | exact Or.inl rfl | exact Or.inr rfl) (xBin (oAddO rfl (B.room.mono (by decide)) (dsp h_Limits___add__) (sfo Z.sfst)) ((xVar (L2.pe_var (i := 1) rfl (by first | exact Or.inl rfl | exact Or.inr (Or.inl rfl) | exact Or.inr (Or.inr rfl))))) (xCm B (cmt h_Limits_single) (by decide) rfl Z.g_Limits (xCons ((xVar (L2.pe_var (i := 2) rfl (by first | exact Or.inl rfl | exact Or.inr (Or.inl rfl) | exact Or.inr (Or.inr rfl))))) (xCons ((xVar (L2.pe_var (i := 3) rfl (by first | exact Or.inl rfl | exact Or.inr (Or.inl rfl) | exact Or.inr (Or.inr rfl))))) (xNil)))))))) (yOne (yRet ((xVar (L2.pe_var (i := 1) rfl (by first | exact Or.inl rfl | exact Or.inr (Or.inl rfl) | exact Or.inr (Or.inr rfl))))))))
abbrev s__law_row : Stmt := top 41
def m__law_row : F := fn 6 2 (sSeq (sPar 3 4 (aCons (eLst (aNil)) (aCons (eCall m__law_draw (aCons (eVar 0) (aCons (eBin vAdd (eVar 1) (eC (.int 1))) (aNil)))) (aNil)))) (sSeq (sFor (wRng1 (aCons (eVar 4) (aNil))) (gName 2) (sSeq (sAsg (eBin vIx (eLst (aCons (eC (.int 0)) (aCons (eC (.int 0)) (aCons (eC (.int 1)) (aCons (eC (.int 2)) (aCons (eC (.int 5)) (aCons (eCall m__law_draw (aCons (eVar 0) (aCons (eC (.int 13)) (aNil)))) (aCons (eCall m__law_draw (aCons (eVar 0) (aCons (eC (.int 61)) (aNil)))) (aNil))))))))) (eCall m__law_draw (aCons (eVar 0) (aCons (eC (.int 7)) (aNil))))) (gName 5)) (sDrop (eLm mAppend (eVar 3) (aCons (eIf (tVal (eBin vLe (eBin vAdd (eCall fSum (aCons (eVar 3) (aNil))) (eVar 5)) (eC (.int 60)))) (eVar 5) (eC (.int 0))) aNil))))) (sRet (eCall fTuple (aCons (eVar 3) (aNil))))))
theorem sc__law_row : L2.FnScope ["_law_pen_here", "_law_size", "_law_lap", "_law_found", "_law_ticks", "_law_amount"] ["_law_pen_here", "_law_size"] (defScope s__law_row) := ⟨rfl, rfl, rfl, by decide +kernel, rfl, by decide +kernel, by decide +kernel⟩
theorem ok__law_row {g : Bool} {f : Addr} {fd : FuncData} (Z : Bi K mg) (F0 : L2.FunD K "_law_row" "_law_row" (defArgs s__law_row) (defBody s__law_row) (defScope s__law_row) [] [] f fd) (h__law_draw : Cw g Pg wd K mg base "_law_draw" 1 2 m__law_draw) (bn : ∀ us : List Value, us.length = 2 → ∀ s, BindsTo s fd ⟨us, []⟩ ((["_law_pen_here", "_law_size"] : List Str).zip us)) : FnX g Pg wd K mg base 2 f (spF (pm K) 2 m__law_row) :=
  okDef 6 2 rfl rfl F0 sc__law_row bn fun cdv A outer s X Ex B => by
    have SC := sc__law_row
    exact ySeq (yPar (i := 3) (j := 4) rfl SC.nd rfl rfl (by decide) rfl rfl (xCons (xLst (xNil)) (xCons (xCall B (cal h__law_draw) (by decide) rfl (xCons ((xVar (L2.pe_var (i := 0) rfl (by first | exact Or.inl rfl | exact Or.inr (Or.inl rfl) | exact Or.inr (Or.inr rfl))))) (xCons (xBin (oAdd rfl) ((xVar (L2.pe_var (i := 1) rfl (by first | exact Or.inl rfl | exact Or.inr (Or.inl rfl) | exact Or.inr (Or.inr rfl))))) (xC L2.pe_int (fun _ _ _ => .int _))) (xNil)))) (xNil))) rfl) (ySeq (yFor B.po rfl (piRng1 rfl Z.n_range (xCons ((xVar (L2.pe_var (i := 4) rfl (by first | exact Or.inl rfl | exact Or.inr (Or.inl rfl) | exact Or.inr (Or.inr rfl))))) (xNil))) (gtName ((L2.pg_name (i := 2) SC.nd rfl (by first | exact Or.inl rfl | exact Or.inr rfl)))) (ySeq (ySet (i := 5) SC.nd rfl (by first | exact Or.inl rfl | exact Or.inr rfl) (xIx rfl (xLst (xCons (xC L2.pe_int (fun _ _ _ => .int _)) (xCons (xC L2.pe_int (fun _ _ _ => .int _)) (xCons (xC L2.pe_int (fun _ _ _ => .int _)) (xCons (xC L2.pe_int (fun _ _ _ => .int _)) (xCons (xC L2.pe_int (fun _ _ _ => .int _)) (xCons (xCall B (cal h__law_draw) (by decide) rfl (xCons ((xVar (L2.pe_var (i := 0) rfl (by first | exact Or.inl rfl | exact Or.inr (Or.inl rfl) | exact Or.inr (Or.inr rfl))))) (xCons (xC L2.pe_int (fun _ _ _ => .int _)) (xNil)))) (xCons (xCall B (cal h__law_draw) (by decide) rfl (xCons ((xVar (L2.pe_var (i := 0) rfl (by first | exact Or.inl rfl | exact Or.inr (Or.inl rfl) | exact Or.inr (Or.inr rfl))))) (xCons (xC L2.pe_int (fun _ _ _ => .int _)) (xNil)))) (xNil))))))))) (xCall B (cal h__law_draw) (by decide) rfl (xCons ((xVar (L2.pe_var (i := 0) rfl (by first | exact Or.inl rfl | exact Or.inr (Or.inl rfl) | exact Or.inr (Or.inr rfl))))) (xCons (xC L2.pe_int (fun _ _ _ => .int _)) (xNil)))))) (yOne (yDrop (xAppend rfl ((xVar (L2.pe_var (i := 3) rfl (by first | exact Or.inl rfl | exact Or.inr (Or.inl rfl) | exact Or.inr (Or.inr rfl))))) (xIf (xTCmp oLe (xBin (oAdd rfl) (xB (fm := fSum) (cSum rfl rfl) rfl Z.n_sum (by first | exact PyProof.Rows.boot_sum | decide +kernel) (xCons ((xVar (L2.pe_var (i := 3) rfl (by first | exact Or.inl rfl | exact Or.inr (Or.inl rfl) | exact Or.inr (Or.inr rfl))))) (xNil))) ((xVar (L2.pe_var (i := 5) rfl (by first | exact Or.inl rfl | exact Or.inr (Or.inl rfl) | exact Or.inr (Or.inr rfl)))))) (xC L2.pe_int (fun _ _ _ => .int _)) (L2.nomark _)) ((xVar (L2.pe_var (i := 5) rfl (by first | exact Or.inl rfl | exact Or.inr (Or.inl rfl) | exact Or.inr (Or.inr rfl))))) (xC L2.pe_int (fun _ _ _ => .int _)))))))) (yOne (yRet (xTy (fm := fTuple) (cTuple rfl) rfl Z.n_tuple (by first | exact PyProof.Rows.boot_sum | decide +kernel) (xCons ((xVar (L2.pe_var (i := 3) rfl (by first | exact Or.inl rfl | exact Or.inr (Or.inl rfl) | exact Or.inr (Or.inr rfl))))) (xNil))))))
abbrev s__law_behind : Stmt := top 42
def m__law_behind : F := fn 4 2 (sSeq (sAsg (eCall fMax (aCons (eCall fLen (aCons (eVar 0) (aNil))) (aCons (eCall fLen (aCons (eVar 1) (aNil))) (aNil)))) (gName 2)) (sRet (eBin vEq (eComp (wRng1 (aCons (eVar 2) (aNil))) (gName 3) (tVal (eBin vGt (eCall fSum (aCons (eCut (eVar 0) (none) (some (eBin vAdd (eVar 3) (eC (.int 1))))) (aNil))) (eCall fSum (aCons (eCut (eVar 1) (none) (some (eBin vAdd (eVar 3) (eC (.int 1))))) (aNil))))) (eC (.int 1)) [3]) (eLst (aNil)))))
theorem sc__law_behind : L2.FnScope ["_law_one", "_law_other", "_law_size", "_law_at"] ["_law_one", "_law_other"] (defScope s__law_behind) := ⟨rfl, rfl, rfl, by decide +kernel, rfl, by decide +kernel, by decide +kernel⟩
theorem ok__law_behind {g : Bool} {f : Addr} {fd : FuncData} (Z : Bi K mg) (F0 : L2.FunD K "_law_behind" "_law_behind" (defArgs s__law_behind) (defBody s__law_behind) (defScope s__law_behind) [] [] f fd)  (bn : ∀ us : List Value, us.length = 2 → ∀ s, BindsTo s fd ⟨us, []⟩ ((["_law_one", "_law_other"] : List Str).zip us)) : FnX g Pg wd K mg base 1 f (spF (pm K) 2 m__law_behind) :=
  okDef 4 2 rfl rfl F0 sc__law_behind bn fun cdv A outer s X Ex B => by
    have SC := sc__law_behind
    exact ySeq (ySet (i := 2) SC.nd rfl (by first | exact Or.inl rfl | exact Or.inr rfl) (xB (fm := fMax) (cMax rfl rfl) rfl Z.n_max (by first | exact PyProof.Rows.boot_sum | decide +kernel) (xCons (xB (fm := fLen) (cLen rfl) rfl Z.n_len (by first | exact PyProof.Rows.boot_sum | decide +kernel) (xCons ((xVar (L2.pe_var (i := 0) rfl (by first | exact Or.inl rfl | exact Or.inr (Or.inl rfl) | exact Or.inr (Or.inr rfl))))) (xNil))) (xCons (xB (fm := fLen) (cLen rfl) rfl Z.n_len (by first | exact PyProof.Rows.boot_sum | decide +kernel) (xCons ((xVar (L2.pe_var (i := 1) rfl (by first | exact Or.inl rfl | exact Or.inr (Or.inl rfl) | exact Or.inr (Or.inr rfl))))) (xNil))) (xNil))))) (yOne (yRet (xCmp (oEq rfl B.room.units) (xComp (own := [("_law_at", 3)]) rfl SC.nd (piRng1 rfl Z.n_range (xCons ((xVar (L2.pe_var (i := 2) rfl (by first | exact Or.inl rfl | exact Or.inr (Or.inl rfl) | exact Or.inr (Or.inr rfl))))) (xNil))) (by exact ⟨rfl, of_decide_eq_true (by kernel_rfl), of_decide_eq_true (by kernel_rfl), of_decide_eq_true (by kernel_rfl), of_decide_eq_true (by kernel_rfl)⟩) (tgName (by decide)) (bk B fun _ _ _ _ _ B => (L2.pg_name (i := 3) SC.nd rfl (by first | exact Or.inl rfl | exact Or.inr rfl))) (bk B fun _ _ _ _ _ B => xTsOne (xTCmp oGt (xB (fm := fSum) (cSum rfl rfl) rfl Z.n_sum (by first | exact PyProof.Rows.boot_sum | decide +kernel) (xCons (xCut rfl ((xVar (L2.pe_var (i := 0) rfl (by first | exact Or.inl rfl | exact Or.inr (Or.inl rfl) | exact Or.inr (Or.inr rfl))))) (pNone) (pSome (xBin (oAdd rfl) ((xVar (L2.pe_var (i := 3) rfl (by first | exact Or.inl rfl | exact Or.inr (Or.inl rfl) | exact Or.inr (Or.inr rfl))))) (xC L2.pe_int (fun _ _ _ => .int _))))) (xNil))) (xB (fm := fSum) (cSum rfl rfl) rfl Z.n_sum (by first | exact PyProof.Rows.boot_sum | decide +kernel) (xCons (xCut rfl ((xVar (L2.pe_var (i := 1) rfl (by first | exact Or.inl rfl | exact Or.inr (Or.inl rfl) | exact Or.inr (Or.inr rfl))))) (pNone) (pSome (xBin (oAdd rfl) ((xVar (L2.pe_var (i := 3) rfl (by first | exact Or.inl rfl | exact Or.inr (Or.inl rfl) | exact Or.inr (Or.inr rfl))))) (xC L2.pe_int (fun _ _ _ => .int _))))) (xNil))) (L2.nomark _))) (bk B fun _ _ _ _ _ B => xC L2.pe_int (fun _ _ _ => .int _))) (xLst (xNil)) (L2.nomark _))))
abbrev s__law_bare : Stmt := top 43
def m__law_bare : F := fn 2 1 (sSeq (sAsg (eCall fList (aCons (eVar 0) (aNil))) (gName 1)) (sSeq (sWhile (tAnd (tVal (eBin vNe (eVar 1) (eLst (aNil)))) (tVal (eBin vEq (eBin vIx (eVar 1) (eUn vNeg (eC (.int 1)))) (eC (.int 0))))) (sDrop (ePop (eVar 1)))) (sRet (eVar 1))))
theorem sc__law_bare : L2.FnScope ["_law_row_here", "_law_found"] ["_law_row_here"] (defScope s__law_bare) := ⟨rfl, rfl, rfl, by decide +kernel, rfl, by decide +kernel, by decide +kernel⟩
theorem ok__law_bare {g : Bool} {f : Addr} {fd : FuncData} (Z : Bi K mg) (F0 : L2.FunD K "_law_bare" "_law_bare" (defArgs s__law_bare) (defBody s__law_bare) (defScope s__law_bare) [] [] f fd)  (bn : ∀ us : List Value, us.length = 1 → ∀ s, BindsTo s fd ⟨us, []⟩ ((["_law_row_here"] : List Str).zip us)) : FnX g Pg wd K mg base 1 f (spF (pm K) 1 m__law_bare) :=
  okDef 2 1 rfl rfl F0 sc__law_bare bn fun cdv A outer s X Ex B => by
    have SC := sc__law_bare
    exact ySeq (ySet (i := 1) SC.nd rfl (by first | exact Or.inl rfl | exact Or.inr rfl) (xTy (fm := fList) (cList rfl) rfl Z.n_list (by first | exact PyProof.Rows.boot_sum | decide +kernel) (xCons ((xVar (L2.pe_var (i := 0) rfl (by first | exact Or.inl rfl | exact Or.inr (Or.inl rfl) | exact Or.inr (Or.inr rfl))))) (xNil)))) (ySeq (yWhile B.po (L2.PW.pt (xWAnd (xTCmp (oNe rfl B.room.units) ((xVar (L2.pe_var (i := 1) rfl (by first | exact Or.inl rfl | exact Or.inr (Or.inl rfl) | exact Or.inr (Or.inr rfl))))) (xLst (xNil)) (L2.nomark _)) (xWAnd1 (xTCmp (oEq rfl B.room.units) (xIx rfl ((xVar (L2.pe_var (i := 1) rfl (by first | exact Or.inl rfl | exact Or.inr (Or.inl rfl) | exact Or.inr (Or.inr rfl))))) (xUn oNeg (xC L2.pe_int (fun _ _ _ => .int _)))) (xC L2.pe_int (fun _ _ _ => .int _)) (L2.nomark _))))) (yOne (yDrop (xPop rfl ((xVar (L2.pe_var (i := 1) rfl (by first | exact Or.inl rfl | exact Or.inr (Or.inl rfl) | exact Or.inr (Or.inr rfl))))))))) (yOne (yRet ((xVar (L2.pe_var (i := 1) rfl (by first | exact Or.inl rfl | exact Or.inr (Or.inl rfl) | exact Or.inr (Or.inr rfl))))))))
abbrev s__law_fair : Stmt := top 44
def m__law_fair : F := fn 3 2 (sSeq (sAsg (eCall m_passed (aCons (eVar 0) (aCons (eVar 1) (aNil)))) (gName 2)) (sSeq (sIf (tOr (tVal (eBin vNe (eCall m_verdict (aCons (eVar 0) (aCons (eVar 2) (aNil)))) (eTup (aCons (eC (.str [107, 101, 112, 116])) (aNil))))) (tOr (tVal (eBin vNe (eCall fSum (aCons (eVar 2) (aNil))) (eCall fSum (aCons (eVar 1) (aNil))))) (tNot (tTruth (eCall m__law_behind (aCons (eVar 2) (aCons (eVar 1) (aNil)))))))) (sRet (eC (.bl false))) (sNext)) (sSeq (sIf (tOr (tVal (eBin vNe (eCall m_passed (aCons (eVar 0) (aCons (eVar 2) (aNil)))) (eVar 2))) (tVal (eBin vNe (eBin vEq (eCall m_verdict (aCons (eVar 0) (aCons (eVar 1) (aNil)))) (eTup (aCons (eC (.str [107, 101, 112, 116])) (aNil)))) (eBin vEq (eVar 2) (eVar 1))))) (sRet (eC (.bl false))) (sNext)) (sRet (eAnd (eBin vEq (eCall fSum (aCons (eCall (lstG [] m_waiting) (aCons (eVar 0) (aCons (eVar 1) (aNil)))) (aNil))) (eCall fSum (aCons (eCall m_waits (aCons (eVar 0) (aCons (eVar 1) (aNil)))) (aNil)))) (eBin vEq (eCall fLen (aCons (eCall m_waits (aCons (eVar 0) (aCons (eVar 1) (aNil)))) (aNil))) (eCall fSum (aCons (eVar 1) (aNil)))))))))
theorem sc__law_fair : L2.FnScope ["_law_limits_here", "_law_row_here", "_law_told"] ["_law_limits_here", "_law_row_here"] (defScope s__law_fair) := ⟨rfl, rfl, rfl, by decide +kernel, rfl, by decide +kernel, by decide +kernel⟩
theorem ok__law_fair {g : Bool} {f : Addr} {fd : FuncData} (Z : Bi K mg) (F0 : L2.FunD K "_law_fair" "_law_fair" (defArgs s__law_fair) (defBody s__law_fair) (defScope s__law_fair) [] [] f fd) (hg_waiting : Gw Pg wd K mg base "waiting" 6 2 m_waiting) (h__law_behind : Cw g Pg wd K mg base "_law_behind" 1 2 m__law_behind) (h_passed : Cw g Pg wd K mg base "passed" 5 2 m_passed) (h_verdict : Cw g Pg wd K mg base "verdict" 5 2 m_verdict) (h_waits : Cw g Pg wd K mg base "waits" 6 2 m_waits) (bn : ∀ us : List Value, us.length = 2 → ∀ s, BindsTo s fd ⟨us, []⟩ ((["_law_limits_here", "_law_row_here"] : List Str).zip us)) : FnX g Pg wd K mg base 10 f (spF (pm K) 2 m__law_fair) :=
  okDef 3 2 rfl rfl F0 sc__law_fair bn fun cdv A outer s X Ex B => by
    have SC := sc__law_fair
    exact ySeq (ySet (i := 2) SC.nd rfl (by first | exact Or.inl rfl | exact Or.inr rfl) (xCall B (cal h_passed) (by decide) rfl (xCons ((xVar (L2.pe_var (i := 0) rfl (by first | exact Or.inl rfl | exact Or.inr (Or.inl rfl) | exact Or.inr (Or.inr rfl))))) (xCons ((xVar (L2.pe_var (i := 1) rfl (by first | exact Or.inl rfl | exact Or.inr (Or.inl rfl) | exact Or.inr (Or.inr rfl))))) (xNil))))) (ySeq (yIf (L2.PW.pt (xWOr (xTCmp (oNe rfl B.room.units) (xCall B (cal h_verdict) (by decide) rfl (xCons ((xVar (L2.pe_var (i := 0) rfl (by first | exact Or.inl rfl | exact Or.inr (Or.inl rfl) | exact Or.inr (Or.inr rfl))))) (xCons ((xVar (L2.pe_var (i := 2) rfl (by first | exact Or.inl rfl | exact Or.inr (Or.inl rfl) | exact Or.inr (Or.inr rfl))))) (xNil)))) (xTup (xCons (xC L2.pe_str (fun _ _ _ => rvStr (by decide +kernel))) (xNil))) (L2.nomark _)) (xWOr (xTCmp (oNe rfl B.room.units) (xB (fm := fSum) (cSum rfl rfl) rfl Z.n_sum (by first | exact PyProof.Rows.boot_sum | decide +kernel) (xCons ((xVar (L2.pe_var (i := 2) rfl (by first | exact Or.inl rfl | exact Or.inr (Or.inl rfl) | exact Or.inr (Or.inr rfl))))) (xNil))) (xB (fm := fSum) (cSum rfl rfl) rfl Z.n_sum (by first | exact PyProof.Rows.boot_sum | decide +kernel) (xCons ((xVar (L2.pe_var (i := 1) rfl (by first | exact Or.inl rfl | exact Or.inr (Or.inl rfl) | exact Or.inr (Or.inr rfl))))) (xNil))) (L2.nomark _)) (xWOr1 (xTNot (xTruth rfl (xCall B (cal h__law_behind) (by decide) rfl (xCons ((xVar (L2.pe_var (i := 2) rfl (by first | exact Or.inl rfl | exact Or.inr (Or.inl rfl) | exact Or.inr (Or.inr rfl))))) (xCons ((xVar (L2.pe_var (i := 1) rfl (by first | exact Or.inl rfl | exact Or.inr (Or.inl rfl) | exact Or.inr (Or.inr rfl))))) (xNil)))))))))) (yOne (yRet (xC L2.pe_bl (fun _ _ _ => .bl _)))) (yNil)) (ySeq (yIf (L2.PW.pt (xWOr (xTCmp (oNe rfl B.room.units) (xCall B (cal h_passed) (by decide) rfl (xCons ((xVar (L2.pe_var (i := 0) rfl (by first | exact Or.inl rfl | exact Or.inr (Or.inl rfl) | exact Or.inr (Or.inr rfl))))) (xCons ((xVar (L2.pe_var (i := 2) rfl (by first | exact Or.inl rfl | exact Or.inr (Or.inl rfl) | exact Or.inr (Or.inr rfl))))) (xNil)))) ((xVar (L2.pe_var (i := 2) rfl (by first | exact Or.inl rfl | exact Or.inr (Or.inl rfl) | exact Or.inr (Or.inr rfl))))) (L2.nomark _)) (xWOr1 (xTCmp (oNe rfl B.room.units) (xCmp (oEq rfl B.room.units) (xCall B (cal h_verdict) (by decide) rfl (xCons ((xVar (L2.pe_var (i := 0) rfl (by first | exact Or.inl rfl | exact Or.inr (Or.inl rfl) | exact Or.inr (Or.inr rfl))))) (xCons ((xVar (L2.pe_var (i := 1) rfl (by first | exact Or.inl rfl | exact Or.inr (Or.inl rfl) | exact Or.inr (Or.inr rfl))))) (xNil)))) (xTup (xCons (xC L2.pe_str (fun _ _ _ => rvStr (by decide +kernel))) (xNil))) (L2.nomark _)) (xCmp (oEq rfl B.room.units) ((xVar (L2.pe_var (i := 2) rfl (by first | exact Or.inl rfl | exact Or.inr (Or.inl rfl) | exact Or.inr (Or.inr rfl))))) ((xVar (L2.pe_var (i := 1) rfl (by first | exact Or.inl rfl | exact Or.inr (Or.inl rfl) | exact Or.inr (Or.inr rfl))))) (L2.nomark _)) (L2.nomark _))))) (yOne (yRet (xC L2.pe_bl (fun _ _ _ => .bl _)))) (yNil)) (yOne (yRet (xAnd (xCmp (oEq rfl B.room.units) (xB (fm := fSum) (cSum rfl rfl) rfl Z.n_sum (by first | exact PyProof.Rows.boot_sum | decide +kernel) (xCons (xListG rfl B (calg hg_waiting) (B.room.mono (by decide)) (fun _ hc => by cases hc) rfl Z.n_list (by first | exact PyProof.Rows.boot_sum | decide +kernel) rfl (xCons ((xVar (L2.pe_var (i := 0) rfl (by first | exact Or.inl rfl | exact Or.inr (Or.inl rfl) | exact Or.inr (Or.inr rfl))))) (xCons ((xVar (L2.pe_var (i := 1) rfl (by first | exact Or.inl rfl | exact Or.inr (Or.inl rfl) | exact Or.inr (Or.inr rfl))))) (xNil)))) (xNil))) (xB (fm := fSum) (cSum rfl rfl) rfl Z.n_sum (by first | exact PyProof.Rows.boot_sum | decide +kernel) (xCons (xCall B (cal h_waits) (by decide) rfl (xCons ((xVar (L2.pe_var (i := 0) rfl (by first | exact Or.inl rfl | exact Or.inr (Or.inl rfl) | exact Or.inr (Or.inr rfl))))) (xCons ((xVar (L2.pe_var (i := 1) rfl (by first | exact Or.inl rfl | exact Or.inr (Or.inl rfl) | exact Or.inr (Or.inr rfl))))) (xNil)))) (xNil))) (L2.nomark _)) (xOne (xCmp (oEq rfl B.room.units) (xB (fm := fLen) (cLen rfl) rfl Z.n_len (by first | exact PyProof.Rows.boot_sum | decide +kernel) (xCons (xCall B (cal h_waits) (by decide) rfl (xCons ((xVar (L2.pe_var (i := 0) rfl (by first | exact Or.inl rfl | exact Or.inr (Or.inl rfl) | exact Or.inr (Or.inr rfl))))) (xCons ((xVar (L2.pe_var (i := 1) rfl (by first | exact Or.inl rfl | exact Or.inr (Or.inl rfl) | exact Or.inr (Or.inr rfl))))) (xNil)))) (xNil))) (xB (fm := fSum) (cSum rfl rfl) rfl Z.n_sum (by first | exact PyProof.Rows.boot_sum | decide +kernel) (xCons ((xVar (L2.pe_var (i := 1) rfl (by first | exact Or.inl rfl | exact Or.inr (Or.inl rfl) | exact Or.inr (Or.inr rfl))))) (xNil))) (L2.nomark _))))))))
abbrev s__law_right : Stmt := top 45
def m__law_right (ca : Nat) : F := fn 8 1 (sSeq (sPar 3 4 (aCons (eCall (m__law_limits ca) (aCons (eCall m__law_pairs (aCons (eVar 0) (aCons (eC (.int 3)) (aNil)))) (aNil))) (aCons (eCall (m__law_limits ca) (aCons (eCall m__law_pairs (aCons (eVar 0) (aCons (eC (.int 3)) (aNil)))) (aNil))) (aNil)))) (sSeq (sAsg (eBin (vAddO (one 0 m_Limits___add__)) (eVar 3) (eVar 4)) (gName 1)) (sSeq (sFor (wSeq (eLst (aCons (eCall m__law_row (aCons (eVar 0) (aCons (eC (.int 14)) (aNil)))) (aCons (eCall m__law_row (aCons (eVar 0) (aCons (eC (.int 14)) (aNil)))) (aCons (eBin vAdd (eBin vRep (eTup (aCons (eC (.int 0)) (aNil))) (eCall m__law_draw (aCons (eVar 0) (aCons (eC (.int 3)) (aNil))))) (eTup (aCons (eCall m__law_draw (aCons (eVar 0) (aCons (eC (.int 61)) (aNil)))) (aNil)))) (aNil)))))) (gName 2) (sSeq (sIf (tOr (tNot (tTruth (eCall m__law_fair (aCons (eVar 3) (aCons (eVar 2) (aNil)))))) (tNot (tTruth (eCall m__law_fair (aCons (eVar 1) (aCons (eVar 2) (aNil))))))) (sRet (eC (.bl false))) (sNext)) (sSeq (sAsg (eCall m__law_bare (aCons (eCall m_passed (aCons (eVar 1) (aCons (eVar 2) (aNil)))) (aNil))) (gName 5)) (sSeq (sIf (tOr (tVal (eBin vNe (eCall m__law_bare (aCons (eCall m_passed (aCons (eVar 3) (aCons (eCall m_passed (aCons (eVar 4) (aCons (eVar 2) (aNil)))) (aNil)))) (aNil))) (eVar 5))) (tVal (eBin vNe (eCall m__law_bare (aCons (eCall m_passed (aCons (eVar 4) (aCons (eCall m_passed (aCons (eVar 3) (aCons (eVar 2) (aNil)))) (aNil)))) (aNil))) (eVar 5)))) (sRet (eC (.bl false))) (sNext)) (sSeq (sIf (tAnd (tVal (eBin vEq (eCall m_verdict (aCons (eVar 3) (aCons (eVar 2) (aNil)))) (eTup (aCons (eC (.str [107, 101, 112, 116])) (aNil))))) (tVal (eBin vNe (eCall m_verdict (aCons (eVar 3) (aCons (eCall m_passed (aCons (eVar 4) (aCons (eVar 2) (aNil)))) (aNil)))) (eTup (aCons (eC (.str [107, 101, 112, 116])) (aNil)))))) (sRet (eC (.bl false))) (sNext)) (sSeq (sIf (tNot (tTruth (eCall m__law_behind (aCons (eCall m_passed (aCons (eVar 3) (aCons (eBin vAdd (eTup (aCons (eC (.int 0)) (aNil))) (eVar 2)) (aNil)))) (aCons (eCall m_passed (aCons (eVar 3) (aCons (eVar 2) (aNil)))) (aNil)))))) (sRet (eC (.bl false))) (sNext)) (sSeq (sAsg (eCall fTuple (aCons (eComp (wSeq (eVar 2)) (gName 7) (tYes) (eBin vSub (eVar 7) (eCall m__law_draw (aCons (eVar 0) (aCons (eBin vAdd (eVar 7) (eC (.int 1))) (aNil))))) [7]) (aNil))) (gName 6)) (sSeq (sIf (tNot (tTruth (eCall m__law_behind (aCons (eCall m_passed (aCons (eVar 3) (aCons (eVar 6) (aNil)))) (aCons (eCall m_passed (aCons (eVar 3) (aCons (eVar 2) (aNil)))) (aNil)))))) (sRet (eC (.bl false))) (sNext)) (sIf (tNot (tTruth (eCall m__law_behind (aCons (eCall m_passed (aCons (eVar 1) (aCons (eVar 2) (aNil)))) (aCons (eCall m_passed (aCons (eVar 3) (aCons (eVar 2) (aNil)))) (aNil)))))) (sRet (eC (.bl false))) (sNext)))))))))) (sRet (eC (.bl true))))))
theorem sc__law_right : L2.FnScope ["_law_pen_here", "_law_both", "_law_row_here", "_law_one", "_law_other", "_law_due", "_law_fewer", "_law_amount"] ["_law_pen_here"] (defScope s__law_right) := ⟨rfl, rfl, rfl, by decide +kernel, rfl, by decide +kernel, by decide +kernel⟩
theorem ok__law_right {g : Bool} {f : Addr} {fd : FuncData} (Z : Bi K mg) (F0 : L2.FunD K "_law_right" "_law_right" (defArgs s__law_right) (defBody s__law_right) (defScope s__law_right) [] [] f fd) (h__law_bare : Cw g Pg wd K mg base "_law_bare" 1 1 m__law_bare) (h__law_behind : Cw g Pg wd K mg base "_law_behind" 1 2 m__law_behind) (h__law_draw : Cw g Pg wd K mg base "_law_draw" 1 2 m__law_draw) (h__law_fair : Cw g Pg wd K mg base "_law_fair" 10 2 m__law_fair) (h__law_limits : Cw g Pg wd K mg base "_law_limits" 8 1 (m__law_limits ((pm K).ca 0))) (h__law_pairs : Cw g Pg wd K mg base "_law_pairs" 2 2 m__law_pairs) (h__law_row : Cw g Pg wd K mg base "_law_row" 2 2 m__law_row) (h_passed : Cw g Pg wd K mg base "passed" 5 2 m_passed) (h_verdict : Cw g Pg wd K mg base "verdict" 5 2 m_verdict) (h_Limits___add__ : Dw Pg wd K mg base 0 "__add__" 7 m_Limits___add__) (bn : ∀ us : List Value, us.length = 1 → ∀ s, BindsTo s fd ⟨us, []⟩ ((["_law_pen_here"] : List Str).zip us)) : FnX g Pg wd K mg base 11 f (spF (pm K) 1 (m__law_right ((pm K).ca 0))) :=
  okDef 8 1 rfl rfl F0 sc__law_right bn fun cdv A outer s X Ex B => by
    have SC := sc__law_right
    exact ySeq (yPar (i := 3) (j := 4) rfl SC.nd rfl rfl (by decide) rfl rfl (xCons (xCall B (cal h__law_limits) (by decide) rfl (xCons (xCall B (cal h__law_pairs) (by decide) rfl (xCons ((xVar (L2.pe_var (i := 0) rfl (by first | exact Or.inl rfl | exact Or.inr (Or.inl rfl) | exact Or.inr (Or.inr rfl))))) (xCons (xC L2.pe_int (fun _ _ _ => .int _)) (xNil)))) (xNil))) (xCons (xCall B (cal h__law_limits) (by decide) rfl (xCons (xCall B (cal h__law_pairs) (by decide) rfl (xCons ((xVar (L2.pe_var (i := 0) rfl (by first | exact Or.inl rfl | exact Or.inr (Or.inl rfl) | exact Or.inr (Or.inr rfl))))) (xCons (xC L2.pe_int (fun _ _ _ => .int _)) (xNil)))) (xNil))) (xNil))) rfl) (ySeq (ySet (i := 1) SC.nd rfl (by first | exact Or.inl rfl | exact Or.inr rfl) (xBin (oAddO rfl (B.room.mono (by decide)) (dsp h_Limits___add__) (sfo Z.sfst)) ((xVar (L2.pe_var (i := 3) rfl (by first | exact Or.inl rfl | exact Or.inr (Or.inl rfl) | exact Or.inr (Or.inr rfl))))) ((xVar (L2.pe_var (i := 4) rfl (by first | exact Or.inl rfl | exact Or.inr (Or.inl rfl) | exact Or.inr (Or.inr rfl))))))) (ySeq (yFor B.po rfl (piSeq rfl (xLst (xCons (xCall B (cal h__law_row) (by decide) rfl (xCons ((xVar (L2.pe_var (i := 0) rfl (by first | exact Or.inl rfl | exact Or.inr (Or.inl rfl) | exact Or.inr (Or.inr rfl))))) (xCons (xC L2.pe_int (fun _ _ _ => .int _)) (xNil)))) (xCons (xCall B (cal h__law_row) (by decide) rfl (xCons ((xVar (L2.pe_var (i := 0) rfl (by first | exact Or.inl rfl | exact Or.inr (Or.inl rfl) | exact Or.inr (Or.inr rfl))))) (xCons (xC L2.pe_int (fun _ _ _ => .int _)) (xNil)))) (xCons (xBin (oAdd rfl) (xBin (oRep rfl) (xTup (xCons (xC L2.pe_int (fun _ _ _ => .int _)) (xNil))) (xCall B (cal h__law_draw) (by decide) rfl (xCons ((xVar (L2.pe_var (i := 0) rfl (by first | exact Or.inl rfl | exact Or.inr (Or.inl rfl) | exact Or.inr (Or.inr rfl))))) (xCons (xC L2.pe_int (fun _ _ _ => .int _)) (xNil))))) (xTup (xCons (xCall B (cal h__law_draw) (by decide) rfl (xCons ((xVar (L2.pe_var (i := 0) rfl (by first | exact Or.inl rfl | exact Or.inr (Or.inl rfl) | exact Or.inr (Or.inr rfl))))) (xCons (xC L2.pe_int (fun _ _ _ => .int _)) (xNil)))) (xNil)))) (xNil)))))) (gtName ((L2.pg_name (i := 2) SC.nd rfl (by first | exact Or.inl rfl | exact Or.inr rfl)))) (ySeq (yIf (L2.PW.pt (xWOr (xTNot (xTruth rfl (xCall B (cal h__law_fair) (by decide) rfl (xCons ((xVar (L2.pe_var (i := 3) rfl (by first | exact Or.inl rfl | exact Or.inr (Or.inl rfl) | exact Or.inr (Or.inr rfl))))) (xCons ((xVar (L2.pe_var (i := 2) rfl (by first | exact Or.inl rfl | exact Or.inr (Or.inl rfl) | exact Or.inr (Or.inr rfl))))) (xNil)))))) (xWOr1 (xTNot (xTruth rfl (xCall B (cal h__law_fair) (by decide) rfl (xCons ((xVar (L2.pe_var (i := 1) rfl (by first | exact Or.inl rfl | exact Or.inr (Or.inl rfl) | exact Or.inr (Or.inr rfl))))) (xCons ((xVar (L2.pe_var (i := 2) rfl (by first | exact Or.inl rfl | exact Or.inr (Or.inl rfl) | exact Or.inr (Or.inr rfl))))) (xNil))))))))) (yOne (yRet (xC L2.pe_bl (fun _ _ _ => .bl _)))) (yNil)) (ySeq (ySet (i := 5) SC.nd rfl (by first | exact Or.inl rfl | exact Or.inr rfl) (xCall B (cal h__law_bare) (by decide) rfl (xCons (xCall B (cal h_passed) (by decide) rfl (xCons ((xVar (L2.pe_var (i := 1) rfl (by first | exact Or.inl rfl | exact Or.inr (Or.inl rfl) | exact Or.inr (Or.inr rfl))))) (xCons ((xVar (L2.pe_var (i := 2) rfl (by first | exact Or.inl rfl | exact Or.inr (Or.inl rfl) | exact Or.inr (Or.inr rfl))))) (xNil)))) (xNil)))) (ySeq (yIf (L2.PW.pt (xWOr (xTCmp (oNe rfl B.room.units) (xCall B (cal h__law_bare) (by decide) rfl (xCons (xCall B (cal h_passed) (by decide) rfl (xCons ((xVar (L2.pe_var (i := 3) rfl (by first | exact Or.inl rfl | exact Or.inr (Or.inl rfl) | exact Or.inr (Or.inr rfl))))) (xCons (xCall B (cal h_passed) (by decide) rfl (xCons ((xVar (L2.pe_var (i := 4) rfl (by first | exact Or.inl rfl | exact Or.inr (Or.inl rfl) | exact Or.inr (Or.inr rfl))))) (xCons ((xVar (L2.pe_var (i := 2) rfl (by first | exact Or.inl rfl | exact Or.inr (Or.inl rfl) | exact Or.inr (Or.inr rfl))))) (xNil)))) (xNil)))) (xNil))) ((xVar (L2.pe_var (i := 5) rfl (by first | exact Or.inl rfl | exact Or.inr (Or.inl rfl) | exact Or.inr (Or.inr rfl))))) (L2.nomark _)) (xWOr1 (xTCmp (oNe rfl B.room.units) (xCall B (cal h__law_bare) (by decide) rfl (xCons (xCall B (cal h_passed) (by decide) rfl (xCons ((xVar (L2.pe_var (i := 4) rfl (by first | exact Or.inl rfl | exact Or.inr (Or.inl rfl) | exact Or.inr (Or.inr rfl))))) (xCons (xCall B (cal h_passed) (by decide) rfl (xCons ((xVar (L2.pe_var (i := 3) rfl (by first | exact Or.inl rfl | exact Or.inr (Or.inl rfl) | exact Or.inr (Or.inr rfl))))) (xCons ((xVar (L2.pe_var (i := 2) rfl (by first | exact Or.inl rfl | exact Or.inr (Or.inl rfl) | exact Or.inr (Or.inr rfl))))) (xNil)))) (xNil)))) (xNil))) ((xVar (L2.pe_var (i := 5) rfl (by first | exact Or.inl rfl | exact Or.inr (Or.inl rfl) | exact Or.inr (Or.inr rfl))))) (L2.nomark _))))) (yOne (yRet (xC L2.pe_bl (fun _ _ _ => .bl _)))) (yNil)) (ySeq (yIf (L2.PW.pt (xWAnd (xTCmp (oEq rfl B.room.units) (xCall B (cal h_verdict) (by decide) rfl (xCons ((xVar (L2.pe_var (i := 3) rfl (by first | exact Or.inl rfl | exact Or.inr (Or.inl rfl) | exact Or.inr (Or.inr rfl))))) (xCons ((xVar (L2.pe_var (i := 2) rfl (by first | exact Or.inl rfl | exact Or.inr (Or.inl rfl) | exact Or.inr (Or.inr rfl))))) (xNil)))) (xTup (xCons (xC L2.pe_str (fun _ _ _ => rvStr (by decide +kernel))) (xNil))) (L2.nomark _)) (xWAnd1 (xTCmp (oNe rfl B.room.units) (xCall B (cal h_verdict) (by decide) rfl (xCons ((xVar (L2.pe_var (i := 3) rfl (by first | exact Or.inl rfl | exact Or.inr (Or.inl rfl) | exact Or.inr (Or.inr rfl))))) (xCons (xCall B (cal h_passed) (by decide) rfl (xCons ((xVar (L2.pe_var (i := 4) rfl (by first | exact Or.inl rfl | exact Or.inr (Or.inl rfl) | exact Or.inr (Or.inr rfl))))) (xCons ((xVar (L2.pe_var (i := 2) rfl (by first | exact Or.inl rfl | exact Or.inr (Or.inl rfl) | exact Or.inr (Or.inr rfl))))) (xNil)))) (xNil)))) (xTup (xCons (xC L2.pe_str (fun _ _ _ => rvStr (by decide +kernel))) (xNil))) (L2.nomark _))))) (yOne (yRet (xC L2.pe_bl (fun _ _ _ => .bl _)))) (yNil)) (ySeq (yIf (xTNot (xTruth rfl (xCall B (cal h__law_behind) (by decide) rfl (xCons (xCall B (cal h_passed) (by decide) rfl (xCons ((xVar (L2.pe_var (i := 3) rfl (by first | exact Or.inl rfl | exact Or.inr (Or.inl rfl) | exact Or.inr (Or.inr rfl))))) (xCons (xBin (oAdd rfl) (xTup (xCons (xC L2.pe_int (fun _ _ _ => .int _)) (xNil))) ((xVar (L2.pe_var (i := 2) rfl (by first | exact Or.inl rfl | exact Or.inr (Or.inl rfl) | exact Or.inr (Or.inr rfl)))))) (xNil)))) (xCons (xCall B (cal h_passed) (by decide) rfl (xCons ((xVar (L2.pe_var (i := 3) rfl (by first | exact Or.inl rfl | exact Or.inr (Or.inl rfl) | exact Or.inr (Or.inr rfl))))) (xCons ((xVar (L2.pe_var (i := 2) rfl (by first | exact Or.inl rfl | exact Or.inr (Or.inl rfl) | exact Or.inr (Or.inr rfl))))) (xNil)))) (xNil)))))) (yOne (yRet (xC L2.pe_bl (fun _ _ _ => .bl _)))) (yNil)) (ySeq (ySet (i := 6) SC.nd rfl (by first | exact Or.inl rfl | exact Or.inr rfl) (xTy (fm := fTuple) (cTuple rfl) rfl Z.n_tuple (by first | exact PyProof.Rows.boot_sum | decide +kernel) (xCons (xComp (own := [("_law_amount", 7)]) rfl SC.nd (piSeq rfl ((xVar (L2.pe_var (i := 2) rfl (by first | exact Or.inl rfl | exact Or.inr (Or.inl rfl) | exact Or.inr (Or.inr rfl)))))) (by exact ⟨rfl, of_decide_eq_true (by kernel_rfl), of_decide_eq_true (by kernel_rfl), of_decide_eq_true (by kernel_rfl), of_decide_eq_true (by kernel_rfl)⟩) (tgName (by decide)) (bk B fun _ _ _ _ _ B => (L2.pg_name (i := 7) SC.nd rfl (by first | exact Or.inl rfl | exact Or.inr rfl))) (bk B fun _ _ _ _ _ B => xTsNil) (bk B fun _ _ _ _ _ B => xBin oSub ((xVar (L2.pe_var (i := 7) rfl (by first | exact Or.inl rfl | exact Or.inr (Or.inl rfl) | exact Or.inr (Or.inr rfl))))) (xCall B (cal h__law_draw) (by decide) rfl (xCons ((xVar (L2.pe_var (i := 0) rfl (by first | exact Or.inl rfl | exact Or.inr (Or.inl rfl) | exact Or.inr (Or.inr rfl))))) (xCons (xBin (oAdd rfl) ((xVar (L2.pe_var (i := 7) rfl (by first | exact Or.inl rfl | exact Or.inr (Or.inl rfl) | exact Or.inr (Or.inr rfl))))) (xC L2.pe_int (fun _ _ _ => .int _))) (xNil)))))) (xNil)))) (ySeq (yIf (xTNot (xTruth rfl (xCall B (cal h__law_behind) (by decide) rfl (xCons (xCall B (cal h_passed) (by decide) rfl (xCons ((xVar (L2.pe_var (i := 3) rfl (by first | exact Or.inl rfl | exact Or.inr (Or.inl rfl) | exact Or.inr (Or.inr rfl))))) (xCons ((xVar (L2.pe_var (i := 6) rfl (by first | exact Or.inl rfl | exact Or.inr (Or.inl rfl) | exact Or.inr (Or.inr rfl))))) (xNil)))) (xCons (xCall B (cal h_passed) (by decide) rfl (xCons ((xVar (L2.pe_var (i := 3) rfl (by first | exact Or.inl rfl | exact Or.inr (Or.inl rfl) | exact Or.inr (Or.inr rfl))))) (xCons ((xVar (L2.pe_var (i := 2) rfl (by first | exact Or.inl rfl | exact Or.inr (Or.inl rfl) | exact Or.inr (Or.inr rfl))))) (xNil)))) (xNil)))))) (yOne (yRet (xC L2.pe_bl (fun _ _ _ => .bl _)))) (yNil)) (yOne (yIf (xTNot (xTruth rfl (xCall B (cal h__law_behind) (by decide) rfl (xCons (xCall B (cal h_passed) (by decide) rfl (xCons ((xVar (L2.pe_var (i := 1) rfl (by first | exact Or.inl rfl | exact Or.inr (Or.inl rfl) | exact Or.inr (Or.inr rfl))))) (xCons ((xVar (L2.pe_var (i := 2) rfl (by first | exact Or.inl rfl | exact Or.inr (Or.inl rfl) | exact Or.inr (Or.inr rfl))))) (xNil)))) (xCons (xCall B (cal h_passed) (by decide) rfl (xCons ((xVar (L2.pe_var (i := 3) rfl (by first | exact Or.inl rfl | exact Or.inr (Or.inl rfl) | exact Or.inr (Or.inr rfl))))) (xCons ((xVar (L2.pe_var (i := 2) rfl (by first | exact Or.inl rfl | exact Or.inr (Or.inl rfl) | exact Or.inr (Or.inr rfl))))) (xNil)))) (xNil)))))) (yOne (yRet (xC L2.pe_bl (fun _ _ _ => .bl _)))) (yNil))))))))))) (yOne (yRet (xC L2.pe_bl (fun _ _ _ => .bl _))))))
abbrev s_law : Stmt := top 46
def m_law (ca : Nat) : F := fn 4 1 (sSeq (sFor (wRng1 (aCons (eCall fMax (aCons (eC (.int 1)) (aCons (eCall fMin (aCons (eCall fLen (aCons (eVar 0) (aNil))) (aCons (eC (.int 3)) (aNil)))) (aNil)))) (aNil))) (gName 1) (sSeq (sAsg (eCall m__law_pen (aCons (eCall m__law_cell (aCons (eVar 0) (aCons (eVar 1) (aNil)))) (aNil))) (gName 2)) (sFor (wRng1 (aCons (eC (.int 3)) (aNil))) (gName 3) (sIf (tNot (tTruth (eCall (m__law_right ca) (aCons (eVar 2) (aNil))))) (sRet (eC (.bl false))) (sNext))))) (sRet (eC (.bl true))))
theorem sc_law : L2.FnScope ["_law_script", "_law_k", "_law_pen_here", "_law_lap"] ["_law_script"] (defScope s_law) := ⟨rfl, rfl, rfl, by decide +kernel, rfl, by decide +kernel, by decide +kernel⟩
theorem ok_law {g : Bool} {f : Addr} {fd : FuncData} (Z : Bi K mg) (F0 : L2.FunD K "law" "law" (defArgs s_law) (defBody s_law) (defScope s_law) [] [] f fd) (h__law_cell : Cw g Pg wd K mg base "_law_cell" 1 2 m__law_cell) (h__law_pen : Cw g Pg wd K mg base "_law_pen" 1 1 m__law_pen) (h__law_right : Cw g Pg wd K mg base "_law_right" 11 1 (m__law_right ((pm K).ca 0))) (bn : ∀ us : List Value, us.length = 1 → ∀ s, BindsTo s fd ⟨us, []⟩ ((["_law_script"] : List Str).zip us)) : FnX g Pg wd K mg base 12 f (spF (pm K) 1 (m_law ((pm K).ca 0))) :=
  okDef 4 1 rfl rfl F0 sc_law bn fun cdv A outer s X Ex B => by
    have SC := sc_law
    exact ySeq (yFor B.po rfl (piRng1 rfl Z.n_range (xCons (xB (fm := fMax) (cMax rfl rfl) rfl Z.n_max (by first | exact PyProof.Rows.boot_sum | decide +kernel) (xCons (xC L2.pe_int (fun _ _ _ => .int _)) (xCons (xB (fm := fMin) (cMin rfl rfl) rfl Z.n_min (by first | exact PyProof.Rows.boot_sum | decide +kernel) (xCons (xB (fm := fLen) (cLen rfl) rfl Z.n_len (by first | exact PyProof.Rows.boot_sum | decide +kernel) (xCons ((xVar (L2.pe_var (i := 0) rfl (by first | exact Or.inl rfl | exact Or.inr (Or.inl rfl) | exact Or.inr (Or.inr rfl))))) (xNil))) (xCons (xC L2.pe_int (fun _ _ _ => .int _)) (xNil)))) (xNil)))) (xNil))) (gtName ((L2.pg_name (i := 1) SC.nd rfl (by first | exact Or.inl rfl | exact Or.inr rfl)))) (ySeq (ySet (i := 2) SC.nd rfl (by first | exact Or.inl rfl | exact Or.inr rfl) (xCall B (cal h__law_pen) (by decide) rfl (xCons (xCall B (cal h__law_cell) (by decide) rfl (xCons ((xVar (L2.pe_var (i := 0) rfl (by first | exact Or.inl rfl | exact Or.inr (Or.inl rfl) | exact Or.inr (Or.inr rfl))))) (xCons ((xVar (L2.pe_var (i := 1) rfl (by first | exact Or.inl rfl | exact Or.inr (Or.inl rfl) | exact Or.inr (Or.inr rfl))))) (xNil)))) (xNil)))) (yOne (yFor B.po rfl (piRng1 rfl Z.n_range (xCons (xC L2.pe_int (fun _ _ _ => .int _)) (xNil))) (gtName ((L2.pg_name (i := 3) SC.nd rfl (by first | exact Or.inl rfl | exact Or.inr rfl)))) (yOne (yIf (xTNot (xTruth rfl (xCall B (cal h__law_right) (by decide) rfl (xCons ((xVar (L2.pe_var (i := 2) rfl (by first | exact Or.inl rfl | exact Or.inr (Or.inl rfl) | exact Or.inr (Or.inr rfl))))) (xNil))))) (yOne (yRet (xC L2.pe_bl (fun _ _ _ => .bl _)))) (yNil))))))) (yOne (yRet (xC L2.pe_bl (fun _ _ _ => .bl _))))
abbrev s_Limits___call__ : Stmt := inClass (top 18) 6
def m_Limits___call__ : F := fn 2 2 (sSeq (sIf (tNot (tTruth (eCall m_is_between (aCons (eVar 1) (aCons (eC (.int 0)) (aCons (eC (.int 1000)) (aNil))))))) (sNever) (sNext)) (sRet (eBin vIx (eCall m_least_sums (aCons (eUn (vFld [0] "held") (eVar 0)) (aCons (eVar 1) (aNil)))) (eVar 1))))
theorem sc_Limits___call__ : L2.FnScope ["self", "length"] ["self", "length"] (defScope s_Limits___call__) := ⟨rfl, rfl, rfl, by decide +kernel, rfl, by decide +kernel, by decide +kernel⟩
theorem ok_Limits___call__ {g : Bool} {f : Addr} {fd : FuncData} (Z : Bi K mg) (F0 : L2.FunD K "__call__" "Limits.__call__" (defArgs s_Limits___call__) (defBody s_Limits___call__) (defScope s_Limits___call__) [] [] f fd) (h_is_between : Cw g Pg wd K mg base "is_between" 2 3 m_is_between) (h_least_sums : Cw g Pg wd K mg base "least_sums" 1 2 m_least_sums) (bn : ∀ us : List Value, us.length = 2 → ∀ s, BindsTo s fd ⟨us, []⟩ ((["self", "length"] : List Str).zip us)) : FnX g Pg wd K mg base 3 f (spF (pm K) 2 m_Limits___call__) :=
  okDef 2 2 rfl rfl F0 sc_Limits___call__ bn fun cdv A outer s X Ex B => by
    have SC := sc_Limits___call__
    exact ySeq (yIf (xTNot (xTruth rfl (xCall B (cal h_is_between) (by decide) rfl (xCons ((xVar (L2.pe_var (i := 1) rfl (by first | exact Or.inl rfl | exact Or.inr (Or.inl rfl) | exact Or.inr (Or.inr rfl))))) (xCons (xC L2.pe_int (fun _ _ _ => .int _)) (xCons ((match Z.i_LONGEST with | ⟨t, e⟩ => xC (L2.pe_glob (v := .int 1000) rfl e ⟨t, rfl⟩) (fun _ _ _ => .int _))) (xNil))))))) (yOne (yNever)) (yNil)) (yOne (yRet (xIx rfl (xCall B (cal h_least_sums) (by decide) rfl (xCons (xFld (cs := [0]) rfl ((xVar (L2.pe_var (i := 0) rfl (by first | exact Or.inl rfl | exact Or.inr (Or.inl rfl) | exact Or.inr (Or.inr rfl))))) Z.f_held) (xCons ((xVar (L2.pe_var (i := 1) rfl (by first | exact Or.inl rfl | exact Or.inr (Or.inl rfl) | exact Or.inr (Or.inr rfl))))) (xNil)))) ((xVar (L2.pe_var (i := 1) rfl (by first | exact Or.inl rfl | exact Or.inr (Or.inl rfl) | exact Or.inr (Or.inr rfl))))))))
end
def d_is_integer : He.DefD := ⟨("is_integer", none), "is_integer", "is_integer", defArgs s_is_integer, defBody s_is_integer, defScope s_is_integer, [], []⟩
def d_is_between : He.DefD := ⟨("is_between", none), "is_between", "is_between", defArgs s_is_between, defBody s_is_between, defScope s_is_between, [], []⟩
def d_is_row : He.DefD := ⟨("is_row", none), "is_row", "is_row", defArgs s_is_row, defBody s_is_row, defScope s_is_row, [], []⟩
def d_are_limits : He.DefD := ⟨("are_limits", none), "are_limits", "are_limits", defArgs s_are_limits, defBody s_are_limits, defScope s_are_limits, [], []⟩
def d_need_limits : He.DefD := ⟨("need_limits", none), "need_limits", "need_limits", defArgs s_need_limits, defBody s_need_limits, defScope s_need_limits, [], []⟩
def d_least_sums : He.DefD := ⟨("least_sums", none), "least_sums", "least_sums", defArgs s_least_sums, defBody s_least_sums, defScope s_least_sums, [], []⟩
def d_verdict : He.DefD := ⟨("verdict", none), "verdict", "verdict", defArgs s_verdict, defBody s_verdict, defScope s_verdict, [], []⟩
def d_need_row : He.DefD := ⟨("need_row", none), "need_row", "need_row", defArgs s_need_row, defBody s_need_row, defScope s_need_row, [], []⟩
def d_requests_in : He.DefD := ⟨("requests_in", none), "requests_in", "requests_in", defArgs s_requests_in, defBody s_requests_in, defScope s_requests_in, [], []⟩
def d_passed : He.DefD := ⟨("passed", none), "passed", "passed", defArgs s_passed, defBody s_passed, defScope s_passed, [], []⟩
def d_waits : He.DefD := ⟨("waits", none), "waits", "waits", defArgs s_waits, defBody s_waits, defScope s_waits, [], []⟩
def d_waiting : He.DefD := ⟨("waiting", none), "waiting", "waiting", defArgs s_waiting, defBody s_waiting, defScope s_waiting, [], []⟩
def d_next_through : He.DefD := ⟨("next_through", none), "next_through", "next_through", defArgs s_next_through, defBody s_next_through, defScope s_next_through, [], []⟩
def d_all_through : He.DefD := ⟨("all_through", none), "all_through", "all_through", defArgs s_all_through, defBody s_all_through, defScope s_all_through, [], []⟩
def d_ticks_of : He.DefD := ⟨("ticks_of", none), "ticks_of", "ticks_of", defArgs s_ticks_of, defBody s_ticks_of, defScope s_ticks_of, [], []⟩
def d__law_cell : He.DefD := ⟨("_law_cell", none), "_law_cell", "_law_cell", defArgs s__law_cell, defBody s__law_cell, defScope s__law_cell, [], []⟩
def d__law_pen : He.DefD := ⟨("_law_pen", none), "_law_pen", "_law_pen", defArgs s__law_pen, defBody s__law_pen, defScope s__law_pen, [], []⟩
def d__law_draw : He.DefD := ⟨("_law_draw", none), "_law_draw", "_law_draw", defArgs s__law_draw, defBody s__law_draw, defScope s__law_draw, [], []⟩
def d__law_pairs : He.DefD := ⟨("_law_pairs", none), "_law_pairs", "_law_pairs", defArgs s__law_pairs, defBody s__law_pairs, defScope s__law_pairs, [], []⟩
def d__law_limits : He.DefD := ⟨("_law_limits", none), "_law_limits", "_law_limits", defArgs s__law_limits, defBody s__law_limits, defScope s__law_limits, [], []⟩
def d__law_row : He.DefD := ⟨("_law_row", none), "_law_row", "_law_row", defArgs s__law_row, defBody s__law_row, defScope s__law_row, [], []⟩
def d__law_behind : He.DefD := ⟨("_law_behind", none), "_law_behind", "_law_behind", defArgs s__law_behind, defBody s__law_behind, defScope s__law_behind, [], []⟩
def d__law_bare : He.DefD := ⟨("_law_bare", none), "_law_bare", "_law_bare", defArgs s__law_bare, defBody s__law_bare, defScope s__law_bare, [], []⟩
def d__law_fair : He.DefD := ⟨("_law_fair", none), "_law_fair", "_law_fair", defArgs s__law_fair, defBody s__law_fair, defScope s__law_fair, [], []⟩
def d__law_right : He.DefD := ⟨("_law_right", none), "_law_right", "_law_right", defArgs s__law_right, defBody s__law_right, defScope s__law_right, [], []⟩
def d_law : He.DefD := ⟨("law", none), "law", "law", defArgs s_law, defBody s_law, defScope s_law, [], []⟩
def d_Limits___init__ : He.DefD := ⟨("Limits", some "__init__"), "__init__", "Limits.__init__", defArgs s_Limits___init__, defBody s_Limits___init__, defScope s_Limits___init__, [], []⟩
def d_Limits___call__ : He.DefD := ⟨("Limits", some "__call__"), "__call__", "Limits.__call__", defArgs s_Limits___call__, defBody s_Limits___call__, defScope s_Limits___call__, [], []⟩
def d_Limits___add__ : He.DefD := ⟨("Limits", some "__add__"), "__add__", "Limits.__add__", defArgs s_Limits___add__, defBody s_Limits___add__, defScope s_Limits___add__, [], []⟩
def d_Limits_pairs : He.DefD := ⟨("Limits", some "pairs"), "pairs", "Limits.pairs", defArgs s_Limits_pairs, defBody s_Limits_pairs, defScope s_Limits_pairs, [], []⟩
def d_Limits_single : He.DefD := ⟨("Limits", some "single"), "single", "Limits.single", defArgs s_Limits_single, defBody s_Limits_single, defScope s_Limits_single, [], []⟩
def d_Limits_is_limit : He.DefD := ⟨("Limits", some "is_limit"), "is_limit", "Limits.is_limit", defArgs s_Limits_is_limit, defBody s_Limits_is_limit, defScope s_Limits_is_limit, [], []⟩
def fnL : List He.DefD := [d_is_integer, d_is_between, d_is_row, d_are_limits, d_need_limits, d_least_sums, d_verdict, d_need_row, d_requests_in, d_passed, d_waits, d_waiting, d_next_through, d_all_through, d_ticks_of, d__law_cell, d__law_pen, d__law_draw, d__law_pairs, d__law_limits, d__law_row, d__law_behind, d__law_bare, d__law_fair, d__law_right, d_law, d_Limits___init__, d_Limits___call__, d_Limits___add__]
def pd : List PD := [(recA "property" "Limits" "pairs", d_Limits_pairs), (recA "classmethod" "Limits" "single", d_Limits_single), (recA "staticmethod" "Limits" "is_limit", d_Limits_is_limit)]
def fa : List He.Fa := ([.glo "is_integer", .glo "is_between", .glo "is_row", .glo "are_limits", .glo "need_limits", .glo "least_sums", .glo "verdict", .glo "need_row", .glo "requests_in", .glo "passed", .glo "waits", .glo "waiting", .glo "next_through", .glo "all_through", .glo "ticks_of", .glo "_law_cell", .glo "_law_pen", .glo "_law_draw", .glo "_law_pairs", .glo "_law_limits", .glo "_law_row", .glo "_law_behind", .glo "_law_bare", .glo "_law_fair", .glo "_law_right", .glo "law", .glo "Limits", .free "all", .free "bool", .free "enumerate"] : List He.Fa) ++ ([.free "int", .free "isinstance", .free "len", .free "list", .free "max", .free "min", .free "range", .free "set", .free "sum", .free "tuple", .free "zip", .int "GREATEST" 20, .int "LONGEST" 1000, .int "MOST_LIMITS" 6, .int "MOST_REQUESTS" 60, .noat "Limits" "held", .mkr "Limits", .meth "Limits" "__call__", .meth "Limits" "__add__"] : List He.Fa)
def ex (K : PySem.W.Frag) : Bool := (insB "Limits" K && (rdB "Limits" K && (isiB "Limits" K && (PySem.W.selfFirst K (He.ga K "Limits") && (prpB "Limits" "pairs" K && ((smB "classmethod" "classmethod.__get__" "Limits" "single" K && PySem.W.fnIn K (recA "classmethod" "Limits" "single" K)) && (smB "staticmethod" "staticmethod.__get__" "Limits" "is_limit" K && (PySem.W.fnIn K (He.ma K (He.ga K "Limits") "__call__") && PySem.W.fnIn K (He.ma K (He.ga K "Limits") "__add__")))))))))
def loose : List PySem.Str := (["MOST_REQUESTS", "is_integer", "is_between", "is_row", "BurstError", "NoLimit", "NoLimits", "NoRow", "NoNumber", "NoLength", "NoText", "TooMany", "GREATEST", "MOST_LIMITS", "LONGEST", "Limits", "are_limits", "need_limits", "least_sums", "told_limits", "told_limit", "verdict", "need_row", "requests_in", "passed", "waits", "waiting", "next_through", "all_through", "ticks_of"] : List PySem.Str) ++ (["_law_cell", "_law_pen", "_law_draw", "_law_pairs", "_law_limits", "_law_row", "_law_behind", "_law_bare", "_law_fair", "_law_right"] : List PySem.Str)
abbrev R : PySem.W.OpenRow := PySem.W.OpenLaw.row PySem.Challenge.rw_burstlimits_k45_whole_gates_one_behind_t
abbrev hk : PySem.W.Hook := hookF 7 fa fnL ex pd
def ob (s : PySem.W.SharedT) : AlF := obsFG 7 fa fnL ex pd (HandSHeadRun.getT s)
theorem ob_eq (s : PySem.W.SharedT) : ob s = hk.obs s.abs := obsFG_eq (HandSHeadRun.getT_eq s)
theorem run (w : World) : HandSHeadRun.RunEq R (PySem.W.view R.prog [46]) hk ob 9000 loose w := by
  intro os
  kernel_rfl
theorem facts {Pg : Program} {wd : World} {K : PySem.W.Frag} {mg : Str → Option Value} {h : Heap} (X : K.In h) (G : h.Ns mainGlobals mg) (c : SaysF fa fnL ex pd K) (base : Heap) : FnX true Pg wd K mg base 12 (He.ga K "law") (spF (pm K) 1 (m_law ((pm K).ca 0))) := by
  have e0 := c.ex
  obtain ⟨x_ins, e0⟩ := He.ba e0
  obtain ⟨x_rd, e0⟩ := He.ba e0
  obtain ⟨x_isi, e0⟩ := He.ba e0
  obtain ⟨x_sf, e0⟩ := He.ba e0
  obtain ⟨x_Limits_pairs, e0⟩ := He.ba e0
  obtain ⟨x_Limits_single, e0⟩ := He.ba e0
  obtain ⟨x_Limits_is_limit, e0⟩ := He.ba e0
  obtain ⟨x_fn_Limits___call__, e0⟩ := He.ba e0
  have x_fn_Limits___add__ := e0
  have Z : Bi K mg := {
    g_Limits := He.glo_ok X G (c.d.fact 26 (f := .glo "Limits") rfl)
    f_held := fun c1 hc => by
      obtain rfl := List.mem_singleton.mp hc
      have e := He.noat_ok (c.d.fact 45 (f := .noat "Limits" "held") rfl)
      exact e
    n_all := He.free_ok X G (c.d.fact 27 (f := .free "all") rfl)
    n_bool := He.free_ok X G (c.d.fact 28 (f := .free "bool") rfl)
    n_enumerate := He.free_ok X G (c.d.fact 29 (f := .free "enumerate") rfl)
    n_int := He.free_ok X G (c.d.fact 30 (f := .free "int") rfl)
    n_isinstance := He.free_ok X G (c.d.fact 31 (f := .free "isinstance") rfl)
    n_len := He.free_ok X G (c.d.fact 32 (f := .free "len") rfl)
    n_list := He.free_ok X G (c.d.fact 33 (f := .free "list") rfl)
    n_max := He.free_ok X G (c.d.fact 34 (f := .free "max") rfl)
    n_min := He.free_ok X G (c.d.fact 35 (f := .free "min") rfl)
    n_range := He.free_ok X G (c.d.fact 36 (f := .free "range") rfl)
    n_set := He.free_ok X G (c.d.fact 37 (f := .free "set") rfl)
    n_sum := He.free_ok X G (c.d.fact 38 (f := .free "sum") rfl)
    n_tuple := He.free_ok X G (c.d.fact 39 (f := .free "tuple") rfl)
    n_zip := He.free_ok X G (c.d.fact 40 (f := .free "zip") rfl)
    i_GREATEST := He.int_ok X G (c.d.fact 41 (f := .int "GREATEST" 20) rfl)
    i_LONGEST := He.int_ok X G (c.d.fact 42 (f := .int "LONGEST" 1000) rfl)
    i_MOST_LIMITS := He.int_ok X G (c.d.fact 43 (f := .int "MOST_LIMITS" 6) rfl)
    i_MOST_REQUESTS := He.int_ok X G (c.d.fact 44 (f := .int "MOST_REQUESTS" 60) rfl)
    isi := isiB_ok x_isi
    sfst := x_sf
  }
  obtain ⟨fd_is_integer, F_is_integer⟩ := c.d.def_ 0 (d := d_is_integer) rfl
  have b_is_integer : ∀ us : List Value, us.length = 1 → ∀ s, BindsTo s fd_is_integer ⟨us, []⟩ ((["thing"] : List Str).zip us) := fun us hl s => L2.FunD.bindsA (ps := ["thing"]) F_is_integer (fun _ _ _ _ _ _ us hl => match us, hl with | [_], _ => rfl) s us hl
  have hf_is_integer : Cw false Pg wd K mg base "is_integer" 1 1 m_is_integer := ⟨⟨_, ok_is_integer (g := false) Z F_is_integer  b_is_integer, He.glo_ok X G (c.d.fact 0 (f := .glo "is_integer") rfl), F_is_integer.kp⟩, fun ds h e => fn_ar ds h e⟩
  have ht_is_integer : Cw true Pg wd K mg base "is_integer" 1 1 m_is_integer := ⟨⟨_, ok_is_integer (g := true) Z F_is_integer  b_is_integer, He.glo_ok X G (c.d.fact 0 (f := .glo "is_integer") rfl), F_is_integer.kp⟩, fun ds h e => fn_ar ds h e⟩
  obtain ⟨fd_need_limits, F_need_limits⟩ := c.d.def_ 4 (d := d_need_limits) rfl
  have b_need_limits : ∀ us : List Value, us.length = 1 → ∀ s, BindsTo s fd_need_limits ⟨us, []⟩ ((["limits"] : List Str).zip us) := fun us hl s => L2.FunD.bindsA (ps := ["limits"]) F_need_limits (fun _ _ _ _ _ _ us hl => match us, hl with | [_], _ => rfl) s us hl
  have hf_need_limits : Cw false Pg wd K mg base "need_limits" 1 1 m_need_limits := ⟨⟨_, ok_need_limits (g := false) Z F_need_limits  b_need_limits, He.glo_ok X G (c.d.fact 4 (f := .glo "need_limits") rfl), F_need_limits.kp⟩, fun ds h e => fn_ar ds h e⟩
  have ht_need_limits : Cw true Pg wd K mg base "need_limits" 1 1 m_need_limits := ⟨⟨_, ok_need_limits (g := true) Z F_need_limits  b_need_limits, He.glo_ok X G (c.d.fact 4 (f := .glo "need_limits") rfl), F_need_limits.kp⟩, fun ds h e => fn_ar ds h e⟩
  obtain ⟨fd_least_sums, F_least_sums⟩ := c.d.def_ 5 (d := d_least_sums) rfl
  have b_least_sums : ∀ us : List Value, us.length = 2 → ∀ s, BindsTo s fd_least_sums ⟨us, []⟩ ((["pairs", "longest"] : List Str).zip us) := fun us hl s => L2.FunD.bindsA (ps := ["pairs", "longest"]) F_least_sums (fun _ _ _ _ _ _ us hl => match us, hl with | [_, _], _ => rfl) s us hl
  have hf_least_sums : Cw false Pg wd K mg base "least_sums" 1 2 m_least_sums := ⟨⟨_, ok_least_sums (g := false) Z F_least_sums  b_least_sums, He.glo_ok X G (c.d.fact 5 (f := .glo "least_sums") rfl), F_least_sums.kp⟩, fun ds h e => fn_ar ds h e⟩
  have ht_least_sums : Cw true Pg wd K mg base "least_sums" 1 2 m_least_sums := ⟨⟨_, ok_least_sums (g := true) Z F_least_sums  b_least_sums, He.glo_ok X G (c.d.fact 5 (f := .glo "least_sums") rfl), F_least_sums.kp⟩, fun ds h e => fn_ar ds h e⟩
  obtain ⟨fd_requests_in, F_requests_in⟩ := c.d.def_ 8 (d := d_requests_in) rfl
  have b_requests_in : ∀ us : List Value, us.length = 3 → ∀ s, BindsTo s fd_requests_in ⟨us, []⟩ ((["row", "start", "length"] : List Str).zip us) := fun us hl s => L2.FunD.bindsA (ps := ["row", "start", "length"]) F_requests_in (fun _ _ _ _ _ _ us hl => match us, hl with | [_, _, _], _ => rfl) s us hl
  have hf_requests_in : Cw false Pg wd K mg base "requests_in" 1 3 m_requests_in := ⟨⟨_, ok_requests_in (g := false) Z F_requests_in  b_requests_in, He.glo_ok X G (c.d.fact 8 (f := .glo "requests_in") rfl), F_requests_in.kp⟩, fun ds h e => fn_ar ds h e⟩
  have ht_requests_in : Cw true Pg wd K mg base "requests_in" 1 3 m_requests_in := ⟨⟨_, ok_requests_in (g := true) Z F_requests_in  b_requests_in, He.glo_ok X G (c.d.fact 8 (f := .glo "requests_in") rfl), F_requests_in.kp⟩, fun ds h e => fn_ar ds h e⟩
  obtain ⟨fd_next_through, F_next_through⟩ := c.d.def_ 12 (d := d_next_through) rfl
  have b_next_through : ∀ us : List Value, us.length = 3 → ∀ s, BindsTo s fd_next_through ⟨us, []⟩ ((["pairs", "gone", "held"] : List Str).zip us) := fun us hl s => L2.FunD.bindsA (ps := ["pairs", "gone", "held"]) F_next_through (fun _ _ _ _ _ _ us hl => match us, hl with | [_, _, _], _ => rfl) s us hl
  have hf_next_through : Cw false Pg wd K mg base "next_through" 1 3 m_next_through := ⟨⟨_, ok_next_through (g := false) Z F_next_through  b_next_through, He.glo_ok X G (c.d.fact 12 (f := .glo "next_through") rfl), F_next_through.kp⟩, fun ds h e => fn_ar ds h e⟩
  have ht_next_through : Cw true Pg wd K mg base "next_through" 1 3 m_next_through := ⟨⟨_, ok_next_through (g := true) Z F_next_through  b_next_through, He.glo_ok X G (c.d.fact 12 (f := .glo "next_through") rfl), F_next_through.kp⟩, fun ds h e => fn_ar ds h e⟩
  obtain ⟨fd_ticks_of, F_ticks_of⟩ := c.d.def_ 14 (d := d_ticks_of) rfl
  have b_ticks_of : ∀ us : List Value, us.length = 1 → ∀ s, BindsTo s fd_ticks_of ⟨us, []⟩ ((["row"] : List Str).zip us) := fun us hl s => L2.FunD.bindsA (ps := ["row"]) F_ticks_of (fun _ _ _ _ _ _ us hl => match us, hl with | [_], _ => rfl) s us hl
  have hf_ticks_of : Cw false Pg wd K mg base "ticks_of" 1 1 m_ticks_of := ⟨⟨_, ok_ticks_of (g := false) Z F_ticks_of  b_ticks_of, He.glo_ok X G (c.d.fact 14 (f := .glo "ticks_of") rfl), F_ticks_of.kp⟩, fun ds h e => fn_ar ds h e⟩
  have ht_ticks_of : Cw true Pg wd K mg base "ticks_of" 1 1 m_ticks_of := ⟨⟨_, ok_ticks_of (g := true) Z F_ticks_of  b_ticks_of, He.glo_ok X G (c.d.fact 14 (f := .glo "ticks_of") rfl), F_ticks_of.kp⟩, fun ds h e => fn_ar ds h e⟩
  obtain ⟨fd__law_cell, F__law_cell⟩ := c.d.def_ 15 (d := d__law_cell) rfl
  have b__law_cell : ∀ us : List Value, us.length = 2 → ∀ s, BindsTo s fd__law_cell ⟨us, []⟩ ((["_law_script", "_law_k"] : List Str).zip us) := fun us hl s => L2.FunD.bindsA (ps := ["_law_script", "_law_k"]) F__law_cell (fun _ _ _ _ _ _ us hl => match us, hl with | [_, _], _ => rfl) s us hl
  have hf__law_cell : Cw false Pg wd K mg base "_law_cell" 1 2 m__law_cell := ⟨⟨_, ok__law_cell (g := false) Z F__law_cell  b__law_cell, He.glo_ok X G (c.d.fact 15 (f := .glo "_law_cell") rfl), F__law_cell.kp⟩, fun ds h e => fn_ar ds h e⟩
  have ht__law_cell : Cw true Pg wd K mg base "_law_cell" 1 2 m__law_cell := ⟨⟨_, ok__law_cell (g := true) Z F__law_cell  b__law_cell, He.glo_ok X G (c.d.fact 15 (f := .glo "_law_cell") rfl), F__law_cell.kp⟩, fun ds h e => fn_ar ds h e⟩
  obtain ⟨fd__law_pen, F__law_pen⟩ := c.d.def_ 16 (d := d__law_pen) rfl
  have b__law_pen : ∀ us : List Value, us.length = 1 → ∀ s, BindsTo s fd__law_pen ⟨us, []⟩ ((["_law_cell_here"] : List Str).zip us) := fun us hl s => L2.FunD.bindsA (ps := ["_law_cell_here"]) F__law_pen (fun _ _ _ _ _ _ us hl => match us, hl with | [_], _ => rfl) s us hl
  have hf__law_pen : Cw false Pg wd K mg base "_law_pen" 1 1 m__law_pen := ⟨⟨_, ok__law_pen (g := false) Z F__law_pen  b__law_pen, He.glo_ok X G (c.d.fact 16 (f := .glo "_law_pen") rfl), F__law_pen.kp⟩, fun ds h e => fn_ar ds h e⟩
  have ht__law_pen : Cw true Pg wd K mg base "_law_pen" 1 1 m__law_pen := ⟨⟨_, ok__law_pen (g := true) Z F__law_pen  b__law_pen, He.glo_ok X G (c.d.fact 16 (f := .glo "_law_pen") rfl), F__law_pen.kp⟩, fun ds h e => fn_ar ds h e⟩
  obtain ⟨fd__law_draw, F__law_draw⟩ := c.d.def_ 17 (d := d__law_draw) rfl
  have b__law_draw : ∀ us : List Value, us.length = 2 → ∀ s, BindsTo s fd__law_draw ⟨us, []⟩ ((["_law_pen_here", "_law_count"] : List Str).zip us) := fun us hl s => L2.FunD.bindsA (ps := ["_law_pen_here", "_law_count"]) F__law_draw (fun _ _ _ _ _ _ us hl => match us, hl with | [_, _], _ => rfl) s us hl
  have hf__law_draw : Cw false Pg wd K mg base "_law_draw" 1 2 m__law_draw := ⟨⟨_, ok__law_draw (g := false) Z F__law_draw  b__law_draw, He.glo_ok X G (c.d.fact 17 (f := .glo "_law_draw") rfl), F__law_draw.kp⟩, fun ds h e => fn_ar ds h e⟩
  have ht__law_draw : Cw true Pg wd K mg base "_law_draw" 1 2 m__law_draw := ⟨⟨_, ok__law_draw (g := true) Z F__law_draw  b__law_draw, He.glo_ok X G (c.d.fact 17 (f := .glo "_law_draw") rfl), F__law_draw.kp⟩, fun ds h e => fn_ar ds h e⟩
  obtain ⟨fd__law_behind, F__law_behind⟩ := c.d.def_ 21 (d := d__law_behind) rfl
  have b__law_behind : ∀ us : List Value, us.length = 2 → ∀ s, BindsTo s fd__law_behind ⟨us, []⟩ ((["_law_one", "_law_other"] : List Str).zip us) := fun us hl s => L2.FunD.bindsA (ps := ["_law_one", "_law_other"]) F__law_behind (fun _ _ _ _ _ _ us hl => match us, hl with | [_, _], _ => rfl) s us hl
  have hf__law_behind : Cw false Pg wd K mg base "_law_behind" 1 2 m__law_behind := ⟨⟨_, ok__law_behind (g := false) Z F__law_behind  b__law_behind, He.glo_ok X G (c.d.fact 21 (f := .glo "_law_behind") rfl), F__law_behind.kp⟩, fun ds h e => fn_ar ds h e⟩
  have ht__law_behind : Cw true Pg wd K mg base "_law_behind" 1 2 m__law_behind := ⟨⟨_, ok__law_behind (g := true) Z F__law_behind  b__law_behind, He.glo_ok X G (c.d.fact 21 (f := .glo "_law_behind") rfl), F__law_behind.kp⟩, fun ds h e => fn_ar ds h e⟩
  obtain ⟨fd__law_bare, F__law_bare⟩ := c.d.def_ 22 (d := d__law_bare) rfl
  have b__law_bare : ∀ us : List Value, us.length = 1 → ∀ s, BindsTo s fd__law_bare ⟨us, []⟩ ((["_law_row_here"] : List Str).zip us) := fun us hl s => L2.FunD.bindsA (ps := ["_law_row_here"]) F__law_bare (fun _ _ _ _ _ _ us hl => match us, hl with | [_], _ => rfl) s us hl
  have hf__law_bare : Cw false Pg wd K mg base "_law_bare" 1 1 m__law_bare := ⟨⟨_, ok__law_bare (g := false) Z F__law_bare  b__law_bare, He.glo_ok X G (c.d.fact 22 (f := .glo "_law_bare") rfl), F__law_bare.kp⟩, fun ds h e => fn_ar ds h e⟩
  have ht__law_bare : Cw true Pg wd K mg base "_law_bare" 1 1 m__law_bare := ⟨⟨_, ok__law_bare (g := true) Z F__law_bare  b__law_bare, He.glo_ok X G (c.d.fact 22 (f := .glo "_law_bare") rfl), F__law_bare.kp⟩, fun ds h e => fn_ar ds h e⟩
  obtain ⟨fd_Limits_pairs, F_Limits_pairs⟩ := c.at_ 0 (q := (recA "property" "Limits" "pairs", d_Limits_pairs)) rfl
  have b_Limits_pairs : ∀ us : List Value, us.length = 1 → ∀ s, BindsTo s fd_Limits_pairs ⟨us, []⟩ ((["self"] : List Str).zip us) := fun us hl s => L2.FunD.bindsA (ps := ["self"]) F_Limits_pairs (fun _ _ _ _ _ _ us hl => match us, hl with | [_], _ => rfl) s us hl
  have h_Limits_pairs : Pw Pg wd K mg base "pairs" 1 m_Limits_pairs := ⟨_, _, prpB_ok x_Limits_pairs, (ok_Limits_pairs (g := false) Z F_Limits_pairs  b_Limits_pairs).free fun ds h e => fn_ar ds h e⟩
  obtain ⟨fd_is_between, F_is_between⟩ := c.d.def_ 1 (d := d_is_between) rfl
  have b_is_between : ∀ us : List Value, us.length = 3 → ∀ s, BindsTo s fd_is_between ⟨us, []⟩ ((["thing", "least", "greatest"] : List Str).zip us) := fun us hl s => L2.FunD.bindsA (ps := ["thing", "least", "greatest"]) F_is_between (fun _ _ _ _ _ _ us hl => match us, hl with | [_, _, _], _ => rfl) s us hl
  have hf_is_between : Cw false Pg wd K mg base "is_between" 2 3 m_is_between := ⟨⟨_, ok_is_between (g := false) Z F_is_between hf_is_integer b_is_between, He.glo_ok X G (c.d.fact 1 (f := .glo "is_between") rfl), F_is_between.kp⟩, fun ds h e => fn_ar ds h e⟩
  have ht_is_between : Cw true Pg wd K mg base "is_between" 2 3 m_is_between := ⟨⟨_, ok_is_between (g := true) Z F_is_between ht_is_integer b_is_between, He.glo_ok X G (c.d.fact 1 (f := .glo "is_between") rfl), F_is_between.kp⟩, fun ds h e => fn_ar ds h e⟩
  obtain ⟨fd_all_through, F_all_through⟩ := c.d.def_ 13 (d := d_all_through) rfl
  have b_all_through : ∀ us : List Value, us.length = 4 → ∀ s, BindsTo s fd_all_through ⟨us, []⟩ ((["pairs", "ahead", "held", "row"] : List Str).zip us) := fun us hl s => L2.FunD.bindsA (ps := ["pairs", "ahead", "held", "row"]) F_all_through (fun _ _ _ _ _ _ us hl => match us, hl with | [_, _, _, _], _ => rfl) s us hl
  have hf_all_through : Cw false Pg wd K mg base "all_through" 2 4 m_all_through := ⟨⟨_, ok_all_through (g := false) Z F_all_through hf_next_through hf_requests_in b_all_through, He.glo_ok X G (c.d.fact 13 (f := .glo "all_through") rfl), F_all_through.kp⟩, fun ds h e => fn_ar ds h e⟩
  have ht_all_through : Cw true Pg wd K mg base "all_through" 2 4 m_all_through := ⟨⟨_, ok_all_through (g := true) Z F_all_through ht_next_through ht_requests_in b_all_through, He.glo_ok X G (c.d.fact 13 (f := .glo "all_through") rfl), F_all_through.kp⟩, fun ds h e => fn_ar ds h e⟩
  obtain ⟨fd__law_pairs, F__law_pairs⟩ := c.d.def_ 18 (d := d__law_pairs) rfl
  have b__law_pairs : ∀ us : List Value, us.length = 2 → ∀ s, BindsTo s fd__law_pairs ⟨us, []⟩ ((["_law_pen_here", "_law_most"] : List Str).zip us) := fun us hl s => L2.FunD.bindsA (ps := ["_law_pen_here", "_law_most"]) F__law_pairs (fun _ _ _ _ _ _ us hl => match us, hl with | [_, _], _ => rfl) s us hl
  have hf__law_pairs : Cw false Pg wd K mg base "_law_pairs" 2 2 m__law_pairs := ⟨⟨_, ok__law_pairs (g := false) Z F__law_pairs hf__law_draw b__law_pairs, He.glo_ok X G (c.d.fact 18 (f := .glo "_law_pairs") rfl), F__law_pairs.kp⟩, fun ds h e => fn_ar ds h e⟩
  have ht__law_pairs : Cw true Pg wd K mg base "_law_pairs" 2 2 m__law_pairs := ⟨⟨_, ok__law_pairs (g := true) Z F__law_pairs ht__law_draw b__law_pairs, He.glo_ok X G (c.d.fact 18 (f := .glo "_law_pairs") rfl), F__law_pairs.kp⟩, fun ds h e => fn_ar ds h e⟩
  obtain ⟨fd__law_row, F__law_row⟩ := c.d.def_ 20 (d := d__law_row) rfl
  have b__law_row : ∀ us : List Value, us.length = 2 → ∀ s, BindsTo s fd__law_row ⟨us, []⟩ ((["_law_pen_here", "_law_size"] : List Str).zip us) := fun us hl s => L2.FunD.bindsA (ps := ["_law_pen_here", "_law_size"]) F__law_row (fun _ _ _ _ _ _ us hl => match us, hl with | [_, _], _ => rfl) s us hl
  have hf__law_row : Cw false Pg wd K mg base "_law_row" 2 2 m__law_row := ⟨⟨_, ok__law_row (g := false) Z F__law_row hf__law_draw b__law_row, He.glo_ok X G (c.d.fact 20 (f := .glo "_law_row") rfl), F__law_row.kp⟩, fun ds h e => fn_ar ds h e⟩
  have ht__law_row : Cw true Pg wd K mg base "_law_row" 2 2 m__law_row := ⟨⟨_, ok__law_row (g := true) Z F__law_row ht__law_draw b__law_row, He.glo_ok X G (c.d.fact 20 (f := .glo "_law_row") rfl), F__law_row.kp⟩, fun ds h e => fn_ar ds h e⟩
  obtain ⟨fd_is_row, F_is_row⟩ := c.d.def_ 2 (d := d_is_row) rfl
  have b_is_row : ∀ us : List Value, us.length = 1 → ∀ s, BindsTo s fd_is_row ⟨us, []⟩ ((["thing"] : List Str).zip us) := fun us hl s => L2.FunD.bindsA (ps := ["thing"]) F_is_row (fun _ _ _ _ _ _ us hl => match us, hl with | [_], _ => rfl) s us hl
  have hf_is_row : Cw false Pg wd K mg base "is_row" 3 1 m_is_row := ⟨⟨_, ok_is_row (g := false) Z F_is_row hf_is_between b_is_row, He.glo_ok X G (c.d.fact 2 (f := .glo "is_row") rfl), F_is_row.kp⟩, fun ds h e => fn_ar ds h e⟩
  have ht_is_row : Cw true Pg wd K mg base "is_row" 3 1 m_is_row := ⟨⟨_, ok_is_row (g := true) Z F_is_row ht_is_between b_is_row, He.glo_ok X G (c.d.fact 2 (f := .glo "is_row") rfl), F_is_row.kp⟩, fun ds h e => fn_ar ds h e⟩
  obtain ⟨fd_Limits___call__, F_Limits___call__⟩ := c.d.def_ 27 (d := d_Limits___call__) rfl
  have b_Limits___call__ : ∀ us : List Value, us.length = 2 → ∀ s, BindsTo s fd_Limits___call__ ⟨us, []⟩ ((["self", "length"] : List Str).zip us) := fun us hl s => L2.FunD.bindsA (ps := ["self", "length"]) F_Limits___call__ (fun _ _ _ _ _ _ us hl => match us, hl with | [_, _], _ => rfl) s us hl
  have e_Limits___call__ := He.meth_ok (c.d.fact 47 (f := .meth "Limits" "__call__") rfl)
  have h_Limits___call__ : Dw Pg wd K mg base 0 "__call__" 3 m_Limits___call__ := ⟨_, (ok_Limits___call__ (g := false) Z F_Limits___call__ hf_is_between hf_least_sums b_Limits___call__).free fun ds h e => fn_ar ds h e, e_Limits___call__.at_, e_Limits___call__.fn, x_fn_Limits___call__, e_Limits___call__.kp⟩
  obtain ⟨fd_Limits_is_limit, F_Limits_is_limit⟩ := c.at_ 2 (q := (recA "staticmethod" "Limits" "is_limit", d_Limits_is_limit)) rfl
  have b_Limits_is_limit : ∀ us : List Value, us.length = 1 → ∀ s, BindsTo s fd_Limits_is_limit ⟨us, []⟩ ((["thing"] : List Str).zip us) := fun us hl s => L2.FunD.bindsA (ps := ["thing"]) F_Limits_is_limit (fun _ _ _ _ _ _ us hl => match us, hl with | [_], _ => rfl) s us hl
  obtain ⟨y_Limits_is_limit, r_Limits_is_limit, z_Limits_is_limit⟩ := smB_ok x_Limits_is_limit
  have h_Limits_is_limit : Sw Pg wd K mg base "is_limit" 3 m_Limits_is_limit := ⟨_, _, _, r_Limits_is_limit, (ok_Limits_is_limit (g := false) Z F_Limits_is_limit hf_is_between b_Limits_is_limit).free fun ds h e => fn_ar ds h e, rdB_ok x_rd, y_Limits_is_limit, z_Limits_is_limit, F_Limits_is_limit.kp⟩
  obtain ⟨fd_are_limits, F_are_limits⟩ := c.d.def_ 3 (d := d_are_limits) rfl
  have b_are_limits : ∀ us : List Value, us.length = 1 → ∀ s, BindsTo s fd_are_limits ⟨us, []⟩ ((["pairs"] : List Str).zip us) := fun us hl s => L2.FunD.bindsA (ps := ["pairs"]) F_are_limits (fun _ _ _ _ _ _ us hl => match us, hl with | [_], _ => rfl) s us hl
  have hf_are_limits : Cw false Pg wd K mg base "are_limits" 4 1 m_are_limits := ⟨⟨_, ok_are_limits (g := false) Z F_are_limits h_Limits_is_limit b_are_limits, He.glo_ok X G (c.d.fact 3 (f := .glo "are_limits") rfl), F_are_limits.kp⟩, fun ds h e => fn_ar ds h e⟩
  have ht_are_limits : Cw true Pg wd K mg base "are_limits" 4 1 m_are_limits := ⟨⟨_, ok_are_limits (g := true) Z F_are_limits h_Limits_is_limit b_are_limits, He.glo_ok X G (c.d.fact 3 (f := .glo "are_limits") rfl), F_are_limits.kp⟩, fun ds h e => fn_ar ds h e⟩
  obtain ⟨fd_need_row, F_need_row⟩ := c.d.def_ 7 (d := d_need_row) rfl
  have b_need_row : ∀ us : List Value, us.length = 1 → ∀ s, BindsTo s fd_need_row ⟨us, []⟩ ((["row"] : List Str).zip us) := fun us hl s => L2.FunD.bindsA (ps := ["row"]) F_need_row (fun _ _ _ _ _ _ us hl => match us, hl with | [_], _ => rfl) s us hl
  have hf_need_row : Cw false Pg wd K mg base "need_row" 4 1 m_need_row := ⟨⟨_, ok_need_row (g := false) Z F_need_row hf_is_row b_need_row, He.glo_ok X G (c.d.fact 7 (f := .glo "need_row") rfl), F_need_row.kp⟩, fun ds h e => fn_ar ds h e⟩
  have ht_need_row : Cw true Pg wd K mg base "need_row" 4 1 m_need_row := ⟨⟨_, ok_need_row (g := true) Z F_need_row ht_is_row b_need_row, He.glo_ok X G (c.d.fact 7 (f := .glo "need_row") rfl), F_need_row.kp⟩, fun ds h e => fn_ar ds h e⟩
  obtain ⟨fd_verdict, F_verdict⟩ := c.d.def_ 6 (d := d_verdict) rfl
  have b_verdict : ∀ us : List Value, us.length = 2 → ∀ s, BindsTo s fd_verdict ⟨us, []⟩ ((["limits", "row"] : List Str).zip us) := fun us hl s => L2.FunD.bindsA (ps := ["limits", "row"]) F_verdict (fun _ _ _ _ _ _ us hl => match us, hl with | [_, _], _ => rfl) s us hl
  have hf_verdict : Cw false Pg wd K mg base "verdict" 5 2 m_verdict := ⟨⟨_, ok_verdict (g := false) Z F_verdict hf_need_limits hf_need_row hf_requests_in h_Limits_pairs b_verdict, He.glo_ok X G (c.d.fact 6 (f := .glo "verdict") rfl), F_verdict.kp⟩, fun ds h e => fn_ar ds h e⟩
  have ht_verdict : Cw true Pg wd K mg base "verdict" 5 2 m_verdict := ⟨⟨_, ok_verdict (g := true) Z F_verdict ht_need_limits ht_need_row ht_requests_in h_Limits_pairs b_verdict, He.glo_ok X G (c.d.fact 6 (f := .glo "verdict") rfl), F_verdict.kp⟩, fun ds h e => fn_ar ds h e⟩
  obtain ⟨fd_passed, F_passed⟩ := c.d.def_ 9 (d := d_passed) rfl
  have b_passed : ∀ us : List Value, us.length = 2 → ∀ s, BindsTo s fd_passed ⟨us, []⟩ ((["limits", "row"] : List Str).zip us) := fun us hl s => L2.FunD.bindsA (ps := ["limits", "row"]) F_passed (fun _ _ _ _ _ _ us hl => match us, hl with | [_, _], _ => rfl) s us hl
  have hf_passed : Cw false Pg wd K mg base "passed" 5 2 m_passed := ⟨⟨_, ok_passed (g := false) Z F_passed hf_all_through hf_need_limits hf_need_row h_Limits_pairs b_passed, He.glo_ok X G (c.d.fact 9 (f := .glo "passed") rfl), F_passed.kp⟩, fun ds h e => fn_ar ds h e⟩
  have ht_passed : Cw true Pg wd K mg base "passed" 5 2 m_passed := ⟨⟨_, ok_passed (g := true) Z F_passed ht_all_through ht_need_limits ht_need_row h_Limits_pairs b_passed, He.glo_ok X G (c.d.fact 9 (f := .glo "passed") rfl), F_passed.kp⟩, fun ds h e => fn_ar ds h e⟩
  obtain ⟨fd_Limits___init__, F_Limits___init__⟩ := c.d.def_ 26 (d := d_Limits___init__) rfl
  have h_Limits___init__ : Mw Pg wd K mg base 0 5 m_Limits___init__ := ⟨⟨_, ok_Limits___init__ Z F_Limits___init__ hf_are_limits, He.mkr_ok (c.d.fact 46 (f := .mkr "Limits") rfl)⟩, insB_ok x_ins⟩
  obtain ⟨fd_waits, F_waits⟩ := c.d.def_ 10 (d := d_waits) rfl
  have b_waits : ∀ us : List Value, us.length = 2 → ∀ s, BindsTo s fd_waits ⟨us, []⟩ ((["limits", "row"] : List Str).zip us) := fun us hl s => L2.FunD.bindsA (ps := ["limits", "row"]) F_waits (fun _ _ _ _ _ _ us hl => match us, hl with | [_, _], _ => rfl) s us hl
  have hf_waits : Cw false Pg wd K mg base "waits" 6 2 m_waits := ⟨⟨_, ok_waits (g := false) Z F_waits hf_passed hf_ticks_of b_waits, He.glo_ok X G (c.d.fact 10 (f := .glo "waits") rfl), F_waits.kp⟩, fun ds h e => fn_ar ds h e⟩
  have ht_waits : Cw true Pg wd K mg base "waits" 6 2 m_waits := ⟨⟨_, ok_waits (g := true) Z F_waits ht_passed ht_ticks_of b_waits, He.glo_ok X G (c.d.fact 10 (f := .glo "waits") rfl), F_waits.kp⟩, fun ds h e => fn_ar ds h e⟩
  obtain ⟨fd_waiting, F_waiting⟩ := c.d.def_ 11 (d := d_waiting) rfl
  have b_waiting : ∀ us : List Value, us.length = 2 → ∀ s, BindsTo s fd_waiting ⟨us, []⟩ ((["limits", "row"] : List Str).zip us) := fun us hl s => L2.FunD.bindsA (ps := ["limits", "row"]) F_waiting (fun _ _ _ _ _ _ us hl => match us, hl with | [_, _], _ => rfl) s us hl
  have hg_waiting : Gw Pg wd K mg base "waiting" 6 2 m_waiting := ⟨⟨_, _, _, ok_waiting Z F_waiting hf_passed hf_requests_in, He.glo_ok X G (c.d.fact 11 (f := .glo "waiting") rfl), F_waiting.kp, L2.FunD.bindsN F_waiting (fun _ _ _ _ _ _ us hl => match us, hl with | [_, _], _ => rfl)⟩, fnG_ar⟩
  obtain ⟨fd_Limits___add__, F_Limits___add__⟩ := c.d.def_ 28 (d := d_Limits___add__) rfl
  have b_Limits___add__ : ∀ us : List Value, us.length = 2 → ∀ s, BindsTo s fd_Limits___add__ ⟨us, []⟩ ((["self", "other"] : List Str).zip us) := fun us hl s => L2.FunD.bindsA (ps := ["self", "other"]) F_Limits___add__ (fun _ _ _ _ _ _ us hl => match us, hl with | [_, _], _ => rfl) s us hl
  have e_Limits___add__ := He.meth_ok (c.d.fact 48 (f := .meth "Limits" "__add__") rfl)
  have h_Limits___add__ : Dw Pg wd K mg base 0 "__add__" 7 m_Limits___add__ := ⟨_, (ok_Limits___add__ (g := false) Z F_Limits___add__ h_Limits___init__ b_Limits___add__).free fun ds h e => fn_ar ds h e, e_Limits___add__.at_, e_Limits___add__.fn, x_fn_Limits___add__, e_Limits___add__.kp⟩
  obtain ⟨fd_Limits_single, F_Limits_single⟩ := c.at_ 1 (q := (recA "classmethod" "Limits" "single", d_Limits_single)) rfl
  have b_Limits_single : ∀ us : List Value, us.length = 3 → ∀ s, BindsTo s fd_Limits_single ⟨us, []⟩ ((["cls", "length", "most"] : List Str).zip us) := fun us hl s => L2.FunD.bindsA (ps := ["cls", "length", "most"]) F_Limits_single (fun _ _ _ _ _ _ us hl => match us, hl with | [_, _, _], _ => rfl) s us hl
  obtain ⟨u_Limits_single, v_Limits_single⟩ := He.ba x_Limits_single
  obtain ⟨y_Limits_single, r_Limits_single, z_Limits_single⟩ := smB_ok u_Limits_single
  have h_Limits_single : Kw Pg wd K mg base "single" 7 (m_Limits_single ((pm K).ca 0)) := ⟨_, _, _, (ok_Limits_single (g := false) Z F_Limits_single h_Limits___init__ b_Limits_single).free fun ds h e => fn_ar ds h e, rdB_ok x_rd, ⟨y_Limits_single, ⟨r_Limits_single, z_Limits_single⟩, v_Limits_single⟩⟩
  obtain ⟨fd__law_limits, F__law_limits⟩ := c.d.def_ 19 (d := d__law_limits) rfl
  have b__law_limits : ∀ us : List Value, us.length = 1 → ∀ s, BindsTo s fd__law_limits ⟨us, []⟩ ((["_law_pairs_here"] : List Str).zip us) := fun us hl s => L2.FunD.bindsA (ps := ["_law_pairs_here"]) F__law_limits (fun _ _ _ _ _ _ us hl => match us, hl with | [_], _ => rfl) s us hl
  have hf__law_limits : Cw false Pg wd K mg base "_law_limits" 8 1 (m__law_limits ((pm K).ca 0)) := ⟨⟨_, ok__law_limits (g := false) Z F__law_limits h_Limits_single h_Limits___add__ b__law_limits, He.glo_ok X G (c.d.fact 19 (f := .glo "_law_limits") rfl), F__law_limits.kp⟩, fun ds h e => fn_ar ds h e⟩
  have ht__law_limits : Cw true Pg wd K mg base "_law_limits" 8 1 (m__law_limits ((pm K).ca 0)) := ⟨⟨_, ok__law_limits (g := true) Z F__law_limits h_Limits_single h_Limits___add__ b__law_limits, He.glo_ok X G (c.d.fact 19 (f := .glo "_law_limits") rfl), F__law_limits.kp⟩, fun ds h e => fn_ar ds h e⟩
  obtain ⟨fd__law_fair, F__law_fair⟩ := c.d.def_ 23 (d := d__law_fair) rfl
  have b__law_fair : ∀ us : List Value, us.length = 2 → ∀ s, BindsTo s fd__law_fair ⟨us, []⟩ ((["_law_limits_here", "_law_row_here"] : List Str).zip us) := fun us hl s => L2.FunD.bindsA (ps := ["_law_limits_here", "_law_row_here"]) F__law_fair (fun _ _ _ _ _ _ us hl => match us, hl with | [_, _], _ => rfl) s us hl
  have hf__law_fair : Cw false Pg wd K mg base "_law_fair" 10 2 m__law_fair := ⟨⟨_, ok__law_fair (g := false) Z F__law_fair hg_waiting hf__law_behind hf_passed hf_verdict hf_waits b__law_fair, He.glo_ok X G (c.d.fact 23 (f := .glo "_law_fair") rfl), F__law_fair.kp⟩, fun ds h e => fn_ar ds h e⟩
  have ht__law_fair : Cw true Pg wd K mg base "_law_fair" 10 2 m__law_fair := ⟨⟨_, ok__law_fair (g := true) Z F__law_fair hg_waiting ht__law_behind ht_passed ht_verdict ht_waits b__law_fair, He.glo_ok X G (c.d.fact 23 (f := .glo "_law_fair") rfl), F__law_fair.kp⟩, fun ds h e => fn_ar ds h e⟩
  obtain ⟨fd__law_right, F__law_right⟩ := c.d.def_ 24 (d := d__law_right) rfl
  have b__law_right : ∀ us : List Value, us.length = 1 → ∀ s, BindsTo s fd__law_right ⟨us, []⟩ ((["_law_pen_here"] : List Str).zip us) := fun us hl s => L2.FunD.bindsA (ps := ["_law_pen_here"]) F__law_right (fun _ _ _ _ _ _ us hl => match us, hl with | [_], _ => rfl) s us hl
  have hf__law_right : Cw false Pg wd K mg base "_law_right" 11 1 (m__law_right ((pm K).ca 0)) := ⟨⟨_, ok__law_right (g := false) Z F__law_right hf__law_bare hf__law_behind hf__law_draw hf__law_fair hf__law_limits hf__law_pairs hf__law_row hf_passed hf_verdict h_Limits___add__ b__law_right, He.glo_ok X G (c.d.fact 24 (f := .glo "_law_right") rfl), F__law_right.kp⟩, fun ds h e => fn_ar ds h e⟩
  have ht__law_right : Cw true Pg wd K mg base "_law_right" 11 1 (m__law_right ((pm K).ca 0)) := ⟨⟨_, ok__law_right (g := true) Z F__law_right ht__law_bare ht__law_behind ht__law_draw ht__law_fair ht__law_limits ht__law_pairs ht__law_row ht_passed ht_verdict h_Limits___add__ b__law_right, He.glo_ok X G (c.d.fact 24 (f := .glo "_law_right") rfl), F__law_right.kp⟩, fun ds h e => fn_ar ds h e⟩
  obtain ⟨fd_law, F_law⟩ := c.d.def_ 25 (d := d_law) rfl
  have b_law : ∀ us : List Value, us.length = 1 → ∀ s, BindsTo s fd_law ⟨us, []⟩ ((["_law_script"] : List Str).zip us) := fun us hl s => L2.FunD.bindsA (ps := ["_law_script"]) F_law (fun _ _ _ _ _ _ us hl => match us, hl with | [_], _ => rfl) s us hl
  have hf_law : Cw false Pg wd K mg base "law" 12 1 (m_law ((pm K).ca 0)) := ⟨⟨_, ok_law (g := false) Z F_law hf__law_cell hf__law_pen hf__law_right b_law, He.glo_ok X G (c.d.fact 25 (f := .glo "law") rfl), F_law.kp⟩, fun ds h e => fn_ar ds h e⟩
  have ht_law : Cw true Pg wd K mg base "law" 12 1 (m_law ((pm K).ca 0)) := ⟨⟨_, ok_law (g := true) Z F_law ht__law_cell ht__law_pen ht__law_right b_law, He.glo_ok X G (c.d.fact 25 (f := .glo "law") rfl), F_law.kp⟩, fun ds h e => fn_ar ds h e⟩
  exact ok_law (g := true) Z F_law ht__law_cell ht__law_pen ht__law_right b_law
end GT
open PySem PySem.W PySem.Calls PyProof.Rows
theorem holds_of (hm : ∀ (ca : Nat) (ns : List Int), ns.length ≤ 63 → ∃ h', GT.m_law ca [.scr ns] [] = .ok (.bl true) h') : PySem.Challenge.rw_burstlimits_k45_whole_gates_one_behind_t.Holds := by
  w_on; o_law
  refine HandSHeadRun.head_any (r := OpenLaw.row PySem.Challenge.rw_burstlimits_k45_whole_gates_one_behind_t) (q := view (OpenLaw.row PySem.Challenge.rw_burstlimits_k45_whole_gates_one_behind_t).prog [46]) (H := GT.hk) (ob := GT.ob) (M := 9000) (loose := GT.loose) (d := HandSHeadRun.topDef (OpenLaw.row PySem.Challenge.rw_burstlimits_k45_whole_gates_one_behind_t).prog 46) (kwd := []) GT.ob_eq
    (by kernel_rfl) (fun s => by kernel_rfl) GT.run (by kernel_rfl) (by kernel_rfl) (by kernel_rfl) (by rfl) (by first | assumption | decide +kernel) (by decide +kernel) ⟨rfl, rfl, rfl, rfl, rfl, by decide +kernel⟩ ?hw ?hc
  case hw => w_witness2
  case hc =>
    refine FL.walkF (l := PySem.Challenge.rw_burstlimits_k45_whole_gates_one_behind_t) (n := 63) (k := 12) rfl (by decide) (by kernel_rfl) ⟨rfl, by decide, by decide⟩ ?F
    intro w mg fa h Y G0 hmg0
    obtain ⟨K, KX, c⟩ := Y
    have hmg : mg ("law" : PySem.Str) = some (.ref fa) := by
      have e : (HandSHeadRun.topDef (OpenLaw.row PySem.Challenge.rw_burstlimits_k45_whole_gates_one_behind_t).prog 46).name = ("law" : PySem.Str) := by kernel_rfl
      rw [← e]
      exact hmg0
    have e := hmg.symm.trans (He.glo_ok KX G0 (c.d.fact 25 (f := .glo "law") rfl))
    have e2 : Value.ref fa = Value.ref (He.ga K "law") := Option.some.inj e
    have e3 : fa = He.ga K "law" := Value.ref.inj e2
    subst e3
    have hf : ∀ base : Heap, FL.FnX true (PySem.Challenge.rw_burstlimits_k45_whole_gates_one_behind_t).prog w K mg base 12 (He.ga K "law") (FL.spF (GT.pm K) 1 (GT.m_law ((GT.pm K).ca 0))) := fun base => GT.facts KX G0 c base
    exact ⟨K, GT.pm K, (GT.m_law ((GT.pm K).ca 0)), rfl, KX, hf, (hm _)⟩

end

section
set_option linter.all false
/-! An exception of a plain own class: raised, caught, asked for its class by a def; xs.index(y). -/
namespace FL
/-- isinstance(e, c) of the exception e in hand -/
def eIsE (a : Nat) (b : Bool) (i : Nat) : E := fun l _h => match l[i]? with
  | some (some (.gls a')) => if a' = a then .ok (.bl b) _h else .bad
  | _ => .bad
/-- a def asked of the exception in hand -/
def eKind (m : F) (a : Nat) (i : Nat) : E := fun l h => match l[i]? with
  | some (some (.gls a')) => if a' = a then tameK (m [.gls a] h) else .bad
  | _ => .bad
where tameK (z : Res D) : Res D := match z with
  | .ok d h => .ok d h
  | _ => .bad
/-- raise C("..") -/
def sRz (c : Nat) : S := fun l h => .ex c [] l h
def eNo : E := fun _ _ => .bad
/-- xs.index(y) of data, y among them -/
def mIndex : D → F := fun o ds h => match ds with
  | [x] => (match toP h o, toP h x with
    | some (.list qs), some p => if PySem.SeqAt.shaped p = true ∧ PySem.SeqAt.shaped (.list qs) = true then (match qs.findIdx? (fun z => PySem.PyData.eqv z p) with
      | some j => .ok (.int ((j : Nat) : Int)) h
      | none => .bad) else .bad
    | _, _ => .bad)
  | _ => .bad
/-- try: return repr(a()) / except ..: a text by the exception's class (and what is left in the heap) -/
def saidH (wd : Nat → Option (List Nat × List Cell)) (z : Res D) : Res D := match z with
  | .ok d h => fRepr [d] h
  | .ex c [] h => (match wd c with
    | some (s, g) => .ok (.str s) (h ++ g)
    | none => .bad)
  | _ => .bad
end FL

end

section
set_option linter.all false
/-! Slices of texts, upper, the signs of a text. -/
namespace FL
open PySem
def vCutS (a : D) (lo hi : Option Int) (h : H) : Res D := match a with
  | .str s => if s.length ≤ LIM then .ok (.str (cut s lo hi)) h else .bad
  | _ => .bad
def eCutS (a : E) (lo hi : Option E) : E := fun l h => (a l h).bind fun x h1 => (part lo l h1).bind fun u h2 => (part hi l h2).bind fun v h3 => vCutS x u v h3
def upS (s : List Nat) : List Nat := (Txt.upper ⟨s.toArray⟩).cps.toList
def mUpper : D → F := fun o ds h => match o, ds with
  | .str s, [] => if s.length ≤ LIM then .ok (.str (upS s)) h else .bad
  | _, _ => .bad
def fListS : F := fun ds h => match ds with
  | [.str s] => if s.length ≤ 1000 then alloc (.lst (s.map fun c => .str [c])) h else .bad
  | _ => .bad
end FL

end

section
set_option linter.all false
/-! Exceptions with fields: raised, caught, their fields read. -/
namespace FL
/-- raise C(a, ..), C's __init__ telling msg to its base and keeping its arguments under the names ns -/
def sRzO (c : Nat) (ns : List PySem.Str) (msg : E) (a : A) : S := fun l h => ofRes l (a l h) fun ds h1 => if ds.length = ns.length then (match msg (none :: ds.map some) h1 with
  | .ok _ h2 => .ex c (ns.zip ds).reverse l h2
  | _ => .bad) else .bad
end FL

end

section
set_option linter.all false
/-! try: return repr(a()) / except ..: a text by the exception's class and fields. -/
namespace FL
/-- .. (and what is left in the heap) -/
def saidF (wd : Nat → List (PySem.Str × D) → Option (List Nat × List Cell)) (z : Res D) : Res D := match z with
  | .ok d h => fRepr [d] h
  | .ex c fs h => (match wd c fs with
    | some (s, g) => .ok (.str s) (h ++ g)
    | none => .bad)
  | _ => .bad
/-- the text of two numbers in a tuple -/
def tx2 (i j : Int) : Option (List Nat) := match fRepr [.tup [.int i, .int j]] [] with
  | .ok (.str t) _ => if smallI i = true ∧ smallI j = true then some t else none
  | _ => none
end FL

end

section
set_option linter.all false
/-! x + y by x's own way, which may raise; os: other classes that y may be of (then it raises). -/
namespace FL
def noOk (z : Res D) : Res D := match z with
  | .ex c fs h => .ex c fs h
  | _ => .bad
def addX (os : List Nat) (d : Nat → Option F) (x y : D) (h : H) : Res D := opt (pickP d x h) fun cf => if clsOf y h = some cf.1 then cf.2 [x, y] h else if knownD os y h = true then noOk (cf.2 [x, y] h) else .bad
def eAddX (os : List Nat) (d : Nat → Option F) (ma mb : E) : E := fun l h => (ma l h).bind fun x h1 => (mb l h1).bind fun y h2 => addX os d x y h2
end FL

end

section
set_option linter.all false
/-! a or b, a a tuple -/
namespace FL
def eOrT (a b : E) : E := fun l h => (a l h).bind fun x h1 => match x with
  | .tup xs => if xs.isEmpty = true then b l h1 else .ok x h1
  | _ => .bad
end FL

end

section
set_option linter.all false
/-! A text that the class holds, read off an object. -/
namespace FL
def vKon (cs : List Nat) (f : PySem.Str) (s : List Nat) : D → H → Res D := fun d h => match d with
  | .ref n => (match h[n]? with
    | some (.ins c fs) => if cs.contains c = true ∧ (fldOf fs f).isNone = true then .ok (.str s) h else .bad
    | _ => .bad)
  | _ => .bad
end FL

end

section
set_option Elab.async false
set_option linter.all false
set_option maxRecDepth 100000
set_option maxHeartbeats 1000000
/-! The text of a value that may hold own objects in lists, tuples. -/
namespace FL
open PySem (Str)
def allS (f : D → Option Str) : List D → Option (List Str)
  | [] => some []
  | x :: xs => match f x, allS f xs with
    | some t, some ts => some (t :: ts)
    | _, _ => none
/-- a plain value's -/
def leafT (h : H) (x : D) : Option Str := match toP h x with
  | some p => if p.showable = true then some p.shown else none
  | none => none
/-- an own object's -/
def objT (d : Nat → Option F) (h : H) (n : Nat) : Option Str := match pickP d (.ref n) h with
  | some cf => (match cf.2 [.ref n] h with
    | .ok (.str s) _ => some ⟨s.toArray⟩
    | _ => none)
  | none => none
def keyT : Sum Int (List Nat) → Str
  | .inl i => (PySem.PyData.int i).shown
  | .inr s => (PySem.PyData.str ⟨s.toArray⟩).shown
def keyOk : Sum Int (List Nat) → Bool
  | .inl i => (PySem.PyData.int i).showable
  | .inr _ => true
def entsT (kvs : List (Sum Int (List Nat) × D)) (ts : List Str) : Str := PySem.dictText (List.zipWith (fun (kv : Sum Int (List Nat) × D) (t : Str) => keyT kv.1 ++ ": " ++ t) kvs ts)
def txt : (Nat → Option F) → Nat → H → D → Option Str
  | _, 0, _, _ => none
  | d, k + 1, h, x => match x with
    | .non => leafT h .non
    | .bl b => leafT h (.bl b)
    | .int i => leafT h (.int i)
    | .str s => leafT h (.str s)
    | .tup xs => (allS (txt d k h) xs).map PySem.tupleText
    | .ref n => (match h[n]? with
      | some (.lst xs) => (allS (txt d k h) xs).map PySem.listText
      | some (.dct kvs) => if kvs.all (fun p => keyOk p.1) = true then (allS (txt d k h) (kvs.map fun p => p.2)).map (entsT kvs) else none
      | some (.ins _ _) => objT d h n
      | _ => none)
    | _ => none
def two (f g : F) : Nat → Option F := fun c => if c = 0 then some f else if c = 1 then some g else none
def fReprN (d : Nat → Option F) : F := fun ds h => match ds with
  | [x] => (match txt d 12 h x with
    | some t => if t.length ≤ LIM then .ok (.str t.cps.toList) h else .bad
    | none => .bad)
  | _ => .bad
theorem allS_len {f : D → Option Str} : ∀ {xs : List D} {ts : List Str}, allS f xs = some ts → ts.length = xs.length
  | [], ts, e => by cases e; rfl
  | x :: xs, ts, e => by
    unfold allS at e
    cases e1 : f x with
    | none => rw [e1] at e; cases e
    | some t =>
      cases e2 : allS f xs with
      | none => rw [e1, e2] at e; cases e
      | some us =>
        rw [e1, e2] at e
        cases e
        rw [List.length_cons, List.length_cons, allS_len e2]
theorem allS_at {f : D → Option Str} : ∀ {xs : List D} {ts : List Str}, allS f xs = some ts → ∀ (i : Nat) (x : D), xs[i]? = some x → ∃ t, ts[i]? = some t ∧ f x = some t
  | [], ts, e, i, x, hx => by simp at hx
  | x :: xs, ts, e, i, y, hy => by
    unfold allS at e
    cases e1 : f x with
    | none => rw [e1] at e; cases e
    | some t =>
      cases e2 : allS f xs with
      | none => rw [e1, e2] at e; cases e
      | some us =>
        rw [e1, e2] at e
        cases e
        cases i with
        | zero =>
          simp at hy
          subst hy
          exact ⟨t, rfl, e1⟩
        | succ i =>
          simp at hy
          obtain ⟨t', h1, h2⟩ := allS_at e2 i y hy
          exact ⟨t', by simpa using h1, h2⟩
theorem allS_mono {f g : D → Option Str} (hm : ∀ x t, f x = some t → g x = some t) : ∀ {xs : List D} {ts : List Str}, allS f xs = some ts → allS g xs = some ts
  | [], ts, e => e
  | x :: xs, ts, e => by
    unfold allS at e ⊢
    cases e1 : f x with
    | none => rw [e1] at e; cases e
    | some t =>
      cases e2 : allS f xs with
      | none => rw [e1, e2] at e; cases e
      | some us =>
        rw [e1, e2] at e
        rw [hm x t e1, allS_mono hm e2]
        exact e
theorem txt_up {h : H} : ∀ (k : Nat) {d : Nat → Option F} (x : D) (t : Str), txt d k h x = some t → txt d (k + 1) h x = some t
  | 0, d, x, t, e => by cases e
  | k + 1, d, x, t, e => by
    cases x with
    | non => exact e
    | bl b => exact e
    | int i => exact e
    | str s => exact e
    | tup xs =>
      have e : (allS (txt d k h) xs).map PySem.tupleText = some t := e
      show (allS (txt d (k + 1) h) xs).map PySem.tupleText = some t
      cases ea : allS (txt d k h) xs with
      | none => rw [ea] at e; cases e
      | some ts =>
        rw [ea] at e
        rw [allS_mono (fun x t => txt_up k x t) ea]
        exact e
    | ref n =>
      have e : (match h[n]? with
        | some (.lst xs) => (allS (txt d k h) xs).map PySem.listText
        | some (.dct kvs) => if kvs.all (fun p => keyOk p.1) = true then (allS (txt d k h) (kvs.map fun p => p.2)).map (entsT kvs) else none
        | some (.ins _ _) => objT d h n
        | _ => none) = some t := e
      show (match h[n]? with
        | some (.lst xs) => (allS (txt d (k + 1) h) xs).map PySem.listText
        | some (.dct kvs) => if kvs.all (fun p => keyOk p.1) = true then (allS (txt d (k + 1) h) (kvs.map fun p => p.2)).map (entsT kvs) else none
        | some (.ins _ _) => objT d h n
        | _ => none) = some t
      cases hc : h[n]? with
      | none => rw [hc] at e; cases e
      | some c =>
        rw [hc] at e
        cases c with
        | lst xs =>
          dsimp only at e ⊢
          cases ea : allS (txt d k h) xs with
          | none => rw [ea] at e; cases e
          | some ts =>
            rw [ea] at e
            rw [allS_mono (fun x t => txt_up k x t) ea]
            exact e
        | ins c fs => exact e
        | dct kvs =>
          dsimp only at e ⊢
          split at e
          · rename_i hk
            rw [if_pos hk]
            cases ea : allS (txt d k h) (kvs.map fun p => p.2) with
            | none => rw [ea] at e; cases e
            | some ts =>
              rw [ea] at e
              rw [allS_mono (fun x t => txt_up k x t) ea]
              exact e
          · cases e
        | tbl q => cases e
    | _ => cases e
theorem txt_le {d : Nat → Option F} {h : H} {j k : Nat} (hj : j ≤ k) {x : D} {t : Str} (e : txt d j h x = some t) : txt d k h x = some t := by
  obtain ⟨m, rfl⟩ := Nat.le.dest hj
  induction m with
  | zero => exact e
  | succ m ih => exact txt_up _ _ _ (ih (by omega))
end FL

end

section
set_option linter.all false
/-! list(range(i, j)); x[i] by x's own way, which may raise. -/
namespace FL
def vRngL : D → D → H → Res D := fun a b h => match a, b with
  | .int i, .int j => if -LIM ≤ i ∧ i ≤ LIM ∧ -LIM ≤ j ∧ j ≤ LIM ∧ (j - i).toNat ≤ LIM then alloc (.lst (rng i j)) h else .bad
  | _, _ => .bad
def vRngT : D → D → H → Res D := fun a b h => match a, b with
  | .int i, .int j => if -LIM ≤ i ∧ i ≤ LIM ∧ -LIM ≤ j ∧ j ≤ LIM ∧ (j - i).toNat ≤ LIM then .ok (.tup (rng i j)) h else .bad
  | _, _ => .bad
/-- x[i], x an own object -/
def eIxX (d : Nat → Option F) (ma mb : E) : E := fun l h => (ma l h).bind fun x h1 => (mb l h1).bind fun y h2 => opt (pickP d x h2) fun cf => cf.2 [x, y] h2
end FL

end

section
set_option linter.all false
/-! any value == a tuple of one text or of nothing: own objects by their ==, lists and dicts, tuples by their first. -/
namespace FL
def isT (s : List Nat) : D → Bool := fun u => match u with
  | .str t => decide (t = s)
  | _ => false
def leafy (y : D) (h : H) : Bool := match y with
  | .non => true
  | .bl _ => true
  | .int _ => true
  | .str _ => true
  | .tup _ => true
  | .ref n => (match h[n]? with
    | some (.lst _) => true
    | _ => false)
  | _ => false
def vEqK (d : Nat → Option F) : D → D → H → Res D := fun a b h => match pickP d a h with
  | some _ => vEqA [] d a b h
  | none => match a, b with
    | .tup (x :: xs), .tup [.str s] => if leafy x h = true then .ok (.bl (isT s x && xs.isEmpty)) h else .bad
    | .tup (_ :: _), .tup [] => .ok (.bl false) h
    | .ref n, .tup _ => (match h[n]? with
      | some (.dct _) => .ok (.bl false) h
      | some (.lst _) => .ok (.bl false) h
      | _ => .bad)
    | .tup [], .tup (_ :: _) => .ok (.bl false) h
    | .non, .tup _ => .ok (.bl false) h
    | .bl _, .tup _ => .ok (.bl false) h
    | .int _, .tup _ => .ok (.bl false) h
    | .str _, .tup _ => .ok (.bl false) h
    | _, _ => eqD false a b h
end FL

end

section
set_option linter.all false
/-! a lambda handed on: def x(a): n = x2(a); return .. -/
namespace FL
def saidW (f : Res D → Res D) (m : E) (z : Res D) : Res D := (f z).bind fun v h => tame (m [none, some v] h)
end FL

end

section
set_option linter.all false
/-! said with the texts of own objects; an exception with a made message -/
namespace FL
def saidG (rp : Nat → Option F) (wd : Nat → List (PySem.Str × D) → Option (List Nat × List Cell)) (z : Res D) : Res D := match z with
  | .ok d h => fReprN rp [d] h
  | .ex c fs h => (match wd c fs with
    | some (s, g) => .ok (.str s) (h ++ g)
    | none => .bad)
  | _ => .bad
def sRzE (c : Nat) (me : E) : S := fun l h => match me l h with
  | .ok _ h' => .ex c [] l h'
  | _ => .bad
end FL

end

section
set_option linter.all false
/-! len(set(t)), t a tuple of whole numbers: on values. -/
namespace FL
def dst : List Int → List Int
  | [] => []
  | x :: xs => if x ∈ xs then dst xs else x :: dst xs
theorem dst_mem : ∀ (xs : List Int) (k : Int), k ∈ dst xs ↔ k ∈ xs
  | [], k => by simp [dst]
  | x :: xs, k => by
    unfold dst
    split
    · rename_i hx
      rw [dst_mem xs k, List.mem_cons]
      exact ⟨.inr, fun q => q.elim (fun e => e ▸ hx) id⟩
    · rw [List.mem_cons, List.mem_cons, dst_mem xs k]
theorem dst_nodup : ∀ xs : List Int, (dst xs).Nodup
  | [] => by simp [dst]
  | x :: xs => by
    unfold dst
    split
    · exact dst_nodup xs
    · rename_i hx
      exact List.nodup_cons.mpr ⟨fun q => hx ((dst_mem xs x).mp q), dst_nodup xs⟩
theorem dst_len : ∀ xs : List Int, (dst xs).length ≤ xs.length
  | [] => by simp [dst]
  | x :: xs => by
    have := dst_len xs
    unfold dst
    split
    · rw [List.length_cons]; omega
    · rw [List.length_cons, List.length_cons]; omega
def eLenSetJ (e : E) : E := fun l h => (e l h).bind fun x h1 => match x with
  | .tup ds => (match numsL ds with
    | some ns => if ns.length < 60 then .ok (.int ((dst ns).length : Nat)) h1 else .bad
    | none => .bad)
  | _ => .bad
end FL

end

section
set_option linter.all false
/-! try: a() / except .. : return a text, several clauses, then return a text: on values. -/
namespace FL
/-- wd: the text for an exception of a code; t0: where none is raised -/
def wordH (t0 : List Nat) (wd : Nat → Option (List Nat)) (z : Res D) : Res D := match z with
  | .ok _ h => .ok (.str t0) h
  | .ex c _ h => (match wd c with
    | some s => .ok (.str s) h
    | none => .bad)
  | .bad => .bad
end FL

end

section
set_option Elab.async false
set_option linter.all false
namespace FL
/-! One step at a time. -/
section
variable {a b : E} {as r : A} {t u : T} {s s2 : S} {f : D → D → H → Res D} {g : D → H → Res D} {k : F} {l l1 : Loc} {h h1 h2 : H} {x y : D} {xs : List D} {c : Bool} {i : Nat}
theorem bin_eq (e1 : a l h = .ok x h1) (e2 : b l h1 = .ok y h2) : eBin f a b l h = f x y h2 := by
  unfold eBin
  rw [e1, bind_ok, e2, bind_ok]
theorem un_eq (e1 : a l h = .ok x h1) : eUn g a l h = g x h1 := by
  unfold eUn
  rw [e1, bind_ok]
theorem nil_eq : aNil l h = .ok [] h := rfl
theorem cons_eq (e1 : a l h = .ok x h1) (e2 : r l h1 = .ok xs h2) : aCons a r l h = .ok (x :: xs) h2 := by
  unfold aCons
  rw [e1, bind_ok, e2, bind_ok]
theorem call_eq (e : as l h = .ok xs h1) : eCall k as l h = k xs h1 := by
  unfold eCall
  rw [e, bind_ok]
theorem call1_eq (e : a l h = .ok x h1) : eCall k (aCons a aNil) l h = k [x] h1 := call_eq (cons_eq e nil_eq)
theorem call2_eq (e : a l h = .ok x h1) (e2 : b l h1 = .ok y h2) : eCall k (aCons a (aCons b aNil)) l h = k [x, y] h2 := call_eq (cons_eq e (cons_eq e2 nil_eq))
theorem var_eq (e : l[i]? = some (some x)) : eVar i l h = .ok x h := by
  unfold eVar
  rw [e]
theorem tval_eq (e : a l h = .ok (.bl c) h1) : tVal a l h = .ok c h1 := by
  unfold tVal
  rw [e]
  rfl
theorem ttruth_eq (e : a l h = .ok x h1) (e2 : truth x h1 = some c) : tTruth a l h = .ok c h1 := by
  unfold tTruth
  rw [e, bind_ok, e2]
theorem tnot_eq (e : t l h = .ok c h1) : tNot t l h = .ok (!c) h1 := by
  unfold tNot
  rw [e, bind_ok]
theorem tor_f (e : t l h = .ok false h1) : tOr t u l h = u l h1 := by
  unfold tOr
  rw [e, bind_ok, if_neg (by decide)]
theorem tor_t (e : t l h = .ok true h1) : tOr t u l h = .ok true h1 := by
  unfold tOr
  rw [e, bind_ok, if_pos rfl]
theorem tand_f (e : t l h = .ok false h1) : tAnd t u l h = .ok false h1 := by
  unfold tAnd
  rw [e, bind_ok, if_neg (by decide)]
theorem tand_t (e : t l h = .ok true h1) : tAnd t u l h = u l h1 := by
  unfold tAnd
  rw [e, bind_ok, if_pos rfl]
theorem if_t (e : t l h = .ok true h1) : sIf t s s2 l h = s l h1 := by
  unfold sIf
  rw [e]
  simp [ofRes]
theorem if_f (e : t l h = .ok false h1) : sIf t s s2 l h = s2 l h1 := by
  unfold sIf
  rw [e]
  simp [ofRes]
theorem asg_eq (e : a l h = .ok x h1) : sAsg a (gName i) l h = .nx (l.set i (some x)) h1 := by
  unfold sAsg
  rw [e]
  rfl
theorem par_eq {j : Nat} (e : as l h = .ok [x, y] h1) : sPar i j as l h = .nx ((l.set i (some x)).set j (some y)) h1 := by
  unfold sPar
  rw [e]
  rfl
theorem ret_eq (e : a l h = .ok x h1) : sRet a l h = .rt x h1 := by
  unfold sRet
  rw [e]
  rfl
theorem drop_eq (e : a l h = .ok x h1) : sDrop a l h = .nx l h1 := by
  unfold sDrop
  rw [e]
  rfl
theorem seq_eq (e : s l h = .nx l1 h1) : sSeq s s2 l h = s2 l1 h1 := by
  unfold sSeq
  rw [e]
theorem seq_rt (e : s l h = .rt x h1) : sSeq s s2 l h = .rt x h1 := by
  unfold sSeq
  rw [e]
theorem and_t (e : a l h = .ok (.bl true) h1) : eAnd a b l h = b l h1 := by
  unfold eAnd
  rw [e]
  rfl
theorem and_f (e : a l h = .ok (.bl false) h1) : eAnd a b l h = .ok (.bl false) h1 := by
  unfold eAnd
  rw [e]
  rfl
theorem not_eq (e : a l h = .ok (.bl c) h1) : eNot a l h = .ok (.bl (!c)) h1 := by
  unfold eNot
  rw [e]
  rfl
theorem for_snap {w : W} {g : G} (e : w l h = .ok (.snap xs) h1) : sFor w g s l h = loopS g s xs l h1 := by
  unfold sFor
  rw [e]
  rfl
theorem for_live {w : W} {g : G} {n : Nat} (e : w l h = .ok (.live n) h1) : sFor w g s l h = loopL g s n (lenAt h1 n + 1) 0 l h1 := by
  unfold sFor
  rw [e]
  rfl
theorem rng1_eq {j : Int} (e : a l h = .ok (.int j) h1) (hj : -LIM ≤ j ∧ j ≤ LIM) : wRng1 (aCons a aNil) l h = .ok (.snap (rng 0 j)) h1 := by
  unfold wRng1
  rw [cons_eq e nil_eq, bind_ok]
  exact if_pos hj
theorem fn_rt {n kk : Nat} (hl : xs.length = kk) (e : s (start n xs) h = .rt x h1) : fn n kk s xs h = .ok x h1 := by
  unfold fn
  rw [if_pos hl, e]
theorem fn_nx {n kk : Nat} (hl : xs.length = kk) (e : s (start n xs) h = .nx l1 h1) : fn n kk s xs h = .ok .non h1 := by
  unfold fn
  rw [if_pos hl, e]
end
theorem loopS_all {g : G} {b : S} (I : List D → Loc → H → Prop) (step : ∀ d ds l h, I (d :: ds) l h → ∃ l' h', turnS g b d l h = .nx l' h' ∧ I ds l' h') : ∀ ds l h, I ds l h → ∃ l' h', loopS g b ds l h = .nx l' h' ∧ I [] l' h'
  | [], l, h, i => ⟨l, h, rfl, i⟩
  | d :: ds, l, h, i => by
    obtain ⟨l1, h1, e1, i1⟩ := step d ds l h i
    obtain ⟨l2, h2, e2, i2⟩ := loopS_all I step ds l1 h1 i1
    refine ⟨l2, h2, ?_, i2⟩
    show (match turnS g b d l h with
      | .nx l2 h2 => loopS g b ds l2 h2
      | .ct l2 h2 => loopS g b ds l2 h2
      | .bk l2 h2 => .nx l2 h2
      | r => r) = _
    rw [e1]
    exact e2
theorem loopL_all {g : G} {b : S} {n : Nat} {xs : List D} (I : Nat → Loc → H → Prop) (at' : ∀ i l h, I i l h → h[n]? = some (.lst xs)) (step : ∀ i d l h, I i l h → xs[i]? = some d → ∃ l' h', turnS g b d l h = .nx l' h' ∧ I (i + 1) l' h') : ∀ f i l h, f + i = xs.length + 1 → i ≤ xs.length → I i l h → ∃ l' h', loopL g b n f i l h = .nx l' h' ∧ I xs.length l' h'
  | 0, i, l, h, ef, le, q => by omega
  | f + 1, i, l, h, ef, le, q => by
    have ea := at' i l h q
    by_cases hi : i < xs.length
    · have ed : xs[i]? = some xs[i] := List.getElem?_eq_getElem hi
      obtain ⟨l1, h1, e1, i1⟩ := step i xs[i] l h q ed
      obtain ⟨l2, h2, e2, i2⟩ := loopL_all I at' step f (i + 1) l1 h1 (by omega) (by omega) i1
      refine ⟨l2, h2, ?_, i2⟩
      unfold loopL
      rw [ea]
      dsimp only
      rw [ed]
      dsimp only
      rw [e1]
      exact e2
    · obtain rfl : i = xs.length := by omega
      refine ⟨l, h, ?_, q⟩
      unfold loopL
      rw [ea]
      dsimp only
      rw [List.getElem?_eq_none (Nat.le_refl _)]
end FL

end

section
set_option Elab.async false
set_option linter.all false
namespace FL
/-! More steps: comprehensions, frames. -/
/-- what was there stays as it was -/
structure Ex (h h' : H) : Prop where
  le : h.length ≤ h'.length
  at' : ∀ a, a < h.length → h'[a]? = h[a]?
theorem Ex.refl (h : H) : Ex h h := ⟨Nat.le_refl _, fun _ _ => rfl⟩
theorem Ex.trans {h h1 h2 : H} (a : Ex h h1) (b : Ex h1 h2) : Ex h h2 := ⟨Nat.le_trans a.le b.le, fun i hi => by rw [b.at' i (by have := a.le; omega), a.at' i hi]⟩
theorem Ex.add (h : H) (t : Cell) : Ex h (h ++ [t]) := ⟨by simp, fun a hi => List.getElem?_append_left hi⟩
theorem Ex.new {n : Nat} {h h1 : H} (b : Ex h h1) (hn : h.length ≤ n) (t : Cell) : Ex h (h1.set n t) := ⟨by simpa using b.le, fun a hi => by rw [List.getElem?_set_ne (by omega), b.at' a hi]⟩
theorem Ex.get {h h' : H} {a : Nat} {t : Cell} (e : Ex h h') (q : h[a]? = some t) : h'[a]? = some t := by rw [e.at' a (List.getElem?_eq_some_iff.mp q).1, q]
theorem lcS_all {g : G} {t : T} {e : E} {l : Loc} (I : H → Prop) (φ : D → Option D) : ∀ (xs acc : List D) (h : H), (∀ d ∈ xs, ∀ (acc : List D) (h : H), I h → acc.length < LIM → ∃ h', lcTurn g t e l d acc h = .ok (acc ++ (φ d).toList) h' ∧ I h') → I h → acc.length + xs.length ≤ LIM → ∃ h', lcS g t e l xs acc h = .ok (acc ++ xs.filterMap φ) h' ∧ I h'
  | [], acc, h, _, i, _ => ⟨h, by simp [lcS], i⟩
  | d :: ds, acc, h, step, i, z => by
    rw [List.length_cons] at z
    obtain ⟨h1, e1, i1⟩ := step d List.mem_cons_self acc h i (by omega)
    have hz : (acc ++ (φ d).toList).length + ds.length ≤ LIM := by
      rw [List.length_append]
      have : (φ d).toList.length ≤ 1 := by cases φ d <;> simp
      omega
    obtain ⟨h2, e2, i2⟩ := lcS_all I φ ds _ h1 (fun x hx => step x (List.mem_cons_of_mem _ hx)) i1 hz
    refine ⟨h2, ?_, i2⟩
    show (match lcTurn g t e l d acc h with
      | .ok acc' h' => lcS g t e l ds acc' h'
      | _ => .bad) = _
    rw [e1]
    dsimp only
    rw [e2]
    cases q : φ d <;> simp [List.filterMap_cons, q]
theorem lcL_all {g : G} {t : T} {e : E} {l : Loc} {n : Nat} {xs : List D} (I : H → Prop) (φ : D → Option D) (at' : ∀ h, I h → h[n]? = some (.lst xs)) (hz : xs.length ≤ LIM) (step : ∀ d ∈ xs, ∀ (acc : List D) (h : H), I h → acc.length < LIM → ∃ h', lcTurn g t e l d acc h = .ok (acc ++ (φ d).toList) h' ∧ I h') : ∀ (f i : Nat) (acc : List D) (h : H), f + i = xs.length + 1 → i ≤ xs.length → acc.length ≤ i → I h → ∃ h', lcL g t e l n f i acc h = .ok (acc ++ (xs.drop i).filterMap φ) h' ∧ I h'
  | 0, i, acc, h, ef, le, _, q => by omega
  | f + 1, i, acc, h, ef, le, al, q => by
    have ea := at' h q
    by_cases hi : i < xs.length
    · have ed : xs[i]? = some xs[i] := List.getElem?_eq_getElem hi
      obtain ⟨h1, e1, i1⟩ := step xs[i] (List.getElem_mem hi) acc h q (by omega)
      obtain ⟨h2, e2, i2⟩ := lcL_all I φ at' hz step f (i + 1) (acc ++ (φ xs[i]).toList) h1 (by omega) (by omega) (by
        rw [List.length_append]
        have : (φ xs[i]).toList.length ≤ 1 := by cases φ xs[i] <;> simp
        omega) i1
      refine ⟨h2, ?_, i2⟩
      unfold lcL
      rw [ea]
      dsimp only
      rw [ed]
      dsimp only
      rw [e1]
      dsimp only
      rw [e2, List.drop_eq_getElem_cons hi]
      have fm : (xs[i] :: xs.drop (i + 1)).filterMap φ = (φ xs[i]).toList ++ (xs.drop (i + 1)).filterMap φ := by
        cases q : φ xs[i] <;> simp only [List.filterMap_cons, q, Option.toList, List.nil_append, List.cons_append]
      rw [fm, List.append_assoc]
    · obtain rfl : i = xs.length := by omega
      refine ⟨h, ?_, q⟩
      unfold lcL
      rw [ea]
      dsimp only
      rw [List.getElem?_eq_none (Nat.le_refl _)]
      simp
theorem turn_yes {g : G} {t : T} {e : E} {l l1 : Loc} {d y : D} {acc : List D} {h h1 h2 h3 : H} (e1 : g d l h = some (l1, h1)) (e2 : t l1 h1 = .ok true h2) (e3 : e l1 h2 = .ok y h3) (hz : acc.length < LIM) : lcTurn g t e l d acc h = .ok (acc ++ (some y).toList) h3 := by
  unfold lcTurn
  rw [e1]
  dsimp only
  rw [e2]
  dsimp only
  rw [e3]
  exact if_pos hz
theorem turn_no {g : G} {t : T} {e : E} {l l1 : Loc} {d : D} {acc : List D} {h h1 h2 : H} (e1 : g d l h = some (l1, h1)) (e2 : t l1 h1 = .ok false h2) : lcTurn g t e l d acc h = .ok (acc ++ (none : Option D).toList) h2 := by
  unfold lcTurn
  rw [e1]
  dsimp only
  rw [e2]
  simp
theorem comp_snap {w : W} {g : G} {t : T} {e : E} {vs : List Nat} {l : Loc} {h h1 h2 : H} {xs ys : List D} (ew : w l h = .ok (.snap xs) h1) (ec : lcS g t e (wipe l vs) xs [] h1 = .ok ys h2) : eComp w g t e vs l h = .ok (.ref h2.length) (h2 ++ [.lst ys]) := by
  unfold eComp
  rw [ew, bind_ok]
  dsimp only
  rw [ec]
  rfl
theorem comp_live {w : W} {g : G} {t : T} {e : E} {vs : List Nat} {l : Loc} {h h1 h2 : H} {n : Nat} {ys : List D} (ew : w l h = .ok (.live n) h1) (ec : lcL g t e (wipe l vs) n (lenAt h1 n + 1) 0 [] h1 = .ok ys h2) : eComp w g t e vs l h = .ok (.ref h2.length) (h2 ++ [.lst ys]) := by
  unfold eComp
  rw [ew, bind_ok]
  dsimp only
  rw [ec]
  rfl
theorem tup_eq {a : A} {l : Loc} {h h1 : H} {xs : List D} (e : a l h = .ok xs h1) (hz : xs.length ≤ LIM) : eTup a l h = .ok (.tup xs) h1 := by
  unfold eTup
  rw [e, bind_ok]
  exact if_pos hz
theorem lst_eq {a : A} {l : Loc} {h h1 : H} {xs : List D} (e : a l h = .ok xs h1) (hz : xs.length ≤ LIM) : eLst a l h = .ok (.ref h1.length) (h1 ++ [.lst xs]) := by
  unfold eLst
  rw [e, bind_ok]
  exact if_pos hz
theorem lm_eq {f : D → F} {o : E} {a : A} {l : Loc} {h h1 : H} {n : Nat} {us xs : List D} (eo : o l h = .ok (.ref n) h) (en : h[n]? = some (.lst us)) (ea : a l h = .ok xs h1) : eLm f o a l h = f (.ref n) xs h1 := by
  have hl : isLst (.ref n) h = true := by
    unfold isLst
    dsimp only
    rw [en]
  unfold eLm
  rw [eo, bind_ok, if_pos hl, ea, bind_ok]
theorem append_eq {n : Nat} {d : D} {xs : List D} {h : H} (e : h[n]? = some (.lst xs)) (hz : xs.length < LIM) : mAppend (.ref n) [d] h = .ok .non (h.set n (.lst (xs ++ [d]))) := by
  unfold mAppend
  dsimp only
  rw [e]
  exact if_pos hz
theorem extend_eq {n m : Nat} {xs ys : List D} {h : H} (e : h[n]? = some (.lst xs)) (e2 : h[m]? = some (.lst ys)) (hz : xs.length + ys.length ≤ LIM) : mExtend (.ref n) [.ref m] h = .ok .non (h.set n (.lst (xs ++ ys))) := by
  unfold mExtend
  dsimp only
  rw [e, e2]
  exact if_pos hz
theorem seq_tup {a : E} {l : Loc} {h h1 : H} {xs : List D} (e : a l h = .ok (.tup xs) h1) : wSeq a l h = .ok (.snap xs) h1 := by
  unfold wSeq
  rw [e]
  rfl
theorem seq_live {a : E} {l : Loc} {h h1 : H} {n : Nat} {xs : List D} (e : a l h = .ok (.ref n) h1) (e2 : h1[n]? = some (.lst xs)) : wSeq a l h = .ok (.live n) h1 := by
  unfold wSeq
  rw [e, bind_ok]
  dsimp only
  rw [e2]
theorem lenAt_eq {h : H} {n : Nat} {xs : List D} (e : h[n]? = some (.lst xs)) : lenAt h n = xs.length := by
  unfold lenAt
  rw [e]
theorem rng_nat (n : Nat) : rng 0 (n : Int) = (List.range n).map fun (i : Nat) => D.int (i : Int) := by
  unfold rng
  rw [show ((n : Int) - 0).toNat = n by omega]
  exact List.map_congr_left fun a _ => by rw [Int.zero_add]
theorem cut_eq {a b c : E} {l : Loc} {h h1 h2 h3 : H} {x : D} {u v : Int} (e1 : a l h = .ok x h1) (e2 : b l h1 = .ok (.int u) h2) (e3 : c l h2 = .ok (.int v) h3) : eCut a (some b) (some c) l h = vCut x (some u) (some v) h3 := by
  unfold eCut
  rw [e1, bind_ok]
  unfold part
  dsimp only
  rw [e2, bind_ok]
  dsimp only
  rw [bind_ok, e3, bind_ok]
  rfl
end FL
namespace FL
theorem lcL_inv {g : G} {t : T} {e : E} {l : Loc} {n : Nat} {xs : List D} (I : Nat → List D → H → Prop) (at' : ∀ i acc h, I i acc h → h[n]? = some (.lst xs)) (step : ∀ i d acc h, I i acc h → xs[i]? = some d → ∃ acc' h', lcTurn g t e l d acc h = .ok acc' h' ∧ I (i + 1) acc' h') : ∀ (f i : Nat) (acc : List D) (h : H), f + i = xs.length + 1 → i ≤ xs.length → I i acc h → ∃ acc' h', lcL g t e l n f i acc h = .ok acc' h' ∧ I xs.length acc' h'
  | 0, i, acc, h, ef, le, q => by omega
  | f + 1, i, acc, h, ef, le, q => by
    have ea := at' i acc h q
    by_cases hi : i < xs.length
    · have ed : xs[i]? = some xs[i] := List.getElem?_eq_getElem hi
      obtain ⟨acc1, h1, e1, i1⟩ := step i xs[i] acc h q ed
      obtain ⟨acc2, h2, e2, i2⟩ := lcL_inv I at' step f (i + 1) acc1 h1 (by omega) (by omega) i1
      refine ⟨acc2, h2, ?_, i2⟩
      unfold lcL
      rw [ea]
      dsimp only
      rw [ed]
      dsimp only
      rw [e1]
      exact e2
    · obtain rfl : i = xs.length := by omega
      refine ⟨acc, h, ?_, q⟩
      unfold lcL
      rw [ea]
      dsimp only
      rw [List.getElem?_eq_none (Nat.le_refl _)]
end FL

end

section
set_option Elab.async false
set_option linter.all false
namespace FL
/-! Walks of what is reckoned anew. -/
theorem loopD_all {g : G} {b : S} {f : H → Option (List D)} {xs : List D} (I : Nat → Loc → H → Prop) (at' : ∀ i l h, I i l h → f h = some xs) (step : ∀ i d l h, I i l h → xs[i]? = some d → ∃ l' h', turnS g b d l h = .nx l' h' ∧ I (i + 1) l' h') : ∀ k i l h, xs.length < k + i → i ≤ xs.length → I i l h → ∃ l' h', loopD g b f k i l h = .nx l' h' ∧ I xs.length l' h'
  | 0, i, l, h, ef, le, q => by omega
  | k + 1, i, l, h, ef, le, q => by
    have ea := at' i l h q
    by_cases hi : i < xs.length
    · have ed : xs[i]? = some xs[i] := List.getElem?_eq_getElem hi
      obtain ⟨l1, h1, e1, i1⟩ := step i xs[i] l h q ed
      obtain ⟨l2, h2, e2, i2⟩ := loopD_all I at' step k (i + 1) l1 h1 (by omega) (by omega) i1
      refine ⟨l2, h2, ?_, i2⟩
      unfold loopD
      rw [ea]
      dsimp only
      rw [ed]
      dsimp only
      rw [e1]
      exact e2
    · obtain rfl : i = xs.length := by omega
      refine ⟨l, h, ?_, q⟩
      unfold loopD
      rw [ea]
      dsimp only
      rw [List.getElem?_eq_none (Nat.le_refl _)]
theorem lcD_all {g : G} {t : T} {e : E} {l : Loc} {f : H → Option (List D)} {xs : List D} (I : H → Prop) (φ : D → Option D) (at' : ∀ h, I h → f h = some xs) (hz : xs.length ≤ LIM) (step : ∀ d ∈ xs, ∀ (acc : List D) (h : H), I h → acc.length < LIM → ∃ h', lcTurn g t e l d acc h = .ok (acc ++ (φ d).toList) h' ∧ I h') : ∀ (k i : Nat) (acc : List D) (h : H), xs.length < k + i → i ≤ xs.length → acc.length ≤ i → I h → ∃ h', lcD g t e l f k i acc h = .ok (acc ++ (xs.drop i).filterMap φ) h' ∧ I h'
  | 0, i, acc, h, ef, le, _, q => by omega
  | k + 1, i, acc, h, ef, le, al, q => by
    have ea := at' h q
    by_cases hi : i < xs.length
    · have ed : xs[i]? = some xs[i] := List.getElem?_eq_getElem hi
      obtain ⟨h1, e1, i1⟩ := step xs[i] (List.getElem_mem hi) acc h q (by omega)
      obtain ⟨h2, e2, i2⟩ := lcD_all I φ at' hz step k (i + 1) (acc ++ (φ xs[i]).toList) h1 (by omega) (by omega) (by
        rw [List.length_append]
        have : (φ xs[i]).toList.length ≤ 1 := by cases φ xs[i] <;> simp
        omega) i1
      refine ⟨h2, ?_, i2⟩
      unfold lcD
      rw [ea]
      dsimp only
      rw [ed]
      dsimp only
      rw [e1]
      dsimp only
      rw [e2, List.drop_eq_getElem_cons hi]
      have fm : (xs[i] :: xs.drop (i + 1)).filterMap φ = (φ xs[i]).toList ++ (xs.drop (i + 1)).filterMap φ := by
        cases q : φ xs[i] <;> simp only [List.filterMap_cons, q, Option.toList, List.nil_append, List.cons_append]
      rw [fm, List.append_assoc]
    · obtain rfl : i = xs.length := by omega
      refine ⟨h, ?_, q⟩
      unfold lcD
      rw [ea]
      dsimp only
      rw [List.getElem?_eq_none (Nat.le_refl _)]
      simp
theorem comp_dyn {w : W} {g : G} {t : T} {e : E} {vs : List Nat} {l : Loc} {h h1 h2 : H} {f : H → Option (List D)} {k : Nat} {ys : List D} (ew : w l h = .ok (.dyn f k) h1) (ec : lcD g t e (wipe l vs) f k 0 [] h1 = .ok ys h2) : eComp w g t e vs l h = .ok (.ref h2.length) (h2 ++ [.lst ys]) := by
  unfold eComp
  rw [ew, bind_ok]
  dsimp only
  rw [ec]
  rfl
theorem for_dyn {w : W} {g : G} {s : S} {l : Loc} {h h1 : H} {f : H → Option (List D)} {k : Nat} (e : w l h = .ok (.dyn f k) h1) : sFor w g s l h = loopD g s f k 0 l h1 := by
  unfold sFor
  rw [e]
  rfl
theorem enum_tup {a : E} {l : Loc} {h h1 : H} {xs : List D} (e : a l h = .ok (.tup xs) h1) : wEnum (aCons a aNil) l h = .ok (.snap (enumG 0 xs)) h1 := by
  unfold wEnum
  rw [cons_eq e nil_eq]
  rfl
theorem enum_lst {a : E} {l : Loc} {h h1 : H} {n : Nat} {xs : List D} (e : a l h = .ok (.ref n) h1) (en : h1[n]? = some (.lst xs)) : wEnum (aCons a aNil) l h = .ok (.dyn (enumAt n) (xs.length + 1)) h1 := by
  unfold wEnum
  rw [cons_eq e nil_eq, bind_ok]
  dsimp only
  rw [en]
theorem enumAt_eq {h : H} {n : Nat} {xs : List D} (en : h[n]? = some (.lst xs)) : enumAt n h = some (enumG 0 xs) := by
  unfold enumAt lstAt
  rw [en]
  rfl
theorem zip_lst {a b : E} {l : Loc} {h h1 h2 : H} {n m : Nat} {xs ys : List D} (e : a l h = .ok (.ref n) h1) (e2 : b l h1 = .ok (.ref m) h2) (en : h2[n]? = some (.lst xs)) (em : h2[m]? = some (.lst ys)) : wZip (aCons a (aCons b aNil)) l h = .ok (.dyn (zipAt n m) (xs.length + 1)) h2 := by
  unfold wZip
  rw [cons_eq e (cons_eq e2 nil_eq), bind_ok]
  dsimp only
  rw [en, em]
theorem zipAt_eq {h : H} {n m : Nat} {xs ys : List D} (en : h[n]? = some (.lst xs)) (em : h[m]? = some (.lst ys)) : zipAt n m h = some (zipG xs ys) := by
  unfold zipAt lstAt
  rw [en, em]
  rfl
theorem zipG_len : ∀ xs ys : List D, (zipG xs ys).length ≤ xs.length
  | [], _ => Nat.le_refl _
  | x :: xs, [] => Nat.zero_le _
  | x :: xs, y :: ys => by
    have := zipG_len xs ys
    show (zipG xs ys).length + 1 ≤ xs.length + 1
    omega
theorem enumG_len : ∀ (xs : List D) (i : Nat), (enumG i xs).length = xs.length
  | [], _ => rfl
  | x :: xs, i => by
    show (enumG (i + 1) xs).length + 1 = xs.length + 1
    rw [enumG_len xs (i + 1)]
theorem comp2_snap {w : W} {g : G} {u : A} {g1 : G} {t1 : T} {e : E} {vs vs1 : List Nat} {l : Loc} {h h1 h2 : H} {xs ys : List D} (ew : w l h = .ok (.snap xs) h1) (ec : lc2S g u g1 t1 e vs1 (wipe l vs) xs [] h1 = .ok ys h2) : eComp2 w g u g1 t1 e vs vs1 l h = .ok (.ref h2.length) (h2 ++ [.lst ys]) := by
  unfold eComp2
  rw [ew, bind_ok]
  dsimp only
  rw [ec]
  rfl
end FL

end

section
set_option Elab.async false
set_option linter.all false
namespace FL
theorem gAdd {b : Nat} {t : Cell} {h : H} (u : Cell) (e : h[b]? = some t) : (h ++ [u])[b]? = some t := (Ex.add h u).get e
theorem gNew {t : Cell} {h : H} : (h ++ [t])[h.length]? = some t := by simp
theorem gSet {b m : Nat} {t : Cell} {h : H} (u : Cell) (hm : m ≠ b) (e : h[b]? = some t) : (h.set m u)[b]? = some t := by rw [List.getElem?_set_ne hm, e]
theorem gOwn {m : Nat} {t : Cell} {h : H} (u : Cell) (e : h[m]? = some t) : (h.set m u)[m]? = some u := List.getElem?_set_self (List.getElem?_eq_some_iff.mp e).1
theorem sqRef {a : Nat} {xs : List D} {h : H} (e : h[a]? = some (.lst xs)) : seqOf (.ref a) h = some xs := by
  unfold seqOf
  dsimp only
  rw [e]
theorem lcsInv {g : G} {t : T} {e : E} {l : Loc} (I : List D → List D → H → Prop) (step : ∀ d ds acc h, I (d :: ds) acc h → ∃ acc' h', lcTurn g t e l d acc h = .ok acc' h' ∧ I ds acc' h') : ∀ ds acc h, I ds acc h → ∃ acc' h', lcS g t e l ds acc h = .ok acc' h' ∧ I [] acc' h'
  | [], acc, h, i => ⟨acc, h, rfl, i⟩
  | d :: ds, acc, h, i => by
    obtain ⟨acc1, h1, e1, i1⟩ := step d ds acc h i
    obtain ⟨acc2, h2, e2, i2⟩ := lcsInv I step ds acc1 h1 i1
    refine ⟨acc2, h2, ?_, i2⟩
    show (match lcTurn g t e l d acc h with
      | .ok acc' h' => lcS g t e l ds acc' h'
      | _ => .bad) = _
    rw [e1]
    exact e2
theorem lcdInv {g : G} {t : T} {e : E} {l : Loc} {f : H → Option (List D)} {xs : List D} (I : Nat → List D → H → Prop) (at' : ∀ i acc h, I i acc h → f h = some xs) (step : ∀ i d acc h, I i acc h → xs[i]? = some d → ∃ acc' h', lcTurn g t e l d acc h = .ok acc' h' ∧ I (i + 1) acc' h') : ∀ (k i : Nat) (acc : List D) (h : H), xs.length < k + i → i ≤ xs.length → I i acc h → ∃ acc' h', lcD g t e l f k i acc h = .ok acc' h' ∧ I xs.length acc' h'
  | 0, i, acc, h, ef, le, q => by omega
  | k + 1, i, acc, h, ef, le, q => by
    have ea := at' i acc h q
    by_cases hi : i < xs.length
    · have ed : xs[i]? = some xs[i] := List.getElem?_eq_getElem hi
      obtain ⟨acc1, h1, e1, i1⟩ := step i xs[i] acc h q ed
      obtain ⟨acc2, h2, e2, i2⟩ := lcdInv I at' step k (i + 1) acc1 h1 (by omega) (by omega) i1
      refine ⟨acc2, h2, ?_, i2⟩
      unfold lcD
      rw [ea]
      dsimp only
      rw [ed]
      dsimp only
      rw [e1]
      exact e2
    · obtain rfl : i = xs.length := by omega
      refine ⟨acc, h, ?_, q⟩
      unfold lcD
      rw [ea]
      dsimp only
      rw [List.getElem?_eq_none (Nat.le_refl _)]
/-- a loop that may answer -/
theorem loopS_ret {g : G} {b : S} (I : List D → Loc → H → Prop) (R : D → H → Prop) (step : ∀ d ds l h, I (d :: ds) l h → (∃ l' h', turnS g b d l h = .nx l' h' ∧ I ds l' h') ∨ ∃ x h', turnS g b d l h = .rt x h' ∧ R x h') : ∀ ds l h, I ds l h → (∃ l' h', loopS g b ds l h = .nx l' h' ∧ I [] l' h') ∨ ∃ x h', loopS g b ds l h = .rt x h' ∧ R x h'
  | [], l, h, i => .inl ⟨l, h, rfl, i⟩
  | d :: ds, l, h, i => by
    have un : ∀ z, turnS g b d l h = z → loopS g b (d :: ds) l h = (match z with
      | .nx l2 h2 => loopS g b ds l2 h2
      | .ct l2 h2 => loopS g b ds l2 h2
      | .bk l2 h2 => .nx l2 h2
      | r => r) := fun z e => by
      subst e
      rfl
    rcases step d ds l h i with ⟨l1, h1, e1, i1⟩ | ⟨x, h1, e1, i1⟩
    · rw [un _ e1]
      exact loopS_ret I R step ds l1 h1 i1
    · exact .inr ⟨x, h1, un _ e1, i1⟩
theorem loopD_ret {g : G} {b : S} {f : H → Option (List D)} {xs : List D} (I : Nat → Loc → H → Prop) (R : D → H → Prop) (at' : ∀ i l h, I i l h → f h = some xs) (step : ∀ i d l h, I i l h → xs[i]? = some d → (∃ l' h', turnS g b d l h = .nx l' h' ∧ I (i + 1) l' h') ∨ ∃ x h', turnS g b d l h = .rt x h' ∧ R x h') : ∀ k i l h, xs.length < k + i → i ≤ xs.length → I i l h → (∃ l' h', loopD g b f k i l h = .nx l' h' ∧ I xs.length l' h') ∨ ∃ x h', loopD g b f k i l h = .rt x h' ∧ R x h'
  | 0, i, l, h, ef, le, q => by omega
  | k + 1, i, l, h, ef, le, q => by
    have ea := at' i l h q
    by_cases hi : i < xs.length
    · have ed : xs[i]? = some xs[i] := List.getElem?_eq_getElem hi
      have un : ∀ z, turnS g b xs[i] l h = z → loopD g b f (k + 1) i l h = (match z with
        | .nx l2 h2 => loopD g b f k (i + 1) l2 h2
        | .ct l2 h2 => loopD g b f k (i + 1) l2 h2
        | .bk l2 h2 => .nx l2 h2
        | r => r) := fun z e => by
        subst e
        conv => lhs; unfold loopD
        rw [ea]
        dsimp only
        rw [ed]
        try rfl
      rcases step i xs[i] l h q ed with ⟨l1, h1, e1, i1⟩ | ⟨x, h1, e1, i1⟩
      · rw [un _ e1]
        exact loopD_ret I R at' step k (i + 1) l1 h1 (by omega) (by omega) i1
      · exact .inr ⟨x, h1, un _ e1, i1⟩
    · obtain rfl : i = xs.length := by omega
      refine .inl ⟨l, h, ?_, q⟩
      unfold loopD
      rw [ea]
      dsimp only
      rw [List.getElem?_eq_none (Nat.le_refl _)]
theorem loopL_ret {g : G} {b : S} {n : Nat} {xs : List D} (I : Nat → Loc → H → Prop) (R : D → H → Prop) (at' : ∀ i l h, I i l h → h[n]? = some (.lst xs)) (step : ∀ i d l h, I i l h → xs[i]? = some d → (∃ l' h', turnS g b d l h = .nx l' h' ∧ I (i + 1) l' h') ∨ ∃ x h', turnS g b d l h = .rt x h' ∧ R x h') : ∀ k i l h, xs.length < k + i → i ≤ xs.length → I i l h → (∃ l' h', loopL g b n k i l h = .nx l' h' ∧ I xs.length l' h') ∨ ∃ x h', loopL g b n k i l h = .rt x h' ∧ R x h'
  | 0, i, l, h, ef, le, q => by omega
  | k + 1, i, l, h, ef, le, q => by
    have ea := at' i l h q
    by_cases hi : i < xs.length
    · have ed : xs[i]? = some xs[i] := List.getElem?_eq_getElem hi
      have un : ∀ z, turnS g b xs[i] l h = z → loopL g b n (k + 1) i l h = (match z with
        | .nx l2 h2 => loopL g b n k (i + 1) l2 h2
        | .ct l2 h2 => loopL g b n k (i + 1) l2 h2
        | .bk l2 h2 => .nx l2 h2
        | r => r) := fun z e => by
        subst e
        conv => lhs; unfold loopL
        rw [ea]
        dsimp only
        rw [ed]
        try rfl
      rcases step i xs[i] l h q ed with ⟨l1, h1, e1, i1⟩ | ⟨x, h1, e1, i1⟩
      · rw [un _ e1]
        exact loopL_ret I R at' step k (i + 1) l1 h1 (by omega) (by omega) i1
      · exact .inr ⟨x, h1, un _ e1, i1⟩
    · obtain rfl : i = xs.length := by omega
      refine .inl ⟨l, h, ?_, q⟩
      unfold loopL
      rw [ea]
      dsimp only
      rw [List.getElem?_eq_none (Nat.le_refl _)]
end FL

end

section
set_option Elab.async false
set_option linter.all false
namespace FL
open PySem (PyData)
/-! Texts of values. -/
/-- a value whose text is short -/
structure Fine (p : PyData) : Prop where
  lay : p.canLay0 = true
  show' : p.showable = true
  deep : p.depth ≤ 60
  short : p.intsShort 13 = true
theorem Fine.text {p : PyData} (f : Fine p) (hw : p.weight ≤ 3300) : p.shown.length ≤ LIM := by
  have h := PySem.PyData.shown_le 13 (by decide) p (PySem.PyData.leavesShort_of_canLay0 13 p f.lay f.short)
  unfold LIM
  omega
theorem repr_eq {d : D} {h : H} {p : PyData} (e : toP h d = some p) (f : Fine p) (hw : p.weight ≤ 3300) (hi : ∀ i : Int, d = .int i → smallI i = true) : fRepr [d] h = .ok (.str (shown p)) h := by
  have c : p.showable = true ∧ p.depth ≤ 64 ∧ p.shown.length ≤ LIM := ⟨f.show', by have := f.deep; omega, f.text hw⟩
  by_cases q : ∃ i : Int, d = .int i
  · obtain ⟨i, rfl⟩ := q
    have e2 : p = .int i := by
      unfold toP at e
      rw [toD] at e
      exact (Option.some.inj e).symm
    subst e2
    unfold fRepr
    dsimp only
    rw [if_pos (hi i rfl)]
    rfl
  · unfold fRepr
    split
    · rename_i i ei
      exact absurd ⟨i, (List.cons.inj ei).1⟩ q
    · rename_i d' hn hd
      obtain rfl : d = d' := (List.cons.inj hd).1
      rw [e]
      exact if_pos c
    · rename_i hn1 hn2
      exact absurd rfl (hn2 d)
/-- ints that are small -/
theorem fine_int {i : Int} (h : i.natAbs < 10 ^ 12) : Fine (.int i) where
  lay := by simp [PyData.canLay0]
  show' := by
    simp only [PyData.showable, decide_eq_true_eq]
    have h2 : i.natAbs < 2 ^ 1920 := Nat.lt_of_lt_of_le (Nat.lt_trans h (show (10 : Nat) ^ 12 < 2 ^ 40 by decide)) (Nat.pow_le_pow_right (by decide) (show 40 ≤ 1920 by decide))
    by_cases hz : i.natAbs = 0
    · rw [hz]; decide
    · exact (Nat.log2_lt hz).mpr h2
  deep := by simp [PyData.depth]
  short := by
    simp only [PyData.intsShort, decide_eq_true_eq]
    exact PySem.PyData.shown_int_le h
theorem lay_all : ∀ ps : List PyData, (∀ p ∈ ps, Fine p) → PyData.canLayAll0 ps = true
  | [], _ => rfl
  | p :: ps, h => by
    simp only [PyData.canLayAll0, (h p List.mem_cons_self).lay, lay_all ps fun q hq => h q (List.mem_cons_of_mem _ hq), Bool.and_self]
theorem show_all : ∀ ps : List PyData, (∀ p ∈ ps, Fine p) → PyData.showableAll ps = true
  | [], _ => rfl
  | p :: ps, h => by
    simp only [PyData.showableAll, (h p List.mem_cons_self).show', show_all ps fun q hq => h q (List.mem_cons_of_mem _ hq), Bool.and_self]
theorem short_all : ∀ ps : List PyData, (∀ p ∈ ps, Fine p) → PyData.intsShortAll 13 ps = true
  | [], _ => rfl
  | p :: ps, h => by
    simp only [PyData.intsShortAll, (h p List.mem_cons_self).short, short_all ps fun q hq => h q (List.mem_cons_of_mem _ hq), Bool.and_self]
theorem deep_all (n : Nat) : ∀ ps : List PyData, (∀ p ∈ ps, p.depth ≤ n) → PyData.depthAll ps ≤ n
  | [], _ => Nat.zero_le _
  | p :: ps, h => by
    have h1 := h p List.mem_cons_self
    have h2 := deep_all n ps fun q hq => h q (List.mem_cons_of_mem _ hq)
    simp only [PyData.depthAll]
    omega
theorem weight_all (n : Nat) : ∀ ps : List PyData, (∀ p ∈ ps, p.weight ≤ n) → PyData.weightAll ps ≤ ps.length * (n + 1)
  | [], _ => by simp [PyData.weightAll]
  | p :: ps, h => by
    have h1 := h p List.mem_cons_self
    have h2 := weight_all n ps fun q hq => h q (List.mem_cons_of_mem _ hq)
    simp only [PyData.weightAll, List.length_cons, Nat.succ_mul]
    omega
theorem fine_tup {ps : List PyData} (h : ∀ p ∈ ps, Fine p) (hd : ∀ p ∈ ps, p.depth ≤ 59) : Fine (.tuple ps) where
  lay := by simp only [PyData.canLay0]; exact lay_all ps h
  show' := by simp only [PyData.showable]; exact show_all ps h
  deep := by have := deep_all 59 ps hd; simp only [PyData.depth]; omega
  short := by simp only [PyData.intsShort]; exact short_all ps h
theorem fine_lst {ps : List PyData} (h : ∀ p ∈ ps, Fine p) (hd : ∀ p ∈ ps, p.depth ≤ 59) : Fine (.list ps) where
  lay := by simp only [PyData.canLay0]; exact lay_all ps h
  show' := by simp only [PyData.showable]; exact show_all ps h
  deep := by have := deep_all 59 ps hd; simp only [PyData.depth]; omega
  short := by simp only [PyData.intsShort]; exact short_all ps h
/-- the weight of a number below 2^k -/
theorem weight_int {i : Int} {k : Nat} (h : i.natAbs < 2 ^ k) : PyData.weight (.int i) ≤ k := by
  simp only [PyData.weight]
  split
  · omega
  · rename_i hz
    have hz2 : i.natAbs ≠ 0 := fun e => hz (by simp; omega)
    have := (Nat.log2_lt hz2).mpr h
    omega
theorem rng_len (lo hi : Int) : (rng lo hi).length = (hi - lo).toNat := by
  unfold rng
  simp
theorem mul_eq {i j : Int} {h : H} (hi : smallI i = true) : vMul (.int i) (.int j) h = .ok (.int (i * j)) h := by
  unfold vMul
  exact if_pos (.inl hi)
end FL

end

section
set_option linter.all false
/-! The least sum that covers a length: reckoned length by length. -/
namespace FL
/-- the least of w + f (k - l) -/
def best (f : Nat → Nat) (k : Nat) : List (Nat × Nat) → Option Nat
  | [] => none
  | (l, w) :: ps => match best f k ps with
    | none => some (w + f (k - l))
    | some b => some (min (w + f (k - l)) b)
/-- the sums of the lengths 0 .. n -/
def sums (ps : List (Nat × Nat)) : Nat → List Nat
  | 0 => [0]
  | n + 1 => sums ps n ++ [(best (fun i => (sums ps n).getD i 0) (n + 1) ps).getD 0]
def cost (ps : List (Nat × Nat)) (k : Nat) : Nat := (sums ps k).getD k 0
theorem sums_len (ps : List (Nat × Nat)) : ∀ n, (sums ps n).length = n + 1
  | 0 => rfl
  | n + 1 => by simp [sums, sums_len ps n]
theorem sums_at (ps : List (Nat × Nat)) : ∀ n k, k ≤ n → (sums ps n).getD k 0 = cost ps k
  | 0, k, h => by
    obtain rfl : k = 0 := by omega
    rfl
  | n + 1, k, h => by
    by_cases e : k = n + 1
    · subst e
      rfl
    · have hk : k < (sums ps n).length := by rw [sums_len]; omega
      show (sums ps n ++ [_]).getD k 0 = _
      rw [List.getD_eq_getElem?_getD, List.getElem?_append_left hk, ← List.getD_eq_getElem?_getD]
      exact sums_at ps n k (by omega)
theorem best_congr {f g : Nat → Nat} {k : Nat} : ∀ {ps : List (Nat × Nat)}, (∀ p ∈ ps, f (k - p.1) = g (k - p.1)) → best f k ps = best g k ps
  | [], _ => rfl
  | (l, w) :: ps, h => by
    have e1 : f (k - l) = g (k - l) := h (l, w) List.mem_cons_self
    have e2 := best_congr (f := f) (g := g) (k := k) (ps := ps) fun p hp => h p (List.mem_cons_of_mem _ hp)
    unfold best
    rw [e1, e2]
theorem best_le {f : Nat → Nat} {k : Nat} : ∀ {ps : List (Nat × Nat)} {b : Nat}, best f k ps = some b → ∀ p ∈ ps, b ≤ p.2 + f (k - p.1)
  | [], _, e, p, hp => by cases hp
  | (l, w) :: ps, b, e, p, hp => by
    unfold best at e
    cases q : best f k ps with
    | none =>
      rw [q] at e
      cases e
      cases ps with
      | nil =>
        cases hp with
        | head => exact Nat.le_refl _
        | tail _ hp => cases hp
      | cons y ys =>
        unfold best at q
        split at q <;> cases q
    | some c =>
      rw [q] at e
      cases e
      rcases List.mem_cons.mp hp with rfl | hp
      · exact Nat.min_le_left _ _
      · exact Nat.le_trans (Nat.min_le_right _ _) (best_le q p hp)
theorem best_mem {f : Nat → Nat} {k : Nat} : ∀ {ps : List (Nat × Nat)} {b : Nat}, best f k ps = some b → ∃ p ∈ ps, b = p.2 + f (k - p.1)
  | [], _, e => by cases e
  | (l, w) :: ps, b, e => by
    unfold best at e
    cases q : best f k ps with
    | none =>
      rw [q] at e
      cases e
      exact ⟨(l, w), List.mem_cons_self, rfl⟩
    | some c =>
      rw [q] at e
      cases e
      obtain ⟨p, hp, ep⟩ := best_mem q
      rcases Nat.le_total (w + f (k - l)) c with h | h
      · exact ⟨(l, w), List.mem_cons_self, Nat.min_eq_left h⟩
      · exact ⟨p, List.mem_cons_of_mem _ hp, by rw [Nat.min_eq_right h]; exact ep⟩
theorem best_some {f : Nat → Nat} {k : Nat} : ∀ {ps : List (Nat × Nat)}, ps ≠ [] → ∃ b, best f k ps = some b
  | [], h => absurd rfl h
  | (l, w) :: ps, _ => by
    unfold best
    split <;> exact ⟨_, rfl⟩
section
variable {ps : List (Nat × Nat)} (hl : ∀ p ∈ ps, 1 ≤ p.1) (hne : ps ≠ [])
include hl hne
theorem cost_zero : cost ps 0 = 0 := rfl
theorem cost_best (n : Nat) : best (cost ps) (n + 1) ps = some (cost ps (n + 1)) := by
  have e : best (fun i => (sums ps n).getD i 0) (n + 1) ps = best (cost ps) (n + 1) ps := best_congr fun p hp => sums_at ps n _ (by have := hl p hp; omega)
  obtain ⟨b, eb⟩ := best_some (f := cost ps) (k := n + 1) hne
  have : cost ps (n + 1) = b := by
    show (sums ps n ++ [_]).getD (n + 1) 0 = b
    have hz := sums_len ps n
    rw [e, eb]
    simp [List.getD_eq_getElem?_getD, hz]
  rw [eb, this]
theorem cost_le (n : Nat) {p : Nat × Nat} (hp : p ∈ ps) : cost ps (n + 1) ≤ p.2 + cost ps (n + 1 - p.1) := best_le (cost_best hl hne n) p hp
theorem cost_mem (n : Nat) : ∃ p ∈ ps, cost ps (n + 1) = p.2 + cost ps (n + 1 - p.1) := best_mem (cost_best hl hne n)
/-- never falls -/
theorem cost_up : ∀ n m : Nat, m ≤ n → cost ps m ≤ cost ps n := fun n => by
  induction n using Nat.strongRecOn with
  | ind n ih =>
    intro m h
    cases n with
    | zero =>
      obtain rfl : m = 0 := by omega
      exact Nat.le_refl _
    | succ n =>
      cases m with
      | zero => exact Nat.zero_le _
      | succ m =>
        obtain ⟨p, hp, e⟩ := cost_mem hl hne n
        have h1 := cost_le hl hne m hp
        have h2 := hl p hp
        have h3 := ih (n + 1 - p.1) (by omega) (m + 1 - p.1) (by omega)
        omega
/-- two lengths together -/
theorem cost_add : ∀ m n : Nat, cost ps (m + n) ≤ cost ps m + cost ps n := fun m => by
  induction m using Nat.strongRecOn with
  | ind m ih =>
    intro n
    cases m with
    | zero => rw [Nat.zero_add]; exact Nat.le_add_left _ _
    | succ m =>
      obtain ⟨p, hp, e⟩ := cost_mem hl hne m
      have h2 := hl p hp
      have h1 := cost_le hl hne (m + n) hp
      have e1 : m + n + 1 = m + 1 + n := by omega
      rw [e1] at h1
      by_cases hc : p.1 ≤ m + 1
      · have h3 := ih (m + 1 - p.1) (by omega) n
        have e2 : m + 1 - p.1 + n = m + 1 + n - p.1 := by omega
        rw [e2] at h3
        omega
      · have h3 := cost_up hl hne n (m + 1 + n - p.1) (by omega)
        omega
/-- a limit's own length; some of them -/
theorem cost_own {p : Nat × Nat} (hp : p ∈ ps) : ∀ t : Nat, cost ps (p.1 * t) ≤ p.2 * t
  | 0 => by rw [Nat.mul_zero]; exact Nat.zero_le _
  | t + 1 => by
    have h2 := hl p hp
    have h3 := cost_own hp t
    obtain ⟨k, ek⟩ : ∃ k, p.1 * (t + 1) = k + 1 := ⟨p.1 * (t + 1) - 1, by have : 1 ≤ p.1 * (t + 1) := Nat.mul_pos (by omega) (by omega); omega⟩
    have h1 := cost_le hl hne k hp
    rw [← ek] at h1
    have e2 : p.1 * (t + 1) - p.1 = p.1 * t := by rw [Nat.mul_succ]; omega
    rw [e2] at h1
    have e3 : p.2 * (t + 1) = p.2 * t + p.2 := Nat.mul_succ _ _
    omega
end
end FL

end

section
set_option linter.all false
/-! Rows that keep limits: the most requests of all of them is the least sum. -/
namespace FL
def keepsP (ps : List (Nat × Nat)) (r : List Nat) : Prop := ∀ p ∈ ps, ∀ s, s < r.length → ((r.drop s).take p.1).sum ≤ p.2
theorem sum_take (r : List Nat) (k : Nat) : (r.take k).sum ≤ r.sum := by
  have : (r.take k).sum + (r.drop k).sum = r.sum := by rw [← List.sum_append, List.take_append_drop]
  omega
theorem keeps_take {ps : List (Nat × Nat)} {r : List Nat} (q : keepsP ps r) (k : Nat) : keepsP ps (r.take k) := fun p hp s hs => by
  rw [List.length_take] at hs
  have h := q p hp s (by omega)
  have e : ((r.take k).drop s).take p.1 = ((r.drop s).take p.1).take (k - s) := by
    rw [List.drop_take, List.take_take, List.take_take, Nat.min_comm]
  rw [e]
  exact Nat.le_trans (sum_take _ _) h
section
variable {ps : List (Nat × Nat)} (hl : ∀ p ∈ ps, 1 ≤ p.1) (hne : ps ≠ [])
include hl hne
/-- a row that keeps them has at most the least sum -/
theorem keeps_le : ∀ (n : Nat) (r : List Nat), r.length = n → keepsP ps r → r.sum ≤ cost ps n := fun n => by
  induction n using Nat.strongRecOn with
  | ind n ih =>
    intro r hr q
    cases n with
    | zero =>
      rw [List.length_eq_zero_iff.mp hr]
      exact Nat.zero_le _
    | succ n =>
      obtain ⟨p, hp, e⟩ := cost_mem hl hne n
      have h1 := hl p hp
      have h2 := ih (n + 1 - p.1) (by omega) (r.take (n + 1 - p.1)) (by rw [List.length_take]; omega) (keeps_take q _)
      have h3 := q p hp (n + 1 - p.1) (by omega)
      rw [List.take_of_length_le (by rw [List.length_drop]; omega)] at h3
      have h4 : (r.take (n + 1 - p.1)).sum + (r.drop (n + 1 - p.1)).sum = r.sum := by rw [← List.sum_append, List.take_append_drop]
      omega
theorem full_sum (s : Nat) : ∀ k : Nat, ((List.range' s k).map fun t => cost ps (t + 1) - cost ps t).sum + cost ps s = cost ps (s + k)
  | 0 => by simp
  | k + 1 => by
    rw [List.range'_concat, List.map_append, List.sum_append]
    have h := full_sum s k
    have u := cost_up hl hne (s + 1 * k + 1) (s + 1 * k) (by omega)
    simp only [List.map_cons, List.map_nil, List.sum_cons, List.sum_nil]
    rw [Nat.one_mul] at u ⊢
    rw [show s + (k + 1) = s + k + 1 by omega]
    omega
/-- the fullest row -/
def fullP (ps : List (Nat × Nat)) (n : Nat) : List Nat := (List.range' 0 n).map fun t => cost ps (t + 1) - cost ps t
theorem fullP_len (n : Nat) : (fullP ps n).length = n := by simp [fullP]
theorem fullP_sum (n : Nat) : (fullP ps n).sum = cost ps n := by
  have := full_sum hl hne 0 n
  rw [Nat.zero_add, cost_zero hl hne] at this
  exact this
theorem take_range' (s k n : Nat) : (List.range' s n).take k = List.range' s (min k n) := by
  exact List.ext_getElem (by simp) (fun i h1 h2 => by simp)
theorem fullP_keeps (n : Nat) : keepsP ps (fullP ps n) := fun p hp s hs => by
  rw [fullP_len hl hne] at hs
  have e : (((fullP ps n).drop s).take p.1) = (List.range' s (min p.1 (n - s))).map fun t => cost ps (t + 1) - cost ps t := by
    unfold fullP
    rw [← List.map_drop, ← List.map_take]
    have : (List.range' 0 n).drop s = List.range' s (n - s) := by
      rw [List.drop_range']
      simp
    rw [this, take_range' hl hne]
  rw [e]
  have h1 := full_sum hl hne s (min p.1 (n - s))
  have h2 := cost_add hl hne s (min p.1 (n - s))
  have h3 := cost_up hl hne p.1 (min p.1 (n - s)) (Nat.min_le_left _ _)
  have h4 := cost_own hl hne hp 1
  rw [Nat.mul_one, Nat.mul_one] at h4
  omega
theorem fullP_small (n m : Nat) (hm : ∀ p ∈ ps, p.2 ≤ m) : ∀ x ∈ fullP ps n, x ≤ m := fun x hx => by
  obtain ⟨t, _, rfl⟩ := List.mem_map.mp hx
  obtain ⟨p, hp⟩ := List.exists_mem_of_ne_nil ps hne
  have h1 := cost_add hl hne t 1
  have h2 := cost_up hl hne p.1 1 (hl p hp)
  have h3 := cost_own hl hne hp 1
  rw [Nat.mul_one, Nat.mul_one] at h3
  have h4 := hm p hp
  omega
end
/-- all rows of so many ticks, at most m requests in each -/
def rowsP (m : Nat) : Nat → List (List Nat)
  | 0 => [[]]
  | n + 1 => (rowsP m n).flatMap fun r => (List.range (m + 1)).map fun i => r ++ [i]
theorem mem_rowsP (m : Nat) : ∀ (n : Nat) (r : List Nat), r ∈ rowsP m n ↔ r.length = n ∧ ∀ x ∈ r, x ≤ m
  | 0, r => by
    simp only [rowsP, List.mem_singleton]
    constructor
    · rintro rfl
      simp
    · rintro ⟨h, _⟩
      exact List.length_eq_zero_iff.mp h
  | n + 1, r => by
    simp only [rowsP, List.mem_flatMap, List.mem_map, List.mem_range]
    constructor
    · rintro ⟨q, hq, i, hi, rfl⟩
      obtain ⟨h1, h2⟩ := (mem_rowsP m n q).mp hq
      refine ⟨by simp [h1], fun x hx => ?_⟩
      rcases List.mem_append.mp hx with hx | hx
      · exact h2 x hx
      · rw [List.mem_singleton.mp hx]; omega
    · rintro ⟨h1, h2⟩
      have hne : r ≠ [] := fun e => by rw [e] at h1; cases h1
      refine ⟨r.dropLast, (mem_rowsP m n _).mpr ⟨by rw [List.length_dropLast]; omega, fun x hx => h2 x ((List.dropLast_sublist r).subset hx)⟩, r.getLast hne, ?_, List.dropLast_concat_getLast hne⟩
      have := h2 _ (List.getLast_mem hne)
      omega
theorem rowsP_len (m : Nat) : ∀ n, (rowsP m n).length = (m + 1) ^ n
  | 0 => rfl
  | n + 1 => by
    have : ∀ xs : List (List Nat), (xs.flatMap fun r => (List.range (m + 1)).map fun i => r ++ [i]).length = xs.length * (m + 1) := by
      intro xs
      induction xs with
      | nil => simp
      | cons x xs ih => rw [List.flatMap_cons, List.length_append, ih, List.length_map, List.length_range, List.length_cons, Nat.succ_mul]; omega
    rw [rowsP, this, rowsP_len m n, Nat.pow_succ]
end FL

end

section
set_option Elab.async false
set_option linter.all false
namespace FL
theorem while_all {t : T} {b : S} {N : Nat} (I : Nat → Loc → H → Prop) (step : ∀ k l h, k < N → I k l h → ∃ l' h', t l h = .ok true h ∧ b l h = .nx l' h' ∧ I (k + 1) l' h') (stop : ∀ l h, I N l h → t l h = .ok false h) : ∀ f k l h, N < f + k → k ≤ N → I k l h → ∃ l' h', whileF t b f l h = .nx l' h' ∧ I N l' h'
  | 0, k, l, h, hf, hk, i => by omega
  | f + 1, k, l, h, hf, hk, i => by
    by_cases e : k = N
    · subst e
      refine ⟨l, h, ?_, i⟩
      show ofRes l (t l h) _ = _
      rw [stop l h i]
      rfl
    · obtain ⟨l1, h1, e1, e2, i1⟩ := step k l h (by omega) i
      obtain ⟨l2, h2, e3, i2⟩ := while_all I step stop f (k + 1) l1 h1 (by omega) (by omega) i1
      refine ⟨l2, h2, ?_, i2⟩
      show ofRes l (t l h) _ = _
      rw [e1]
      show (match b l h with
        | .nx l2 h2 => whileF t b f l2 h2
        | .ct l2 h2 => whileF t b f l2 h2
        | .bk l2 h2 => .nx l2 h2
        | r => r) = _
      rw [e2]
      exact e3
theorem aug_eq {i : Nat} {f : D → D → H → Res D} {e : E} {l : Loc} {h h1 h2 : H} {x y z : D} (ei : l[i]? = some (some x)) (e1 : e l h = .ok y h1) (e2 : f x y h1 = .ok z h2) : sAug i f e l h = .nx (l.set i (some z)) h2 := by
  unfold sAug
  rw [ei]
  dsimp only
  rw [e1]
  show ofRes l (f x y h1) _ = _
  rw [e2]
  rfl
theorem star_eq {e : E} {r : A} {l : Loc} {h h1 h2 : H} {x : D} {xs ys : List D} (e1 : e l h = .ok x h1) (e2 : seqOf x h1 = some xs) (e3 : r l h1 = .ok ys h2) : aStarQ e r l h = .ok (xs ++ ys) h2 := by
  unfold aStarQ
  rw [e1, bind_ok, e2]
  dsimp only
  rw [e3, bind_ok]
theorem cutL_eq {a b : E} {l : Loc} {h h1 h2 : H} {x : D} {u : Int} (e1 : a l h = .ok x h1) (e2 : b l h1 = .ok (.int u) h2) : eCut a (some b) none l h = vCut x (some u) none h2 := by
  unfold eCut
  rw [e1, bind_ok]
  unfold part
  dsimp only
  rw [e2, bind_ok]
  rfl
theorem cutR_eq {a b : E} {l : Loc} {h h1 h2 : H} {x : D} {u : Int} (e1 : a l h = .ok x h1) (e2 : b l h1 = .ok (.int u) h2) : eCut a none (some b) l h = vCut x none (some u) h2 := by
  unfold eCut
  rw [e1, bind_ok]
  unfold part
  dsimp only
  rw [bind_ok, e2, bind_ok]
  rfl
theorem cut_from {α : Type} (xs : List α) (s : Nat) : cut xs (some (s : Int)) none = xs.drop s := by
  unfold cut sIx
  dsimp only
  rw [if_neg (by omega), Int.toNat_natCast]
  by_cases c : s ≤ xs.length
  · rw [Nat.min_eq_left c, List.take_of_length_le (by rw [List.length_drop]; omega)]
  · rw [Nat.min_eq_right (by omega), List.drop_of_length_le (Nat.le_refl _), List.drop_of_length_le (by omega)]
    simp
theorem cut_to {α : Type} (xs : List α) (s : Nat) : cut xs none (some (s : Int)) = xs.take s := by
  unfold cut sIx
  dsimp only
  rw [if_neg (by omega), Int.toNat_natCast, List.drop_zero, Nat.sub_zero]
  by_cases c : s ≤ xs.length
  · rw [Nat.min_eq_left c]
  · rw [Nat.min_eq_right (by omega), List.take_of_length_le (Nat.le_refl _), List.take_of_length_le (by omega)]
end FL

end

section
set_option linter.all false
/-! What limits let through of what comes: reckoned tick by tick. -/
namespace FL
/-- what has come in the first s ticks -/
def came (r : List Nat) (s : Nat) : Nat := (r.take s).sum
/-- what is through in the first 0 .. n ticks -/
def thrus (ps : List (Nat × Nat)) (r : List Nat) : Nat → List Nat
  | 0 => [0]
  | n + 1 => thrus ps r n ++ [min (came r (n + 1)) ((best (fun i => (thrus ps r n).getD i 0) (n + 1) ps).getD 0)]
def thru (ps : List (Nat × Nat)) (r : List Nat) (k : Nat) : Nat := (thrus ps r k).getD k 0
theorem thrus_len (ps : List (Nat × Nat)) (r : List Nat) : ∀ n, (thrus ps r n).length = n + 1
  | 0 => rfl
  | n + 1 => by simp [thrus, thrus_len ps r n]
theorem thrus_at (ps : List (Nat × Nat)) (r : List Nat) : ∀ n k, k ≤ n → (thrus ps r n).getD k 0 = thru ps r k
  | 0, k, h => by
    obtain rfl : k = 0 := by omega
    rfl
  | n + 1, k, h => by
    by_cases e : k = n + 1
    · subst e
      rfl
    · have hk : k < (thrus ps r n).length := by rw [thrus_len]; omega
      show (thrus ps r n ++ [_]).getD k 0 = _
      rw [List.getD_eq_getElem?_getD, List.getElem?_append_left hk, ← List.getD_eq_getElem?_getD]
      exact thrus_at ps r n k (by omega)
theorem came_up (r : List Nat) (a b : Nat) (h : a ≤ b) : came r a ≤ came r b := by
  obtain ⟨d, rfl⟩ : ∃ d, b = a + d := ⟨b - a, by omega⟩
  unfold came
  rw [List.take_add, List.sum_append]
  omega
theorem came_zero (r : List Nat) : came r 0 = 0 := by simp [came]
theorem came_all (r : List Nat) (n : Nat) (h : r.length ≤ n) : came r n = r.sum := by
  unfold came
  rw [List.take_of_length_le h]
theorem came_le (r : List Nat) (n : Nat) : came r n ≤ r.sum := by
  have := came_up r n (max n r.length) (by omega)
  rwa [came_all r (max n r.length) (by omega)] at this
theorem came_next (r : List Nat) (n : Nat) : came r (n + 1) = came r n + ((r.drop n).take 1).sum := by
  unfold came
  rw [List.take_add, List.sum_append]
section
variable {ps : List (Nat × Nat)} (hl : ∀ p ∈ ps, 1 ≤ p.1) (hne : ps ≠ [])
theorem thru_zero (r : List Nat) : thru ps r 0 = 0 := rfl
include hl hne
theorem thru_best (r : List Nat) (n : Nat) : ∃ b, best (thru ps r) (n + 1) ps = some b ∧ thru ps r (n + 1) = min (came r (n + 1)) b := by
  have e : best (fun i => (thrus ps r n).getD i 0) (n + 1) ps = best (thru ps r) (n + 1) ps := best_congr fun p hp => thrus_at ps r n _ (by have := hl p hp; omega)
  obtain ⟨b, eb⟩ := best_some (f := thru ps r) (k := n + 1) hne
  refine ⟨b, eb, ?_⟩
  show (thrus ps r n ++ [_]).getD (n + 1) 0 = _
  have hz := thrus_len ps r n
  rw [e, eb]
  simp [List.getD_eq_getElem?_getD, hz]
theorem thru_came (r : List Nat) (n : Nat) : thru ps r n ≤ came r n := by
  cases n with
  | zero => exact Nat.zero_le _
  | succ n =>
    obtain ⟨b, _, e⟩ := thru_best hl hne r n
    omega
theorem thru_le (r : List Nat) (n : Nat) {p : Nat × Nat} (hp : p ∈ ps) : thru ps r (n + 1) ≤ p.2 + thru ps r (n + 1 - p.1) := by
  obtain ⟨b, eb, e⟩ := thru_best hl hne r n
  have := best_le eb p hp
  omega
theorem thru_mem (r : List Nat) (n : Nat) : thru ps r (n + 1) = came r (n + 1) ∨ ∃ p ∈ ps, thru ps r (n + 1) = p.2 + thru ps r (n + 1 - p.1) := by
  obtain ⟨b, eb, e⟩ := thru_best hl hne r n
  obtain ⟨p, hp, ep⟩ := best_mem eb
  rcases Nat.le_total (came r (n + 1)) b with h | h
  · exact .inl (by omega)
  · exact .inr ⟨p, hp, by omega⟩
theorem thru_up (r : List Nat) : ∀ n m : Nat, m ≤ n → thru ps r m ≤ thru ps r n := fun n => by
  induction n using Nat.strongRecOn with
  | ind n ih =>
    intro m h
    cases n with
    | zero =>
      obtain rfl : m = 0 := by omega
      exact Nat.le_refl _
    | succ n =>
      cases m with
      | zero => exact Nat.zero_le _
      | succ m =>
        rcases thru_mem hl hne r n with e | ⟨p, hp, e⟩
        · have h1 := thru_came hl hne r (m + 1)
          have h2 := came_up r (m + 1) (n + 1) h
          omega
        · have h1 := thru_le hl hne r m hp
          have h2 := hl p hp
          have h3 := ih (n + 1 - p.1) (by omega) (m + 1 - p.1) (by omega)
          omega
/-- no more than came and was let by since -/
theorem thru_most (r : List Nat) : ∀ n s : Nat, s ≤ n → thru ps r n ≤ came r s + cost ps (n - s) := fun n => by
  induction n using Nat.strongRecOn with
  | ind n ih =>
    intro s h
    by_cases hs : s = n
    · subst hs
      have := thru_came hl hne r s
      omega
    · obtain ⟨k, ek⟩ : ∃ k, n - s = k + 1 := ⟨n - s - 1, by omega⟩
      obtain ⟨j, ej⟩ : ∃ j, n = j + 1 := ⟨n - 1, by omega⟩
      obtain ⟨p, hp, e⟩ := cost_mem hl hne k
      have h1 := hl p hp
      subst ej
      have h2 := thru_le hl hne r j hp
      rw [ek, e]
      by_cases hc : s ≤ j + 1 - p.1
      · have h3 := ih (j + 1 - p.1) (by omega) s hc
        rw [show j + 1 - p.1 - s = k + 1 - p.1 by omega] at h3
        omega
      · have h3 := thru_came hl hne r (j + 1 - p.1)
        have h4 := came_up r (j + 1 - p.1) s (by omega)
        omega
/-- just so many -/
theorem thru_just (r : List Nat) : ∀ n : Nat, ∃ s, s ≤ n ∧ thru ps r n = came r s + cost ps (n - s) := fun n => by
  have one : ∃ s, s ≤ n ∧ came r s + cost ps (n - s) ≤ thru ps r n := by
    induction n using Nat.strongRecOn with
    | ind n ih =>
      cases n with
      | zero => exact ⟨0, Nat.le_refl _, by simp [came_zero]; exact Nat.zero_le _⟩
      | succ n =>
        rcases thru_mem hl hne r n with e | ⟨p, hp, e⟩
        · exact ⟨n + 1, Nat.le_refl _, by rw [e, Nat.sub_self]; exact Nat.le_refl _⟩
        · have h1 := hl p hp
          obtain ⟨s, hs, es⟩ := ih (n + 1 - p.1) (by omega)
          refine ⟨s, by omega, ?_⟩
          have h2 := cost_le hl hne (n - s) hp
          rw [show n - s + 1 = n + 1 - s by omega] at h2
          rw [show n + 1 - s - p.1 = n + 1 - p.1 - s by omega] at h2
          omega
  obtain ⟨s, hs, es⟩ := one
  exact ⟨s, hs, Nat.le_antisymm (thru_most hl hne r n s hs) es⟩
/-- in twenty ticks one more, while one waits -/
theorem thru_more (hL : ∀ p ∈ ps, p.1 ≤ 20) (hM : ∀ p ∈ ps, 1 ≤ p.2) (r : List Nat) (n : Nat) (h : r.length ≤ n) : min r.sum (thru ps r n + 1) ≤ thru ps r (n + 20) := by
  rcases thru_mem hl hne r (n + 19) with e | ⟨p, hp, e⟩
  · rw [came_all r (n + 19 + 1) (by omega)] at e
    show _ ≤ thru ps r (n + 19 + 1)
    omega
  · have h1 := hL p hp
    have h2 := hM p hp
    have h3 := thru_up hl hne r (n + 19 + 1 - p.1) n (by omega)
    show _ ≤ thru ps r (n + 19 + 1)
    omega
theorem thru_end (hL : ∀ p ∈ ps, p.1 ≤ 20) (hM : ∀ p ∈ ps, 1 ≤ p.2) (r : List Nat) : ∀ j : Nat, min r.sum j ≤ thru ps r (r.length + 20 * j)
  | 0 => by omega
  | j + 1 => by
    have h1 := thru_end hL hM r j
    have h2 := thru_more hl hne hL hM r (r.length + 20 * j) (by omega)
    rw [show r.length + 20 * (j + 1) = r.length + 20 * j + 20 by omega]
    omega
/-- the first tick behind which none comes and none waits -/
theorem thru_last (hL : ∀ p ∈ ps, p.1 ≤ 20) (hM : ∀ p ∈ ps, 1 ≤ p.2) (r : List Nat) : ∃ N : Nat, N ≤ r.length + 20 * r.sum ∧ r.length ≤ N ∧ thru ps r N = r.sum ∧ ∀ k, k < N → k < r.length ∨ thru ps r k < r.sum := by
  have go : ∀ d : Nat, ∀ k : Nat, k + d = r.length + 20 * r.sum → (∀ i, i < k → i < r.length ∨ thru ps r i < r.sum) → ∃ N : Nat, N ≤ r.length + 20 * r.sum ∧ r.length ≤ N ∧ thru ps r N = r.sum ∧ ∀ k, k < N → k < r.length ∨ thru ps r k < r.sum := fun d => by
    induction d with
    | zero =>
      intro k ek hk
      have h1 := thru_end hl hne hL hM r r.sum
      rw [Nat.add_zero] at ek
      subst ek
      have h2 := thru_came hl hne r (r.length + 20 * r.sum)
      have h3 := came_le r (r.length + 20 * r.sum)
      exact ⟨_, Nat.le_refl _, by omega, by omega, hk⟩
    | succ d ih =>
      intro k ek hk
      have h2 := thru_came hl hne r k
      have h3 := came_le r k
      by_cases c : k < r.length ∨ thru ps r k < r.sum
      · exact ih (k + 1) (by omega) fun i hi => by
          by_cases e : i = k
          · subst e; exact c
          · exact hk i (by omega)
      · exact ⟨k, by omega, by omega, by omega, hk⟩
  exact go _ 0 (Nat.zero_add _) fun i hi => by omega
end
/-- what is through in each of the first n ticks -/
def outs (ps : List (Nat × Nat)) (r : List Nat) (n : Nat) : List Nat := (List.range n).map fun t => thru ps r (t + 1) - thru ps r t
theorem outs_len (ps : List (Nat × Nat)) (r : List Nat) (n : Nat) : (outs ps r n).length = n := by simp [outs]
theorem outs_next (ps : List (Nat × Nat)) (r : List Nat) (n : Nat) : outs ps r (n + 1) = outs ps r n ++ [thru ps r (n + 1) - thru ps r n] := by
  unfold outs
  rw [List.range_succ, List.map_append]
  rfl
section
variable {ps : List (Nat × Nat)} (hl : ∀ p ∈ ps, 1 ≤ p.1) (hne : ps ≠ [])
include hl hne
theorem outs_sum (r : List Nat) : ∀ n : Nat, (outs ps r n).sum = thru ps r n
  | 0 => rfl
  | n + 1 => by
    have := thru_up hl hne r (n + 1) n (by omega)
    rw [outs_next, List.sum_append, outs_sum r n]
    simp
    omega
theorem outs_drop (r : List Nat) (n k : Nat) (h : k ≤ n) : ((outs ps r n).drop k).sum = thru ps r n - thru ps r k := by
  have e1 := outs_sum hl hne r n
  have e2 : (outs ps r n).take k = outs ps r k := by
    unfold outs
    rw [← List.map_take, List.take_range, Nat.min_eq_left h]
  have e3 := outs_sum hl hne r k
  rw [← e2] at e3
  have e4 : (outs ps r n).sum = ((outs ps r n).take k).sum + ((outs ps r n).drop k).sum := by rw [← List.sum_append, List.take_append_drop]
  omega
end
end FL

end

section
set_option Elab.async false
set_option linter.all false
set_option maxRecDepth 100000
set_option maxHeartbeats 4000000
namespace GT
open FL
open PySem (PyData)
open PySem.SeqAt (shaped)
theorem cell_at (ns : List Int) (k : Nat) (h : H) : m__law_cell [.scr ns, .int k] h = .ok (.int (ns.getD k 0)) h := by
  unfold m__law_cell fn
  simp only [List.length_cons, List.length_nil, if_true]
  by_cases hk : k < ns.length
  · simp [start, sRet, ofRes, eIf, tVal, eBin, eVar, eC, eCall, aCons, aNil, vLt, fLen, seqOf, vIx, ixAt, hk]
  · simp [start, sRet, ofRes, eIf, tVal, eBin, eVar, eC, eCall, aCons, aNil, vLt, fLen, seqOf, vIx, ixAt, hk]
structure Pen (c : Nat) (h : H) (p : Nat) : Prop where
  ex : ∃ x y z : Int, h[p]? = some (.lst [.int x, .int y, .int z]) ∧ 0 ≤ x ∧ 0 ≤ y ∧ y < 2147483647 ∧ 0 ≤ z ∧ z + c < 1000000000
theorem small {i : Int} (h1 : 0 ≤ i) (h2 : i < 18446744073709551616) : smallI i = true := by
  unfold smallI BIG
  simp
  omega
theorem draw (c : Nat) (h : H) (p : Nat) (many : Nat) (hm : 0 < many) (hs : many < 1000000) (q : Pen (c + 1) h p) : ∃ (k : Nat) (t : Cell), k < many ∧ m__law_draw [.ref p, .int many] h = .ok (.int k) (h.set p t) ∧ Pen c (h.set p t) p := by
  obtain ⟨x, y, z, e, hx, hy, hy2, hz, hz2⟩ := q.ex
  have hp : p < h.length := (List.getElem?_eq_some_iff.mp e).1
  have gs : ∀ t : Cell, (h.set p t)[p]? = some t := fun t => List.getElem?_set_self hp
  have hm1 : (0 : Int) < many := by omega
  have hm2 : (many : Int) < 1073741824 := by omega
  unfold m__law_draw fn
  simp only [List.length_cons, List.length_nil, if_true]
  by_cases h0 : 0 < x
  · refine ⟨(x % many).toNat, .lst [.int (x / many), .int y, .int z], ?_, ?_, ?_⟩
    · have := Int.emod_lt_of_pos x hm1
      have := Int.emod_nonneg x (show (many : Int) ≠ 0 by omega)
      omega
    · have hn := Int.emod_nonneg x (show (many : Int) ≠ 0 by omega)
      simp [start, sSeq, sIf, sRet, sNext, ofRes, tVal, eBin, eVar, eC, vGt, seqOf, vIx, ixAt, e, h0, sAsg, gName, gSub, setAt, vMod, vFdiv, gs, hm, hm1, hm2]
      omega
    · refine ⟨x / many, y, z, gs _, Int.ediv_nonneg hx (by omega), hy, hy2, hz, by omega⟩
  · have hx0 : x = 0 := by omega
    subst hx0
    let z1 : Int := z + 1
    let y1 : Int := (y * 48271 + 1009 * z1 + 7) % 2147483647
    let w1 : Int := (y1 * y1 + 69621 * y1 + 11) % 2147483629
    let w2 : Int := (w1 * w1 + 40014 * w1) % 2147483587
    have a1 : 0 ≤ y1 ∧ y1 < 2147483647 := ⟨Int.emod_nonneg _ (by decide), Int.emod_lt_of_pos _ (by decide)⟩
    have a2 : 0 ≤ w1 ∧ w1 < 2147483629 := ⟨Int.emod_nonneg _ (by decide), Int.emod_lt_of_pos _ (by decide)⟩
    have a3 : 0 ≤ w2 ∧ w2 < 2147483587 := ⟨Int.emod_nonneg _ (by decide), Int.emod_lt_of_pos _ (by decide)⟩
    have s7 : ∀ i : Int, smallI (i % 2147483647) = true := fun i => small (Int.emod_nonneg _ (by decide)) (Int.lt_trans (Int.emod_lt_of_pos i (by decide)) (by decide))
    have s8 : ∀ i : Int, smallI (i % 2147483629) = true := fun i => small (Int.emod_nonneg _ (by decide)) (Int.lt_trans (Int.emod_lt_of_pos i (by decide)) (by decide))
    have s1 : smallI 48271 = true := by decide
    have s2 : smallI 1009 = true := by decide
    have s3 : smallI y1 = true := small a1.1 (by omega)
    have s4 : smallI w1 = true := small a2.1 (by omega)
    have s5 : smallI 69621 = true := by decide
    have s6 : smallI 40014 = true := by decide
    refine ⟨(w2 / 16 % many).toNat, .lst [.int 0, .int y1, .int z1], ?_, ?_, ?_⟩
    · have := Int.emod_lt_of_pos (w2 / 16) hm1
      have := Int.emod_nonneg (w2 / 16) (show (many : Int) ≠ 0 by omega)
      omega
    · have hn := Int.emod_nonneg (w2 / 16) (show (many : Int) ≠ 0 by omega)
      simp [start, sSeq, sIf, sRet, sNext, ofRes, tVal, eBin, eVar, eC, vGt, seqOf, vIx, ixAt, e, sAsg, gName, gSub, setAt, vMod, vFdiv, vAdd, vMul, gs, hm, hm1, hm2, s1, s2, s5, s6, s7, s8]
      exact ⟨(Int.max_eq_left hn).symm, rfl⟩
    · exact ⟨0, y1, z1, gs _, by omega, a1.1, a1.2, by omega, by omega⟩
theorem pen (x : Int) (h : H) : ∃ t : Cell, m__law_pen [.int x] h = .ok (.ref h.length) (h ++ [t]) ∧ Pen 900000000 (h ++ [t]) h.length := by
  refine ⟨.lst [.int (max 0 (x - 10 ^ 18)), .int (x % 2147483629 + 1), .int 0], ?_, ?_⟩
  · unfold m__law_pen fn
    have s1 : smallI 10 = true := by decide
    simp [start, sRet, ofRes, eLst, alloc, eBin, eVar, eC, eCall, aCons, aNil, fMax, numsL, maxL, vSub, vPow, vAdd, vMod, s1, LIM]
    split <;> omega
  · have := Int.emod_nonneg x (show (2147483629 : Int) ≠ 0 by decide)
    have := Int.emod_lt_of_pos x (show (0 : Int) < 2147483629 by decide)
    exact ⟨max 0 (x - 10 ^ 18), x % 2147483629 + 1, 0, by simp, by omega, by omega, by omega, by omega, by omega⟩
def pr (p : Nat × Nat) : D := .tup [.int p.1, .int p.2]
def nm (n : Nat) : D := .int n
theorem is_integer (i : Int) (h : H) : m_is_integer [.int i] h = .ok (.bl true) h := by
  unfold m_is_integer fn
  simp [start, sRet, ofRes, eAnd, eUn, eVar, vIsTy, isTy, eNot]
theorem is_between (i a b : Int) (h : H) : m_is_between [.int i, .int a, .int b] h = .ok (.bl (decide (a ≤ i) && decide (i ≤ b))) h := by
  unfold m_is_between fn
  by_cases h1 : a ≤ i
  · simp [start, sRet, ofRes, eAnd, eVar, eCall, aCons, aNil, is_integer, eChain, vLe, h1]
  · simp [start, sRet, ofRes, eAnd, eVar, eCall, aCons, aNil, is_integer, eChain, vLe, h1]
def Lim (ps : List (Nat × Nat)) (h : H) (o : Nat) : Prop := ∃ fs : List (PySem.Str × D), h[o]? = some (.ins 0 fs) ∧ fldOf fs "held" = some (.tup (ps.map pr)) ∧ fldOf fs "text" = none
theorem len_of {d : D} {h : H} {xs : List D} (e : seqOf d h = some xs) : fLen [d] h = .ok (.int (xs.length : Nat)) h := by
  cases d <;> first | (simp [seqOf] at e; done) | (unfold fLen; simp only [e])
theorem ix_of {d : D} {h : H} {xs : List D} {k : Nat} {y : D} (e : seqOf d h = some xs) (hk : xs[k]? = some y) : vIx d (.int (k : Nat)) h = .ok y h := by
  have hlt : k < xs.length := (List.getElem?_eq_some_iff.mp hk).1
  have i1 : ixAt xs.length ((k : Nat) : Int) = some k := by
    unfold ixAt
    rw [if_pos (by omega), if_pos (by omega)]
    simp
  cases d <;> first | (simp [seqOf] at e; done) | (unfold vIx; dsimp only; rw [e]; dsimp only; rw [i1]; dsimp only; rw [hk])
def Ok1 (p : Nat × Nat) : Prop := 1 ≤ p.1 ∧ p.1 ≤ 20 ∧ 1 ≤ p.2 ∧ p.2 ≤ 20
theorem is_limit (p : Nat × Nat) (h : H) (hp : Ok1 p) : m_Limits_is_limit [pr p] h = .ok (.bl true) h := by
  obtain ⟨a, b⟩ := p
  obtain ⟨h1, h2, h3, h4⟩ := hp
  have g1 : (1 : Int) ≤ (a : Int) := by have : 1 ≤ a := h1; omega
  have g2 : (a : Int) ≤ 20 := by have : a ≤ 20 := h2; omega
  have g3 : (1 : Int) ≤ (b : Int) := by have : 1 ≤ b := h3; omega
  have g4 : (b : Int) ≤ 20 := by have : b ≤ 20 := h4; omega
  have g5 : vNe (.int 2) (.int 2) h = .ok (.bl false) h := by simp [vNe]
  unfold m_Limits_is_limit fn pr
  simp [start, sSeq, sIf, sNext, sRet, ofRes, tOr, tNot, tTruth, tVal, truth, eUn, eVar, vIsTy, isTy, eBin, eCall, aCons, aNil, fLen, seqOf, eC, g5, eAnd, vIx, ixAt, is_between, g1, g2, g3, g4]
theorem numsP (p : Nat × Nat) : rowOf (pr p) = some [(p.1 : Int), (p.2 : Int)] := rfl
theorem rows_of : ∀ ps : List (Nat × Nat), rowsL (ps.map pr) = some (ps.map fun p => [(p.1 : Int), (p.2 : Int)])
  | [] => rfl
  | p :: ps => by
    show (match rowOf (pr p), rowsL (ps.map pr) with
      | some x, some xs => some (x :: xs)
      | _, _ => none) = _
    rw [numsP, rows_of ps]
    rfl
theorem sole_nd : ∀ xs : List (List Int), xs.Nodup → sole xs = xs
  | [], _ => rfl
  | x :: xs, h => by
    have h2 := List.nodup_cons.mp h
    unfold sole
    rw [if_neg h2.1, sole_nd xs h2.2]
theorem nd_rows {ps : List (Nat × Nat)} (h : ps.Nodup) : (ps.map fun p => [(p.1 : Int), (p.2 : Int)]).Nodup := by
  refine List.pairwise_map.mpr (List.Pairwise.imp (fun {a b} ne e => ne ?_) h)
  obtain ⟨a1, a2⟩ := a
  obtain ⟨b1, b2⟩ := b
  simp at e
  have e1 : a1 = b1 := by omega
  have e2 : a2 = b2 := by omega
  rw [e1, e2]
theorem comp_lim (l : Loc) (h : H) (hl : l.length = 2) : ∀ (ps : List (Nat × Nat)) (acc : List D), (∀ p ∈ ps, Ok1 p) → acc.length + ps.length < LIM → lcS (gName 1) tYes (eSt m_Limits_is_limit (aCons (eVar 1) aNil)) l (ps.map pr) acc h = .ok (acc ++ ps.map fun _ => D.bl true) h
  | [], acc, _, _ => by simp [lcS]
  | p :: ps, acc, hp, ha => by
    have hh : acc.length + (ps.length + 1) < LIM := ha
    have e : (eSt m_Limits_is_limit (aCons (eVar 1) aNil)) (l.set 1 (some (pr p))) h = .ok (.bl true) h := by
      have g : (l.set 1 (some (pr p)))[1]? = some (some (pr p)) := List.getElem?_set_self (by omega)
      simp [eSt, eCall, aCons, aNil, eVar, g, is_limit p h (hp p List.mem_cons_self)]
    have t : lcTurn (gName 1) tYes (eSt m_Limits_is_limit (aCons (eVar 1) aNil)) l (pr p) acc h = .ok (acc ++ [.bl true]) h := by
      unfold lcTurn
      dsimp only [gName, tYes]
      rw [e]
      dsimp only
      rw [if_pos (by omega)]
    show (match lcTurn (gName 1) tYes (eSt m_Limits_is_limit (aCons (eVar 1) aNil)) l (pr p) acc h with
      | .ok acc' h' => lcS (gName 1) tYes (eSt m_Limits_is_limit (aCons (eVar 1) aNil)) l (ps.map pr) acc' h'
      | _ => .bad) = _
    rw [t]
    dsimp only
    rw [comp_lim l h hl ps _ (fun q hq => hp q (List.mem_cons_of_mem _ hq)) (by rw [List.length_append]; simp; omega)]
    simp
theorem bls (n : Nat) : blsL (List.replicate n (D.bl true)) = some (List.replicate n true) := by
  induction n with
  | zero => rfl
  | succ n ih =>
    show (match blsL (List.replicate n (D.bl true)) with
      | some r => some (true :: r)
      | none => none) = _
    rw [ih]
    rfl
theorem are_limits (ps : List (Nat × Nat)) (h : H) (hp : ∀ p ∈ ps, Ok1 p) (hnd : ps.Nodup) (hne : ps ≠ []) (hz : ps.length < 64) : m_are_limits [.tup (ps.map pr)] h = .ok (.bl true) (h ++ [.lst (List.replicate ps.length (D.bl true))]) := by
  have c := comp_lim (wipe [some (.tup (ps.map pr)), none] [1]) h rfl ps [] hp (by show 0 + ps.length < LIM; unfold LIM; omega)
  have ec : (ps.map fun _ => D.bl true) = List.replicate ps.length (D.bl true) := List.map_const' ..
  rw [List.nil_append, ec] at c
  have fa : fAll [.ref h.length] (h ++ [.lst (List.replicate ps.length (D.bl true))]) = .ok (.bl true) (h ++ [.lst (List.replicate ps.length (D.bl true))]) := by
    unfold fAll
    simp [listOf, bls]
  have g0 : 0 < ps.length := List.length_pos_iff.mpr hne
  have g1 : (0 : Int) < ((ps.length : Nat) : Int) := by omega
  have so : (sole (ps.map fun p => [(p.1 : Int), (p.2 : Int)])).length = ps.length := by rw [sole_nd _ (nd_rows hnd), List.length_map]
  unfold m_are_limits fn
  simp [start, sSeq, sIf, sNext, sRet, ofRes, tNot, tTruth, truth, eCall, aCons, aNil, eVar, eComp, wSeq, c, alloc, fa, eAnd, eBin, fLen, seqOf, vGt, eC, g1, eLenSet, rows_of, hz, so, vEq, g0]
theorem make (ps : List (Nat × Nat)) (h : H) (hp : ∀ p ∈ ps, Ok1 p) (hnd : ps.Nodup) (hne : ps ≠ []) (hz : ps.length ≤ 6) : ∃ h' : H, mkObj 0 m_Limits___init__ (ps.map pr) h = .ok (.ref h.length) h' ∧ Lim ps h' h.length ∧ h.length < h'.length ∧ ∀ a, a < h.length → h'[a]? = h[a]? := by
  have e := are_limits ps (h ++ [.ins 0 []]) hp hnd hne (by omega)
  have g6 : ¬ (6 : Int) < ((ps.length : Nat) : Int) := by omega
  refine ⟨((h ++ [Cell.ins 0 []]) ++ [Cell.lst (List.replicate ps.length (D.bl true))]).set h.length (Cell.ins 0 [("held", .tup (ps.map pr))]), ?_, ?_, ?_, ?_⟩
  · unfold mkObj m_Limits___init__ fnS
    rw [if_pos (by simp [LIM]; omega)]
    have d1 : (D.ref h.length :: ps.map pr).take 1 ++ [D.tup ((D.ref h.length :: ps.map pr).drop 1)] = [D.ref h.length, .tup (ps.map pr)] := rfl
    rw [d1]
    have at0 : ((h ++ [Cell.ins 0 []]) ++ [Cell.lst (List.replicate ps.length (D.bl true))])[h.length]? = some (Cell.ins 0 []) := by simp
    have lt6 : (6 : Int) < (ps.length : Int) ↔ False := by simp; omega
    unfold fn
    simp only [List.length_cons, List.length_nil, if_true]
    simp only [start, List.map_cons, List.map_nil, List.length_cons, List.length_nil, sSeq, sIf, tNot, tTruth, eCall, aCons, aNil, eVar, List.cons_append, List.nil_append, List.getElem?_cons_succ, List.getElem?_cons_zero, bind_ok, e, truth, ofRes, sNext, tVal, eBin, fLen, seqOf, List.length_map, eC, vGt, sFldA, at0]
    simp [g6, putFld]
  · exact ⟨[("held", .tup (ps.map pr))], by rw [List.getElem?_set_self (by simp)], rfl, rfl⟩
  · simp
  · intro a ha
    rw [List.getElem?_set_ne (by omega), List.append_assoc, List.getElem?_append_left ha]
def prP (p : Nat × Nat) : PyData := .tuple [.int p.1, .int p.2]
theorem eqv_pr (p q : Nat × Nat) : PyData.eqv (prP p) (prP q) = decide (p = q) := by
  obtain ⟨a, b⟩ := p
  obtain ⟨c, d⟩ := q
  unfold prP
  simp only [PyData.eqv, PyData.eqvAll, Bool.and_true]
  have e1 : ((a : Int) == (c : Int)) = decide (a = c) := by rw [Bool.eq_iff_iff]; simp; omega
  have e2 : ((b : Int) == (d : Int)) = decide (b = d) := by rw [Bool.eq_iff_iff]; simp; omega
  rw [e1, e2]
  rw [Bool.eq_iff_iff]
  simp
theorem toDs_pr (rf : Nat → Option PyData) : ∀ ps : List (Nat × Nat), toDs rf (ps.map pr) = some (ps.map prP)
  | [] => rfl
  | p :: ps => by
    rw [List.map_cons, toDs, toDs_pr rf ps]
    rfl
theorem lay_pr : ∀ ps : List (Nat × Nat), PyData.canLayAll0 (ps.map prP) = true
  | [] => rfl
  | p :: ps => by
    rw [List.map_cons]
    simp only [PyData.canLayAll0, lay_pr ps, Bool.and_true]
    rfl
theorem dep_pr : ∀ ps : List (Nat × Nat), PyData.depthAll (ps.map prP) ≤ 2
  | [] => by simp [PyData.depthAll]
  | p :: ps => by
    rw [List.map_cons]
    have := dep_pr ps
    simp only [PyData.depthAll, prP, PyData.depth]
    omega
theorem sh_pr (p : Nat × Nat) : PySem.SeqAt.shaped (prP p) = true := by
  simp [PySem.SeqAt.shaped, prP, PyData.canLay0, PyData.canLayAll0, PyData.depth, PyData.depthAll]
theorem sh_prs (ps : List (Nat × Nat)) : PySem.SeqAt.shaped (.list (ps.map prP)) = true := by
  have := dep_pr ps
  simp [PySem.SeqAt.shaped, PyData.canLay0, PyData.depth, lay_pr]
  omega
theorem not_in (p : Nat × Nat) (ps : List (Nat × Nat)) (m : Nat) (h : H) (e : h[m]? = some (.lst (ps.map pr))) : vNotIn (pr p) (.ref m) h = .ok (.bl (decide (p ∉ ps))) h := by
  have e1 : toP h (pr p) = some (prP p) := rfl
  have e2 : toP h (.ref m) = some (.list (ps.map prP)) := by
    show rfAt h 8 m = _
    unfold rfAt
    rw [e]
    dsimp only
    rw [toDs_pr]
  unfold vNotIn inD
  rw [e1, e2]
  dsimp only
  rw [if_pos ⟨sh_pr p, sh_prs ps⟩]
  have : (ps.map prP).any (fun z => PyData.eqv z (prP p)) = decide (p ∈ ps) := by
    rw [Bool.eq_iff_iff]
    simp only [List.any_eq_true, List.mem_map, decide_eq_true_eq]
    constructor
    · rintro ⟨z, ⟨q, hq, rfl⟩, hz⟩
      rw [eqv_pr, decide_eq_true_eq] at hz
      exact hz ▸ hq
    · intro hp
      exact ⟨prP p, ⟨p, hp, rfl⟩, by rw [eqv_pr]; simp⟩
  rw [this]
  simp
structure Kp (p : Nat) (h h' : H) : Prop where
  le : h.length ≤ h'.length
  at' : ∀ a, a < h.length → a ≠ p → h'[a]? = h[a]?
theorem Kp.refl (p : Nat) (h : H) : Kp p h h := ⟨Nat.le_refl _, fun _ _ _ => rfl⟩
theorem Kp.trans {p : Nat} {h h1 h2 : H} (a : Kp p h h1) (b : Kp p h1 h2) : Kp p h h2 := ⟨Nat.le_trans a.le b.le, fun i hi hp => by rw [b.at' i (by have := a.le; omega) hp, a.at' i hi hp]⟩
theorem Kp.set (p : Nat) (h : H) (t : Cell) : Kp p h (h.set p t) := ⟨by simp, fun a _ ha => List.getElem?_set_ne (Ne.symm ha)⟩
theorem Kp.add (p : Nat) (h : H) (t : Cell) : Kp p h (h ++ [t]) := ⟨by simp, fun a hi _ => List.getElem?_append_left hi⟩
theorem Kp.new {p n : Nat} {h h1 : H} (b : Kp p h h1) (hn : h.length ≤ n) (t : Cell) : Kp p h (h1.set n t) := ⟨by simpa using b.le, fun a hi ha => by rw [List.getElem?_set_ne (by omega), b.at' a hi ha]⟩
theorem Pen.less {c d p : Nat} {h : H} (q : Pen c h p) (hd : d ≤ c) : Pen d h p := by
  obtain ⟨x, y, z, e, h1, h2, h3, h4, h5⟩ := q.ex
  exact ⟨x, y, z, e, h1, h2, h3, h4, by omega⟩
theorem Pen.same {c p : Nat} {h h' : H} (q : Pen c h p) (e : h'[p]? = h[p]?) : Pen c h' p := by
  obtain ⟨x, y, z, e1, r⟩ := q.ex
  exact ⟨x, y, z, by rw [e, e1], r⟩
theorem Pen.lt {c p : Nat} {h : H} (q : Pen c h p) : p < h.length := by
  obtain ⟨x, y, z, e1, r⟩ := q.ex
  exact (List.getElem?_eq_some_iff.mp e1).1
theorem Pen.add {c p : Nat} {h : H} (q : Pen c h p) (t : Cell) : Pen c (h ++ [t]) p := q.same (List.getElem?_append_left q.lt)
structure Good (ps : List (Nat × Nat)) : Prop where
  ok : ∀ x ∈ ps, Ok1 x
  nd : ps.Nodup
  ne : ps ≠ []
  le : ps.length ≤ 6
theorem Good.one {ps : List (Nat × Nat)} (g : Good ps) : ∀ p ∈ ps, 1 ≤ p.1 := fun p hp => (g.ok p hp).1
theorem Lim.lt {ps : List (Nat × Nat)} {h : H} {o : Nat} (q : Lim ps h o) : o < h.length := by
  obtain ⟨fs, e, _⟩ := q
  exact (List.getElem?_eq_some_iff.mp e).1
theorem Lim.same {ps : List (Nat × Nat)} {h h' : H} {o : Nat} (q : Lim ps h o) (e : h'[o]? = h[o]?) : Lim ps h' o := by
  obtain ⟨fs, e1, e2⟩ := q
  exact ⟨fs, by rw [e, e1], e2⟩
theorem cls_lim {ps : List (Nat × Nat)} {h : H} {o : Nat} (q : Lim ps h o) : clsOf (.ref o) h = some 0 := by
  obtain ⟨fs, e1, e2⟩ := q
  unfold clsOf
  dsimp only
  rw [e1]
theorem toP_prs (ps : List (Nat × Nat)) (h : H) : toP h (.tup (ps.map pr)) = some (.tuple (ps.map prP)) := by
  unfold toP
  rw [toD, toDs_pr]
theorem pp_ok {ps : List (Nat × Nat)} {i o : Nat} {l : Loc} {h : H} (e : l[i]? = some (some (.ref o))) (q : Lim ps h o) : eOP (one 0 m_Limits_pairs) (eVar i) l h = .ok (.tup (ps.map pr)) h := by
  obtain ⟨fs, w1, w2⟩ := q
  have w3 : vFld [0] "held" (.ref o) h = .ok (.tup (ps.map pr)) h := by
    unfold vFld
    simp [w1, w2]
  have w4 : m_Limits_pairs [.ref o] h = .ok (.tup (ps.map pr)) h := fn_rt rfl (ret_eq ((un_eq (var_eq rfl)).trans w3))
  unfold eOP
  rw [var_eq e, bind_ok]
  unfold pickP
  rw [cls_lim ⟨fs, w1, w2⟩]
  show tame (m_Limits_pairs [.ref o] h) = _
  rw [w4]
  rfl
theorem numsL_nm : ∀ r : List Nat, numsL (r.map nm) = some (r.map fun (n : Nat) => (n : Int))
  | [] => rfl
  | n :: r => by
    show (match numsL (r.map nm) with
      | some is => some ((n : Int) :: is)
      | none => none) = _
    rw [numsL_nm r]
    rfl
theorem sum_nm (r : List Nat) : (r.map fun (n : Nat) => (n : Int)).sum = ((r.sum : Nat) : Int) := by
  induction r with
  | nil => rfl
  | cons n r ih => simp [ih]
theorem fsum_nm (r : List Nat) (h : H) : fSum [.tup (r.map nm)] h = .ok (.int ((r.sum : Nat) : Int)) h := by
  unfold fSum intsOf seqOf
  dsimp only
  rw [numsL_nm]
  dsimp only
  rw [sum_nm]
theorem cut_nm (r : List Nat) (s a : Nat) : cut (r.map nm) (some (s : Int)) (some ((s : Int) + (a : Int))) = ((r.drop s).take a).map nm := by
  have e1 : sIx r.length 0 (some (s : Int)) = min s r.length := by
    unfold sIx
    dsimp only
    rw [if_neg (by omega)]
    simp
  have e2 : sIx r.length r.length (some ((s : Int) + (a : Int))) = min (s + a) r.length := by
    unfold sIx
    dsimp only
    rw [if_neg (by omega), show ((s : Int) + (a : Int)).toNat = s + a by omega]
  unfold cut
  rw [List.length_map, e1, e2, List.map_take, List.map_drop]
  by_cases hs : s ≤ r.length
  · rw [Nat.min_eq_left hs]
    rw [List.take_eq_take_iff]
    simp
    omega
  · rw [List.drop_eq_nil_of_le (by simp; omega), List.drop_eq_nil_of_le (by simp; omega)]
    simp
def tupR (r : List Nat) : D := .tup (r.map nm)
theorem shaped_fine {p : PyData} (f : Fine p) : PySem.SeqAt.shaped p = true := by
  have := f.deep
  simp only [PySem.SeqAt.shaped, f.lay, Bool.true_and, decide_eq_true_eq]
  omega
theorem toDs_nm (rf : Nat → Option PyData) : ∀ r : List Nat, toDs rf (r.map nm) = some (r.map fun (n : Nat) => PyData.int (n : Int))
  | [] => rfl
  | n :: r => by
    rw [List.map_cons, toDs, toDs_nm rf r]
    rfl
theorem fine_nm {r : List Nat} (h : ∀ x ∈ r, x < 10 ^ 12) : Fine (.tuple (r.map fun (n : Nat) => PyData.int (n : Int))) := fine_tup (fun q hq => by
    obtain ⟨x, hx, rfl⟩ := List.mem_map.mp hq
    exact fine_int (by have := h x hx; omega)) (fun q hq => by
    obtain ⟨x, _, rfl⟩ := List.mem_map.mp hq
    simp [PyData.depth])
theorem take_next {α : Type} {xs : List α} {i : Nat} {x : α} (h : xs[i]? = some x) : xs.take (i + 1) = xs.take i ++ [x] := by
  rw [List.take_add_one, h]
  rfl
theorem need_lim {ps : List (Nat × Nat)} {o : Nat} {h : H} (q : Lim ps h o) : m_need_limits [.ref o] h = .ok .non h := by
  obtain ⟨fs, w1, _⟩ := q
  have t : tNot (tTruth (eUn (vIsC 0) (eVar 0))) (start 1 [.ref o]) h = .ok false h := tnot_eq (ttruth_eq (x := .bl true) ((un_eq (var_eq (x := .ref o) rfl)).trans (by
    unfold vIsC
    dsimp only
    rw [w1]
    rfl)) rfl)
  exact fn_nx rfl ((if_f t).trans rfl)
theorem mem_sum {r : List Nat} {x : Nat} (hx : x ∈ r) : x ≤ r.sum := by
  induction r with
  | nil => cases hx
  | cons y ys ih =>
    rw [List.sum_cons]
    rcases List.mem_cons.mp hx with rfl | hx
    · omega
    · have := ih hx
      omega
theorem is_row {r : List Nat} (hb : r.sum ≤ 60) (hz : r.length ≤ 5000) (h : H) : m_is_row [tupR r] h = .ok (.bl true) (h ++ [.lst (List.replicate r.length (D.bl true))]) := by
  let l0 : Loc := [some (tupR r), none]
  have t0 : tNot (tTruth (eUn (vIsTy .tuple) (eVar 0))) l0 h = .ok false h := tnot_eq (ttruth_eq (x := .bl true) rfl rfl)
  have c : ∃ h', lcS (gName 1) tYes (eCall m_is_between (aCons (eVar 1) (aCons (eC (.int 0)) (aCons (eC (.int 60)) (aNil))))) (wipe l0 [1]) (r.map nm) [] h = .ok ([] ++ (r.map nm).filterMap fun _ => some (D.bl true)) h' ∧ h' = h := by
    refine lcS_all (fun h' => h' = h) (fun _ => some (D.bl true)) _ _ _ (fun d hd acc h' eh hz => ⟨h', ?_, eh⟩) rfl (by rw [List.length_map]; unfold LIM; simp; omega)
    subst eh
    obtain ⟨x, hx, rfl⟩ := List.mem_map.mp hd
    have b := mem_sum hx
    have e : m_is_between [nm x, .int 0, .int 60] h' = .ok (.bl true) h' := by
      unfold nm
      rw [is_between, decide_eq_true (by omega), decide_eq_true (by omega)]
      rfl
    exact turn_yes (g := gName 1) (t := tYes) (l := wipe l0 [1]) (d := nm x) (acc := acc) rfl rfl ((call_eq (cons_eq (var_eq rfl) (cons_eq rfl (cons_eq rfl nil_eq)))).trans e) hz
  obtain ⟨h', e1, rfl⟩ := c
  have e2 : ([] : List D) ++ (r.map nm).filterMap (fun _ => some (D.bl true)) = List.replicate r.length (D.bl true) := by
    rw [List.nil_append, List.filterMap_map]
    show r.filterMap (fun _ => some (D.bl true)) = _
    rw [List.filterMap_eq_map' (f := fun _ => D.bl true)]
    exact List.map_const' ..
  rw [e2] at e1
  have c1 := comp_snap (vs := [1]) (seq_tup (a := eVar 0) (l := l0) (h := h') (var_eq rfl)) e1
  have fa : fAll [.ref h'.length] (h' ++ [.lst (List.replicate r.length (D.bl true))]) = .ok (.bl true) (h' ++ [.lst (List.replicate r.length (D.bl true))]) := by
    unfold fAll
    simp [listOf, bls]
  have le : eBin vLe (eCall fSum (aCons (eVar 0) (aNil))) (eC (.int 60)) l0 (h' ++ [.lst (List.replicate r.length (D.bl true))]) = .ok (.bl true) (h' ++ [.lst (List.replicate r.length (D.bl true))]) := by
    refine (bin_eq ((call1_eq (var_eq rfl)).trans (fsum_nm r _)) rfl).trans ?_
    show Res.ok (D.bl (decide _)) _ = _
    rw [decide_eq_true (by omega)]
  exact fn_rt rfl ((seq_eq ((if_f t0).trans rfl)).trans (ret_eq ((and_t ((call1_eq c1).trans fa)).trans le)))
theorem need_row {r : List Nat} (hb : r.sum ≤ 60) (hz : r.length ≤ 5000) (h : H) : m_need_row [tupR r] h = .ok .non (h ++ [.lst (List.replicate r.length (D.bl true))]) := by
  have t : tNot (tTruth (eCall m_is_row (aCons (eVar 0) (aNil)))) (start 1 [tupR r]) h = .ok false (h ++ [.lst (List.replicate r.length (D.bl true))]) := tnot_eq (ttruth_eq ((call1_eq (var_eq rfl)).trans (is_row hb hz h)) rfl)
  exact fn_nx rfl ((if_f t).trans rfl)
theorem req_in (r : List Nat) (s : Nat) (h : H) : m_requests_in [tupR r, .int (s : Nat), .int 1] h = .ok (nm ((r.drop s).take 1).sum) h := by
  let l0 : Loc := [some (tupR r), some (.int (s : Nat)), some (.int 1)]
  have c : eCut (eVar 0) (some (eVar 1)) (some (eBin vAdd (eVar 1) (eVar 2))) l0 h = .ok (tupR ((r.drop s).take 1)) h := by
    refine (cut_eq (x := tupR r) (u := (s : Nat)) (v := (s : Nat) + 1) rfl rfl rfl).trans ?_
    show Res.ok (D.tup (cut (r.map nm) _ _)) h = _
    rw [show ((s : Int) + 1) = ((s : Int) + ((1 : Nat) : Int)) from rfl, cut_nm]
    rfl
  exact fn_rt (s := sRet _) rfl (ret_eq ((call1_eq c).trans (fsum_nm _ _)))
theorem max0 (i : Int) (n : Nat) (e : i.toNat = n) (h : H) : fMax [.int 0, .int i] h = .ok (.int (n : Nat)) h := by
  unfold fMax
  dsimp only
  rw [show (if i > 0 then i else 0) = ((n : Nat) : Int) by split <;> omega]
theorem minInt (a b : Int) (h : H) : fMin [.int a, .int b] h = .ok (.int (min a b)) h := by
  unfold fMin
  dsimp only
  rw [show (if b < a then b else a) = min a b by split <;> omega]
theorem numsI : ∀ xs : List Int, numsL (xs.map D.int) = some xs
  | [] => rfl
  | x :: xs => by
    show (match numsL (xs.map D.int) with
      | some r => some (x :: r)
      | none => none) = _
    rw [numsI xs]
theorem min_of {xs : List Int} {m : Int} {a : Nat} {h : H} (ha : h[a]? = some (.lst (xs.map .int))) (hm : m ∈ xs) (hle : ∀ y ∈ xs, m ≤ y) : fMin [.ref a] h = .ok (.int m) h := by
  have e : intsIn (.ref a) h = some xs := by
    unfold intsIn listOf
    dsimp only
    rw [ha]
    exact numsI xs
  unfold fMin
  dsimp only
  rw [e]
  cases xs with
  | nil => cases hm
  | cons x xs =>
    dsimp only
    rw [minL_ok x xs m hm hle]
theorem next_ok {ps : List (Nat × Nat)} (g : Good ps) (r : List Nat) (k : Nat) {a : Nat} {h : H} (ha : h[a]? = some (.lst ((outs ps r k).map nm))) (hk : k < 40000) : ∃ h', m_next_through [.tup (ps.map pr), .ref a, .int ((came r (k + 1) : Nat) - (thru ps r k : Nat) : Int)] h = .ok (nm (thru ps r (k + 1) - thru ps r k)) h' ∧ Ex h h' := by
  have hg := g.le
  let hd : D := .int ((came r (k + 1) : Nat) - (thru ps r k : Nat) : Int)
  let l0 : Loc := [some (.tup (ps.map pr)), some (.ref a), some hd, none, none, none]
  let φ : D → Option D := fun d => match d with
    | .tup [.int L, .int m] => some (.int (m - ((thru ps r k - thru ps r (k + 1 - L.toNat) : Nat) : Int)))
    | _ => none
  let el : E := eBin vSub (eVar 5) (eCall fSum (aCons (eCut (eVar 1) (some (eCall fMax (aCons (eC (.int 0)) (aCons (eBin vSub (eBin vAdd (eCall fLen (aCons (eVar 1) (aNil))) (eC (.int 1))) (eVar 4)) (aNil))))) (none)) (aNil)))
  have c : ∃ h', lcS (gTup 2 (gCons (gName 4) (gCons (gName 5) (gNil)))) tYes el (wipe l0 [4, 5]) (ps.map pr) [] h = .ok ([] ++ (ps.map pr).filterMap φ) h' ∧ Ex h h' := by
    refine lcS_all (fun h' => Ex h h') φ _ _ _ (fun d hd acc h' eh hz => ?_) (Ex.refl _) (by rw [List.length_map]; unfold LIM; simp; omega)
    obtain ⟨p, hp, rfl⟩ := List.mem_map.mp hd
    have h1 := g.one p hp
    have ha' := eh.get ha
    let l1 : Loc := [some (.tup (ps.map pr)), some (.ref a), some (.int ((came r (k + 1) : Nat) - (thru ps r k : Nat) : Int)), none, some (.int (p.1 : Nat)), some (.int (p.2 : Nat))]
    have ln : eCall fLen (aCons (eVar 1) (aNil)) l1 h' = .ok (.int (k : Nat)) h' := by
      refine (call1_eq (var_eq rfl)).trans ((len_of (xs := (outs ps r k).map nm) (by unfold seqOf; dsimp only; rw [ha'])).trans ?_)
      rw [List.length_map, outs_len]
    have mx : eCall fMax (aCons (eC (.int 0)) (aCons (eBin vSub (eBin vAdd (eCall fLen (aCons (eVar 1) (aNil))) (eC (.int 1))) (eVar 4)) (aNil))) l1 h' = .ok (.int ((k + 1 - p.1 : Nat) : Nat)) h' := by
      refine (call2_eq rfl ((bin_eq ((bin_eq ln rfl).trans rfl) (var_eq (x := .int (p.1 : Nat)) rfl)).trans rfl)).trans (max0 _ _ (by omega) h')
    have ct : eCut (eVar 1) (some (eCall fMax (aCons (eC (.int 0)) (aCons (eBin vSub (eBin vAdd (eCall fLen (aCons (eVar 1) (aNil))) (eC (.int 1))) (eVar 4)) (aNil))))) (none) l1 h' = .ok (.ref h'.length) (h' ++ [.lst (((outs ps r k).drop (k + 1 - p.1)).map nm)]) := by
      refine (cutL_eq (var_eq rfl) mx).trans ?_
      unfold vCut
      dsimp only
      rw [ha']
      dsimp only
      rw [cut_from, List.map_drop]
      rfl
    have sm : fSum [.ref h'.length] (h' ++ [.lst (((outs ps r k).drop (k + 1 - p.1)).map nm)]) = .ok (.int ((thru ps r k - thru ps r (k + 1 - p.1) : Nat) : Int)) (h' ++ [.lst (((outs ps r k).drop (k + 1 - p.1)).map nm)]) := by
      unfold fSum intsOf seqOf
      dsimp only
      rw [List.getElem?_append_right (Nat.le_refl _), Nat.sub_self]
      dsimp only [List.getElem?_cons_zero]
      rw [numsL_nm]
      dsimp only
      rw [sum_nm, outs_drop g.one g.ne r k _ (by omega)]
    exact ⟨_, turn_yes (g := gTup 2 (gCons (gName 4) (gCons (gName 5) (gNil)))) (t := tYes) (l := wipe l0 [4, 5]) (d := pr p) (acc := acc) (l1 := l1) rfl rfl ((bin_eq (var_eq (x := .int (p.2 : Nat)) rfl) ((call1_eq ct).trans sm)).trans rfl) hz, eh.trans (Ex.add _ _)⟩
  obtain ⟨h1, e1, x1⟩ := c
  let xs : List Int := ps.map fun p => (p.2 : Int) - ((thru ps r k - thru ps r (k + 1 - p.1) : Nat) : Int)
  have e2 : ([] : List D) ++ (ps.map pr).filterMap φ = xs.map .int := by
    rw [List.nil_append, List.filterMap_map, List.map_map]
    rw [← List.filterMap_eq_map]
    rfl
  rw [e2] at e1
  have c1 := comp_snap (vs := [4, 5]) (seq_tup (a := eVar 0) (l := l0) (h := h) (var_eq rfl)) e1
  obtain ⟨b, eb, et⟩ := thru_best g.one g.ne r k
  obtain ⟨q, hq, eq⟩ := best_mem eb
  have hle := best_le eb
  have mn : fMin [.ref h1.length] (h1 ++ [.lst (xs.map .int)]) = .ok (.int ((b : Int) - (thru ps r k : Int))) (h1 ++ [.lst (xs.map .int)]) := by
    refine min_of (xs := xs) (by simp) (List.mem_map.mpr ⟨q, hq, ?_⟩) (fun y hy => ?_)
    · have := thru_up g.one g.ne r k (k + 1 - q.1) (by have := g.one q hq; omega)
      omega
    · obtain ⟨p, hp, rfl⟩ := List.mem_map.mp hy
      have h1 := hle p hp
      have := thru_up g.one g.ne r k (k + 1 - p.1) (by have := g.one p hp; omega)
      omega
  have s1 : sAsg (eCall fMin (aCons (eComp (wSeq (eVar 0)) (gTup 2 (gCons (gName 4) (gCons (gName 5) (gNil)))) (tYes) el [4, 5]) (aNil))) (gName 3) l0 h = .nx (l0.set 3 (some (.int ((b : Int) - (thru ps r k : Int))))) (h1 ++ [.lst (xs.map .int)]) := asg_eq ((call1_eq c1).trans mn)
  have up := thru_up g.one g.ne r (k + 1) k (by omega)
  refine ⟨h1 ++ [.lst (xs.map .int)], fn_rt (s := sSeq _ _) rfl ((seq_eq s1).trans (ret_eq ((call2_eq (var_eq (x := hd) rfl) (var_eq rfl)).trans ((minInt _ _ _).trans ?_)))), x1.trans (Ex.add _ _)⟩
  unfold nm
  rw [show min ((came r (k + 1) : Nat) - (thru ps r k : Nat) : Int) ((b : Int) - (thru ps r k : Int)) = ((thru ps r (k + 1) - thru ps r k : Nat) : Int) by omega]
def wtest : T := tOr (tVal (eBin vLt (eBin vSub (eCall fLen (aCons (eVar 4) (aNil))) (eCall fLen (aCons (eVar 1) (aNil)))) (eCall fLen (aCons (eVar 3) (aNil))))) (tVal (eBin vGt (eVar 2) (eC (.int 0))))
def wbody : S := sSeq (sAug 2 vPlus (eCall m_requests_in (aCons (eVar 3) (aCons (eBin vSub (eCall fLen (aCons (eVar 4) (aNil))) (eCall fLen (aCons (eVar 1) (aNil)))) (aCons (eC (.int 1)) (aNil)))))) (sSeq (sDrop (eLm mAppend (eVar 4) (aCons (eCall m_next_through (aCons (eVar 0) (aCons (eVar 4) (aCons (eVar 2) (aNil))))) aNil))) (sAug 2 vMinus (eBin vIx (eVar 4) (eUn vNeg (eC (.int 1))))))
theorem sub_len {a : Nat} {r : List Nat} {l : Loc} {h : H} {xs : List Nat} (e4 : l[4]? = some (some (.ref a))) (e1 : l[1]? = some (some (.tup []))) (ha : h[a]? = some (.lst (xs.map nm))) : eBin vSub (eCall fLen (aCons (eVar 4) (aNil))) (eCall fLen (aCons (eVar 1) (aNil))) l h = .ok (.int (xs.length : Nat)) h := by
  refine (bin_eq ((call1_eq (var_eq e4)).trans (len_of (xs := xs.map nm) (by unfold seqOf; dsimp only; rw [ha]))) ((call1_eq (var_eq e1)).trans (len_of (xs := []) rfl))).trans ?_
  show Res.ok (D.int (((xs.map nm).length : Int) - ((0 : Nat) : Int))) h = _
  rw [List.length_map, show ((xs.length : Int) - ((0 : Nat) : Int)) = (xs.length : Int) by omega]
theorem last_lst {xs : List Nat} {x a : Nat} {h : H} (ha : h[a]? = some (.lst ((xs ++ [x]).map nm))) : vIx (.ref a) (.int (-1)) h = .ok (nm x) h := by
  unfold vIx seqOf
  dsimp only
  rw [ha]
  dsimp only
  have : ixAt ((xs ++ [x]).map nm).length (-1) = some xs.length := by
    unfold ixAt
    rw [if_neg (by omega), if_pos (by simp; omega)]
    simp
    omega
  rw [this]
  simp
theorem through_ok {ps : List (Nat × Nat)} (g : Good ps) (r : List Nat) (hz : r.length ≤ 3000) (hb : r.sum ≤ 60) (h : H) (N : Nat) (hN : N ≤ r.length + 20 * r.sum) (hr : r.length ≤ N) (hN2 : thru ps r N = r.sum) (hN3 : ∀ k, k < N → k < r.length ∨ thru ps r k < r.sum) : ∃ a h', m_all_through [.tup (ps.map pr), .tup [], .int 0, tupR r] h = .ok (.ref a) h' ∧ h'[a]? = some (.lst ((outs ps r N).map nm)) ∧ Ex h h' := by
  let l0 : Loc := [some (.tup (ps.map pr)), some (.tup []), some (.int 0), some (tupR r), none]
  have f0 : eCall fList (aCons (eVar 1) (aNil)) l0 h = .ok (.ref h.length) (h ++ [.lst []]) := (call1_eq (var_eq rfl)).trans rfl
  have s0 : sAsg (eCall fList (aCons (eVar 1) (aNil))) (gName 4) l0 h = .nx (l0.set 4 (some (.ref h.length))) (h ++ [.lst []]) := asg_eq f0
  let lc : Nat → Loc := fun k => [some (.tup (ps.map pr)), some (.tup []), some (.int ((came r k : Nat) - (thru ps r k : Nat) : Int)), some (tupR r), some (.ref h.length)]
  let I : Nat → Loc → H → Prop := fun k l h' => l = lc k ∧ h'[h.length]? = some (.lst ((outs ps r k).map nm)) ∧ Ex h h'
  have tst : ∀ k h', h'[h.length]? = some (.lst ((outs ps r k).map nm)) → wtest (lc k) h' = .ok (decide (k < r.length) || decide (thru ps r k < came r k)) h' := fun k h' e => by
    have a1 : tVal (eBin vLt (eBin vSub (eCall fLen (aCons (eVar 4) (aNil))) (eCall fLen (aCons (eVar 1) (aNil)))) (eCall fLen (aCons (eVar 3) (aNil)))) (lc k) h' = .ok (decide (k < r.length)) h' := by
      refine tval_eq ((bin_eq (sub_len (r := r) rfl rfl e) ((call1_eq (var_eq (x := tupR r) rfl)).trans (len_of (xs := r.map nm) rfl))).trans ?_)
      show Res.ok (D.bl (decide (((outs ps r k).length : Int) < ((r.map nm).length : Int)))) h' = _
      rw [List.length_map, outs_len]
      simp
    have a2 : tVal (eBin vGt (eVar 2) (eC (.int 0))) (lc k) h' = .ok (decide (thru ps r k < came r k)) h' := by
      refine tval_eq ((bin_eq (var_eq rfl) rfl).trans ?_)
      show Res.ok (D.bl (decide ((0 : Int) < ((came r k : Nat) - (thru ps r k : Nat) : Int)))) h' = _
      rw [show decide ((0 : Int) < ((came r k : Nat) - (thru ps r k : Nat) : Int)) = decide (thru ps r k < came r k) by rw [decide_eq_decide]; omega]
    by_cases c : k < r.length
    · rw [decide_eq_true c] at a1 ⊢
      exact tor_t a1
    · rw [decide_eq_false c] at a1 ⊢
      exact (tor_f a1).trans a2
  obtain ⟨l1, h1, e1, i1, i2, i3⟩ := while_all (t := wtest) (b := wbody) (N := N) I (fun k l h' hk ⟨el, eh, ex⟩ => by
    subst el
    have t1 := tst k h' eh
    have c1 : (decide (k < r.length) || decide (thru ps r k < came r k)) = true := by
      by_cases c : k < r.length
      · simp [c]
      · have := (hN3 k hk).resolve_left c
        rw [came_all r k (by omega)]
        simp [this]
    rw [c1] at t1
    have up := thru_up g.one g.ne r (k + 1) k (by omega)
    -- what comes
    have b1 : sAug 2 vPlus (eCall m_requests_in (aCons (eVar 3) (aCons (eBin vSub (eCall fLen (aCons (eVar 4) (aNil))) (eCall fLen (aCons (eVar 1) (aNil)))) (aCons (eC (.int 1)) (aNil))))) (lc k) h' = .nx [some (.tup (ps.map pr)), some (.tup []), some (.int ((came r (k + 1) : Nat) - (thru ps r k : Nat) : Int)), some (tupR r), some (.ref h.length)] h' := by
      refine aug_eq (x := .int ((came r k : Nat) - (thru ps r k : Nat) : Int)) rfl ((call_eq (cons_eq (var_eq (x := tupR r) rfl) (cons_eq (sub_len (r := r) rfl rfl eh) (cons_eq rfl nil_eq)))).trans (by rw [outs_len]; exact req_in r k h')) ?_
      show Res.ok (D.int _) h' = _
      rw [came_next]
      rw [show (((came r k : Nat) - (thru ps r k : Nat) : Int) + (((List.take 1 (List.drop k r)).sum : Nat) : Int)) = (((came r k + (List.take 1 (List.drop k r)).sum : Nat) : Int) - (thru ps r k : Int)) by omega]
    obtain ⟨h2, e2, x2⟩ := next_ok g r k eh (by omega)
    let h3 : H := h2.set h.length (.lst ((outs ps r k).map nm ++ [nm (thru ps r (k + 1) - thru ps r k)]))
    have q2 := x2.get eh
    have hlt : h.length < h2.length := (List.getElem?_eq_some_iff.mp q2).1
    have b2 : sDrop (eLm mAppend (eVar 4) (aCons (eCall m_next_through (aCons (eVar 0) (aCons (eVar 4) (aCons (eVar 2) (aNil))))) aNil)) [some (.tup (ps.map pr)), some (.tup []), some (.int ((came r (k + 1) : Nat) - (thru ps r k : Nat) : Int)), some (tupR r), some (.ref h.length)] h' = .nx [some (.tup (ps.map pr)), some (.tup []), some (.int ((came r (k + 1) : Nat) - (thru ps r k : Nat) : Int)), some (tupR r), some (.ref h.length)] h3 := by
      refine drop_eq ((lm_eq (n := h.length) (us := (outs ps r k).map nm) (var_eq rfl) eh (cons_eq ((call_eq (cons_eq (var_eq rfl) (cons_eq (var_eq rfl) (cons_eq (var_eq rfl) nil_eq)))).trans e2) nil_eq)).trans (append_eq q2 (by rw [List.length_map, outs_len]; unfold LIM; omega)))
    have q3 : h3[h.length]? = some (.lst ((outs ps r (k + 1)).map nm)) := by
      show (h2.set _ _)[_]? = _
      rw [List.getElem?_set_self hlt, outs_next, List.map_append]
      rfl
    have b3 : sAug 2 vMinus (eBin vIx (eVar 4) (eUn vNeg (eC (.int 1)))) [some (.tup (ps.map pr)), some (.tup []), some (.int ((came r (k + 1) : Nat) - (thru ps r k : Nat) : Int)), some (tupR r), some (.ref h.length)] h3 = .nx (lc (k + 1)) h3 := by
      refine aug_eq (x := .int ((came r (k + 1) : Nat) - (thru ps r k : Nat) : Int)) (y := nm (thru ps r (k + 1) - thru ps r k)) rfl ((bin_eq (var_eq (x := .ref h.length) rfl) rfl).trans (last_lst (xs := outs ps r k) (by rw [← outs_next]; exact q3))) (z := .int ((came r (k + 1) : Nat) - (thru ps r (k + 1) : Nat) : Int)) ?_
      show Res.ok (D.int (((came r (k + 1) : Nat) - (thru ps r k : Nat) : Int) - ((thru ps r (k + 1) - thru ps r k : Nat) : Int))) h3 = _
      rw [show (((came r (k + 1) : Nat) - (thru ps r k : Nat) : Int) - ((thru ps r (k + 1) - thru ps r k : Nat) : Int)) = ((came r (k + 1) : Nat) - (thru ps r (k + 1) : Nat) : Int) by omega]
    exact ⟨lc (k + 1), h3, t1, (seq_eq b1).trans ((seq_eq b2).trans b3), rfl, q3, (ex.trans x2).new (Nat.le_refl _) _⟩) (fun l h' ⟨el, eh, ex⟩ => by
    subst el
    have t1 := tst N h' eh
    have := came_le r N
    rw [decide_eq_false (by omega), decide_eq_false (by omega)] at t1
    exact t1) 5000 0 (lc 0) (h ++ [.lst []]) (by omega) (by omega) ⟨rfl, by simp [outs], Ex.add _ _⟩
  subst i1
  have z0 : l0.set 4 (some (.ref h.length)) = lc 0 := rfl
  rw [z0] at s0
  have rt : eCut (eVar 4) (some (eCall fLen (aCons (eVar 1) (aNil)))) (none) (lc N) h1 = .ok (.ref h1.length) (h1 ++ [.lst ((outs ps r N).map nm)]) := by
    refine (cutL_eq (u := (0 : Nat)) (var_eq rfl) ((call1_eq (var_eq rfl)).trans (len_of (xs := []) rfl))).trans ?_
    unfold vCut
    dsimp only
    rw [i2]
    dsimp only
    rw [cut_from, List.drop_zero]
    rfl
  exact ⟨h1.length, _, fn_rt (s := sSeq _ _) rfl ((seq_eq s0).trans ((seq_eq e1).trans (ret_eq rt))), by simp, i3.trans (Ex.add _ _)⟩
theorem passed_ok {ps : List (Nat × Nat)} (g : Good ps) (r : List Nat) (hz : r.length ≤ 3000) (hb : r.sum ≤ 60) {o : Nat} {h : H} (q : Lim ps h o) (N : Nat) (hN : N ≤ r.length + 20 * r.sum) (hr : r.length ≤ N) (hN2 : thru ps r N = r.sum) (hN3 : ∀ k, k < N → k < r.length ∨ thru ps r k < r.sum) : ∃ h', m_passed [.ref o, tupR r] h = .ok (tupR (outs ps r N)) h' ∧ Ex h h' := by
  let l0 : Loc := [some (.ref o), some (tupR r)]
  let h1 : H := h ++ [.lst (List.replicate r.length (D.bl true))]
  have s1 : sDrop (eCall m_need_limits (aCons (eVar 0) (aNil))) l0 h = .nx l0 h := drop_eq ((call1_eq (var_eq rfl)).trans (need_lim q))
  have s2 : sDrop (eCall m_need_row (aCons (eVar 1) (aNil))) l0 h = .nx l0 h1 := drop_eq ((call1_eq (var_eq rfl)).trans (need_row hb (by omega) h))
  have x1 : Ex h h1 := Ex.add _ _
  have q1 : Lim ps h1 o := q.same (x1.at' _ q.lt)
  obtain ⟨a, h2, e2, a2, x2⟩ := through_ok g r hz hb h1 N hN hr hN2 hN3
  have ft : fTuple [.ref a] h2 = .ok (tupR (outs ps r N)) h2 := by
    unfold fTuple seqOf
    dsimp only
    rw [a2]
    rfl
  exact ⟨h2, fn_rt rfl ((seq_eq s1).trans ((seq_eq s2).trans (ret_eq ((call1_eq ((call_eq (cons_eq (pp_ok (i := 0) (l := l0) rfl q1) (cons_eq (tup_eq (xs := []) nil_eq (by simp)) (cons_eq rfl (cons_eq (var_eq (x := tupR r) rfl) nil_eq))))).trans e2)).trans ft)))), x1.trans x2⟩
theorem not_in_tup (p : Nat × Nat) (ps : List (Nat × Nat)) (h : H) : vNotIn (pr p) (.tup (ps.map pr)) h = .ok (.bl (decide (p ∉ ps))) h := by
  have e1 : toP h (pr p) = some (prP p) := rfl
  unfold vNotIn inD
  rw [e1, toP_prs]
  dsimp only
  have sh : PySem.SeqAt.shaped (.list (ps.map prP)) = true := sh_prs ps
  rw [if_pos ⟨sh_pr p, sh⟩]
  have : (ps.map prP).any (fun z => PyData.eqv z (prP p)) = decide (p ∈ ps) := by
    rw [Bool.eq_iff_iff]
    simp only [List.any_eq_true, List.mem_map, decide_eq_true_eq]
    constructor
    · rintro ⟨z, ⟨q, hq, rfl⟩, hz⟩
      rw [eqv_pr, decide_eq_true_eq] at hz
      exact hz ▸ hq
    · intro hp
      exact ⟨prP p, ⟨p, hp, rfl⟩, by rw [eqv_pr]; simp⟩
  rw [this]
  simp
theorem fld_held {ps : List (Nat × Nat)} {o : Nat} {h : H} (q : Lim ps h o) : vFld [0] "held" (.ref o) h = .ok (.tup (ps.map pr)) h := by
  obtain ⟨fs, w1, w2, _⟩ := q
  unfold vFld
  simp [w1, w2]
theorem single_ok (ca : Nat) (p : Nat × Nat) (hp : Ok1 p) (h : H) : ∃ o h', m_Limits_single ca [.gls ca, .int (p.1 : Nat), .int (p.2 : Nat)] h = .ok (.ref o) h' ∧ Lim [p] h' o ∧ Ex h h' := by
  obtain ⟨h', e1, q1, l1, f1⟩ := make [p] h (fun x hx => by rw [List.mem_singleton.mp hx]; exact hp) (by simp) (by simp) (by simp)
  refine ⟨h.length, h', fn_rt (s := sRet _) rfl (ret_eq ?_), q1, ⟨by omega, f1⟩⟩
  show (match (D.gls ca) with
    | .gls a => if a = ca then eMk 0 m_Limits___init__ (aCons (eTup (aCons (eVar 1) (aCons (eVar 2) (aNil)))) (aNil)) [some (.gls ca), some (.int (p.1 : Nat)), some (.int (p.2 : Nat))] h else Res.bad
    | _ => Res.bad) = _
  dsimp only
  rw [if_pos rfl]
  unfold eMk
  rw [cons_eq (tup_eq (xs := [.int (p.1 : Nat), .int (p.2 : Nat)]) (cons_eq (var_eq rfl) (cons_eq (var_eq rfl) nil_eq)) (by unfold LIM; simp)) nil_eq, bind_ok]
  exact e1
def both (ps qs : List (Nat × Nat)) : List (Nat × Nat) := ps ++ qs.filter fun q => decide (q ∉ ps)
theorem good_both {ps qs : List (Nat × Nat)} (g : Good ps) (g2 : Good qs) (hz : (both ps qs).length ≤ 6) : Good (both ps qs) := by
  refine ⟨fun p hp => ?_, ?_, ?_, hz⟩
  · rcases List.mem_append.mp hp with hp | hp
    · exact g.ok p hp
    · exact g2.ok p (List.mem_filter.mp hp).1
  · unfold both
    rw [List.nodup_append]
    refine ⟨g.nd, g2.nd.filter _, fun a ha b hb e => ?_⟩
    have := (List.mem_filter.mp hb).2
    rw [decide_eq_true_eq] at this
    exact this (e ▸ ha)
  · exact fun e => g.ne (List.append_eq_nil_iff.mp e).1
theorem add_ok {ps qs : List (Nat × Nat)} (g : Good ps) (g2 : Good qs) (hz : (both ps qs).length ≤ 6) {o o2 : Nat} {h : H} (q : Lim ps h o) (q2 : Lim qs h o2) : ∃ o' h', vAddO (one 0 m_Limits___add__) (.ref o) (.ref o2) h = .ok (.ref o') h' ∧ Lim (both ps qs) h' o' ∧ Ex h h' := by
  have gl := g.le
  have gl2 := g2.le
  let l0 : Loc := [some (.ref o), some (.ref o2), none, none, none]
  have t0 : tNot (tTruth (eUn (vIsC 0) (eVar 1))) l0 h = .ok false h := by
    obtain ⟨fs, w1, _⟩ := q2
    exact tnot_eq (ttruth_eq (x := .bl true) ((un_eq (var_eq (x := .ref o2) rfl)).trans (by
      unfold vIsC
      dsimp only
      rw [w1]
      rfl)) rfl)
  let φ : D → Option D := fun d => match d with
    | .tup [.int a, .int b] => if (a.toNat, b.toNat) ∉ ps then some d else none
    | _ => none
  have c : ∃ h', lcS (gName 4) (tVal (eBin vNotIn (eVar 4) (eUn (vFld [0] "held") (eVar 0)))) (eVar 4) (wipe l0 [4]) (qs.map pr) [] h = .ok ([] ++ (qs.map pr).filterMap φ) h' ∧ h' = h := by
    refine lcS_all (fun h' => h' = h) φ _ _ _ (fun d hd acc h' eh hz => ⟨h', ?_, eh⟩) rfl (by rw [List.length_map]; unfold LIM; simp; omega)
    subst eh
    obtain ⟨x, hx, rfl⟩ := List.mem_map.mp hd
    have t : tVal (eBin vNotIn (eVar 4) (eUn (vFld [0] "held") (eVar 0))) [some (.ref o), some (.ref o2), none, none, some (pr x)] h' = .ok (decide (x ∉ ps)) h' := tval_eq ((bin_eq (var_eq rfl) ((un_eq (var_eq rfl)).trans (fld_held q))).trans (not_in_tup x ps h'))
    have ep : φ (pr x) = if x ∉ ps then some (pr x) else none := rfl
    by_cases c : x ∈ ps
    · rw [ep, if_neg (by simpa using c)]
      rw [decide_eq_false (by simpa using c)] at t
      exact turn_no (g := gName 4) (l := wipe l0 [4]) (d := pr x) (acc := acc) rfl t
    · rw [ep, if_pos c]
      rw [decide_eq_true c] at t
      exact turn_yes (g := gName 4) (l := wipe l0 [4]) (d := pr x) (acc := acc) rfl t (var_eq rfl) hz
  obtain ⟨h', e1, rfl⟩ := c
  have e2 : ∀ qs : List (Nat × Nat), ([] : List D) ++ (qs.map pr).filterMap φ = (qs.filter fun q => decide (q ∉ ps)).map pr := fun qs => by
    rw [List.nil_append]
    induction qs with
    | nil => rfl
    | cons y ys ih =>
      have ep : φ (pr y) = if y ∉ ps then some (pr y) else none := rfl
      rw [List.map_cons, List.filterMap_cons, ep, List.filter_cons, ih]
      by_cases c : y ∈ ps
      · rw [if_neg (by simpa using c), if_neg (by simpa using c)]
      · rw [if_pos c, if_pos (by simpa using c), List.map_cons]
  rw [e2] at e1
  have ww : wSeq (eUn (vFld [0] "held") (eVar 1)) l0 h' = .ok (.snap (qs.map pr)) h' := seq_tup ((un_eq (var_eq rfl)).trans (fld_held q2))
  have c1 := comp_snap (vs := [4]) ww e1
  let ys : List D := (qs.filter fun q => decide (q ∉ ps)).map pr
  let h1 : H := h' ++ [.lst ys]
  have s1 := asg_eq (i := 2) c1
  have q1 : Lim ps h1 o := q.same ((Ex.add h' _).at' _ q.lt)
  let l1 : Loc := [some (.ref o), some (.ref o2), some (.ref h'.length), none, none]
  have st : eTup (aStarQ (eUn (vFld [0] "held") (eVar 0)) (aStarQ (eVar 2) (aNil))) l1 h1 = .ok (.tup ((both ps qs).map pr)) h1 := by
    have a1 := star_eq (r := aStarQ (eVar 2) (aNil)) (xs := ps.map pr) ((un_eq (a := eVar 0) (l := l1) (var_eq rfl)).trans (fld_held q1)) rfl (star_eq (xs := ys) (var_eq (l := l1) rfl) (by unfold seqOf; dsimp only; simp [h1]) nil_eq)
    rw [List.append_nil] at a1
    have : ps.map pr ++ ys = (both ps qs).map pr := by
      unfold both
      rw [List.map_append]
    rw [this] at a1
    exact tup_eq a1 (by rw [List.length_map]; unfold LIM; omega)
  have s2 := asg_eq (i := 3) st
  have gb := good_both g g2 hz
  obtain ⟨h2, e3, q3, l3, f3⟩ := make (both ps qs) h1 gb.ok gb.nd gb.ne gb.le
  let l2 : Loc := [some (.ref o), some (.ref o2), some (.ref h'.length), some (.tup ((both ps qs).map pr)), none]
  have mk : eMkS 0 m_Limits___init__ (eVar 3) l2 h1 = .ok (.ref h1.length) h2 := by
    unfold eMkS
    rw [var_eq (x := .tup ((both ps qs).map pr)) rfl, bind_ok]
    exact e3
  have all : m_Limits___add__ [.ref o, .ref o2] h' = .ok (.ref h1.length) h2 := fn_rt (s := sSeq _ _) rfl ((seq_eq ((if_f t0).trans rfl)).trans ((seq_eq s1).trans ((seq_eq s2).trans (ret_eq mk))))
  refine ⟨h1.length, h2, ?_, q3, (Ex.add _ _).trans ⟨Nat.le_of_lt l3, f3⟩⟩
  unfold vAddO
  rw [cls_lim q]
  dsimp only
  rw [if_pos (cls_lim q2)]
  unfold spc pickP
  rw [cls_lim q]
  show tame ((m_Limits___add__ [.ref o, .ref o2] h').bind bkAny) = _
  rw [all]
  rfl
theorem draw1 (c p many : Nat) {l : Loc} {e : E} {h h1 : H} (v0 : l[0]? = some (some (.ref p))) (he : e l h = .ok (.int (many : Nat)) h1) (hm : 0 < many) (hs : many < 1000000) (q : Pen (c + 1) h1 p) : ∃ (k : Nat) (t : Cell), k < many ∧ eCall m__law_draw (aCons (eVar 0) (aCons e (aNil))) l h = .ok (.int (k : Nat)) (h1.set p t) ∧ Pen c (h1.set p t) p := by
  obtain ⟨k, t, hk, e1, q1⟩ := draw c h1 p many hm hs q
  exact ⟨k, t, hk, (call2_eq (var_eq v0) he).trans e1, q1⟩
theorem plus1 {e : E} {l : Loc} {h h1 : H} {k : Nat} (he : e l h = .ok (.int (k : Nat)) h1) : eBin vAdd (eC (.int 1)) e l h = .ok (nm (1 + k)) h1 := by
  refine (bin_eq rfl he).trans ?_
  show Res.ok (D.int (1 + (k : Int))) h1 = _
  rw [show (1 : Int) + (k : Int) = ((1 + k : Nat) : Int) by omega]
  rfl
theorem add_nm (a b : Nat) (h : H) : vAdd (nm a) (nm b) h = .ok (nm (a + b)) h := by
  show Res.ok (D.int ((a : Int) + (b : Int))) h = _
  rw [show (a : Int) + (b : Int) = ((a + b : Nat) : Int) by omega]
  rfl
theorem max_nm (a b : Nat) (h : H) : fMax [nm a, nm b] h = .ok (nm (max a b)) h := by
  unfold fMax nm
  dsimp only
  rw [show (if (b : Int) > (a : Int) then (b : Int) else (a : Int)) = ((max a b : Nat) : Int) by split <;> omega]
def consts (xs : List Nat) (r : A) : A := xs.foldr (fun x a => aCons (eC (.int (x : Nat))) a) r
theorem consts_eq {r : A} {l : Loc} {h h1 : H} {ys : List Nat} (hr : r l h = .ok (ys.map nm) h1) : ∀ xs : List Nat, consts xs r l h = .ok ((xs ++ ys).map nm) h1
  | [] => hr
  | x :: xs => cons_eq (a := eC (.int (x : Nat))) (h1 := h) rfl (consts_eq hr xs)
theorem choose_ok (c p : Nat) (xs ys : List Nat) (n : Nat) (hn : n = (xs ++ ys).length) (n0 : 0 < n) (n1 : n < 1000) {r : A} {l : Loc} {h h1 : H} (hr : r l h = .ok (ys.map nm) h1) (v0 : l[0]? = some (some (.ref p))) (q : Pen (c + 1) h1 p) : ∃ y ∈ xs ++ ys, ∃ h2, eBin vIx (eLst (consts xs r)) (eCall m__law_draw (aCons (eVar 0) (aCons (eC (.int (n : Nat))) (aNil)))) l h = .ok (nm y) h2 ∧ Pen c h2 p ∧ Kp p h1 h2 := by
  have pl := q.lt
  have e1 := lst_eq (consts_eq hr xs) (by rw [List.length_map]; unfold LIM; omega)
  obtain ⟨k, t, hk, e2, q2⟩ := draw1 c p n (l := l) (e := eC (.int (n : Nat))) (h := h1 ++ [.lst ((xs ++ ys).map nm)]) v0 rfl n0 (by omega) (q.add _)
  have hk' : k < (xs ++ ys).length := by omega
  have at1 : ((h1 ++ [Cell.lst ((xs ++ ys).map nm)]).set p t)[h1.length]? = some (.lst ((xs ++ ys).map nm)) := by rw [List.getElem?_set_ne (by omega)]; simp
  have ix : vIx (.ref h1.length) (.int (k : Nat)) ((h1 ++ [Cell.lst ((xs ++ ys).map nm)]).set p t) = .ok (nm (xs ++ ys)[k]) ((h1 ++ [Cell.lst ((xs ++ ys).map nm)]).set p t) := ix_of (xs := (xs ++ ys).map nm) (by unfold seqOf; dsimp only; rw [at1]) (by rw [List.getElem?_map, List.getElem?_eq_getElem hk']; rfl)
  exact ⟨(xs ++ ys)[k], List.getElem_mem hk', _, (bin_eq e1 e2).trans ix, q2, (Kp.add p h1 _).trans (Kp.set p _ t)⟩
def pbody : S := sSeq (sAsg (eBin vIx (eLst (aCons (eC (.int 1)) (aCons (eC (.int 2)) (aCons (eC (.int 3)) (aCons (eC (.int 4)) (aCons (eC (.int 6)) (aCons (eC (.int 9)) (aCons (eC (.int 20)) (aCons (eBin vAdd (eC (.int 1)) (eCall m__law_draw (aCons (eVar 0) (aCons (eC (.int 20)) (aNil))))) (aNil)))))))))) (eCall m__law_draw (aCons (eVar 0) (aCons (eC (.int 8)) (aNil))))) (gName 4)) (sSeq (sAsg (eBin vIx (eLst (aCons (eC (.int 1)) (aCons (eC (.int 2)) (aCons (eC (.int 3)) (aCons (eC (.int 5)) (aCons (eC (.int 8)) (aCons (eC (.int 20)) (aCons (eBin vAdd (eC (.int 1)) (eCall m__law_draw (aCons (eVar 0) (aCons (eC (.int 20)) (aNil))))) (aNil))))))))) (eCall m__law_draw (aCons (eVar 0) (aCons (eC (.int 7)) (aNil))))) (gName 5)) (sSeq (sAsg (eTup (aCons (eVar 4) (aCons (eCall fMax (aCons (eVar 5) (aCons (eBin vFdiv (eBin vAdd (eVar 4) (eC (.int 2))) (eC (.int 3))) (aNil)))) (aNil)))) (gName 6)) (sIf (tVal (eBin vNotIn (eVar 6) (eVar 2))) (sDrop (eLm mAppend (eVar 2) (aCons (eVar 6) aNil))) (sNext))))
theorem draw20 (c p : Nat) {l : Loc} {h : H} (v0 : l[0]? = some (some (.ref p))) (q : Pen (c + 1) h p) : ∃ x h1, (1 ≤ x ∧ x ≤ 20) ∧ aCons (eBin vAdd (eC (.int 1)) (eCall m__law_draw (aCons (eVar 0) (aCons (eC (.int 20)) (aNil))))) aNil l h = .ok ([x].map nm) h1 ∧ Pen c h1 p ∧ Kp p h h1 := by
  obtain ⟨k, t, hk, e, q1⟩ := draw1 c p 20 (l := l) (e := eC (.int 20)) (h := h) v0 rfl (by omega) (by omega) q
  exact ⟨1 + k, _, by omega, cons_eq (plus1 e) nil_eq, q1, Kp.set p _ t⟩
theorem pbody_ok (c p m : Nat) (hpm : p ≠ m) (w3 w4 w5 w6 : Option D) (mo : Option D) (h : H) (ps : List (Nat × Nat)) (hm : h[m]? = some (.lst (ps.map pr))) (hz : ps.length < 1000) (q : Pen (c + 4) h p) :
    ∃ (x : Nat × Nat) (l' : Loc) (h' : H), Ok1 x ∧ pbody [some (.ref p), mo, some (.ref m), w3, w4, w5, w6] h = .nx l' h' ∧ (∃ v4 v5 v6, l' = [some (.ref p), mo, some (.ref m), w3, v4, v5, v6]) ∧ h'[m]? = some (.lst ((if x ∉ ps then ps ++ [x] else ps).map pr)) ∧ Pen c h' p ∧ h.length ≤ h'.length ∧ ∀ a, a < h.length → a ≠ p → a ≠ m → h'[a]? = h[a]? := by
  have ml : m < h.length := (List.getElem?_eq_some_iff.mp hm).1
  let l0 : Loc := [some (.ref p), mo, some (.ref m), w3, w4, w5, w6]
  obtain ⟨x1, h1, b1, e1, q1, k1⟩ := draw20 (c + 3) p (l := l0) rfl q
  obtain ⟨y1, m1, h2, f1, q2, k2⟩ := choose_ok (c + 2) p [1, 2, 3, 4, 6, 9, 20] [x1] 8 rfl (by omega) (by omega) e1 rfl q1
  have by1 : 1 ≤ y1 ∧ y1 ≤ 20 := by
    simp only [List.cons_append, List.nil_append, List.mem_cons, List.not_mem_nil, or_false] at m1
    omega
  let l1 : Loc := [some (.ref p), mo, some (.ref m), w3, some (nm y1), w5, w6]
  have s1 := asg_eq (i := 4) f1
  obtain ⟨x2, h3, b2, e2, q3, k3⟩ := draw20 (c + 1) p (l := l1) rfl q2
  obtain ⟨y2, m2, h4, f2, q4, k4⟩ := choose_ok c p [1, 2, 3, 5, 8, 20] [x2] 7 rfl (by omega) (by omega) e2 rfl q3
  have by2 : 1 ≤ y2 ∧ y2 ≤ 20 := by
    simp only [List.cons_append, List.nil_append, List.mem_cons, List.not_mem_nil, or_false] at m2
    omega
  let l2 : Loc := [some (.ref p), mo, some (.ref m), w3, some (nm y1), some (nm y2), w6]
  have s2 := asg_eq (i := 5) f2
  let x : Nat × Nat := (y1, max y2 ((y1 + 2) / 3))
  have ox : Ok1 x := ⟨by1.1, by1.2, by show 1 ≤ max y2 _; omega, by show max y2 ((y1 + 2) / 3) ≤ 20; omega⟩
  have dv : eBin vFdiv (eBin vAdd (eVar 4) (eC (.int 2))) (eC (.int 3)) l2 h4 = .ok (nm ((y1 + 2) / 3)) h4 := by
    refine (bin_eq ((bin_eq (var_eq (x := nm y1) rfl) rfl).trans (add_nm y1 2 h4)) rfl).trans ?_
    show (if (0 : Int) < 3 ∧ (3 : Int) < 1073741824 then Res.ok (D.int (((y1 + 2 : Nat) : Int) / 3)) h4 else Res.bad) = _
    rw [if_pos (by omega), show (((y1 + 2 : Nat) : Int) / 3) = (((y1 + 2) / 3 : Nat) : Int) by omega]
    rfl
  have tp : eTup (aCons (eVar 4) (aCons (eCall fMax (aCons (eVar 5) (aCons (eBin vFdiv (eBin vAdd (eVar 4) (eC (.int 2))) (eC (.int 3))) (aNil)))) (aNil))) l2 h4 = .ok (pr x) h4 := tup_eq (cons_eq (var_eq (x := nm y1) rfl) (cons_eq ((call2_eq (var_eq (x := nm y2) rfl) dv).trans (max_nm _ _ _)) nil_eq)) (by unfold LIM; simp)
  let l3 : Loc := [some (.ref p), mo, some (.ref m), w3, some (nm y1), some (nm y2), some (pr x)]
  have s3 := asg_eq (i := 6) tp
  have kk : Kp p h h4 := ((k1.trans k2).trans k3).trans k4
  have m4 : h4[m]? = some (.lst (ps.map pr)) := by rw [kk.at' m ml (Ne.symm hpm), hm]
  have ni := (bin_eq (f := vNotIn) (var_eq (i := 6) (l := l3) (x := pr x) rfl) (var_eq (i := 2) (l := l3) rfl)).trans (not_in x ps m h4 m4)
  have pre : ∀ s, sSeq (sAsg _ _) (sSeq (sAsg _ _) (sSeq (sAsg _ _) s)) l0 h = s l3 h4 := fun s => (seq_eq s1).trans ((seq_eq s2).trans (seq_eq s3))
  by_cases hx : x ∈ ps
  · rw [decide_eq_false (by simpa using hx)] at ni
    exact ⟨x, l3, h4, ox, (pre _).trans ((if_f (tval_eq ni)).trans rfl), ⟨_, _, _, rfl⟩, by rw [if_neg (by simpa using hx)]; exact m4, q4, kk.le, fun a ha hp _ => kk.at' a ha hp⟩
  · rw [decide_eq_true (by simpa using hx)] at ni
    have lt4 : m < h4.length := (List.getElem?_eq_some_iff.mp m4).1
    refine ⟨x, l3, h4.set m (.lst (ps.map pr ++ [pr x])), ox, (pre _).trans ((if_t (tval_eq ni)).trans (drop_eq ((lm_eq (n := m) (us := ps.map pr) (var_eq rfl) m4 (cons_eq (var_eq rfl) nil_eq)).trans (append_eq m4 (by rw [List.length_map]; unfold LIM; omega))))), ⟨_, _, _, rfl⟩, ?_, q4.same (List.getElem?_set_ne (Ne.symm hpm)), by have := kk.le; simp; omega, fun a ha hp hb => by rw [List.getElem?_set_ne (Ne.symm hb), kk.at' a ha hp]⟩
    rw [if_pos hx, List.getElem?_set_self lt4, List.map_append]
    rfl
theorem pairs_ok (c p most : Nat) (hmo : 1 ≤ most ∧ most ≤ 6) (h : H) (q : Pen (c + 25) h p) : ∃ (ps : List (Nat × Nat)) (a : Nat) (h' : H), m__law_pairs [.ref p, .int (most : Nat)] h = .ok (.ref a) h' ∧ h'[a]? = some (.lst (ps.map pr)) ∧ a ≠ p ∧ Good ps ∧ ps.length ≤ most ∧ Pen c h' p ∧ Kp p h h' := by
  have pl := q.lt
  let l0 : Loc := [some (.ref p), some (.int (most : Nat)), some (.ref h.length), none, none, none, none]
  have s0 : sAsg (eLst (aNil)) (gName 2) [some (.ref p), some (.int (most : Nat)), none, none, none, none, none] h = .nx l0 (h ++ [.lst []]) := asg_eq (lst_eq nil_eq (by simp))
  obtain ⟨k, tk, bk, ek, qk⟩ := draw1 (c + 24) p most (l := l0) (e := eVar 1) (h := h ++ [.lst []]) rfl (var_eq rfl) (by omega) (by omega) (q.add _)
  let i1 : H := (h ++ [Cell.lst []]).set p tk
  have kp1 : Kp p h i1 := (Kp.add p h _).trans (Kp.set p _ tk)
  let I : List D → Loc → H → Prop := fun ds l h' => (∃ v3 v4 v5 v6, l = [some (.ref p), some (.int (most : Nat)), some (.ref h.length), v3, v4, v5, v6]) ∧ (∃ ps : List (Nat × Nat), h'[h.length]? = some (.lst (ps.map pr)) ∧ (∀ x ∈ ps, Ok1 x) ∧ ps.Nodup ∧ ps.length + ds.length ≤ most ∧ (ds ≠ [] ∨ ps ≠ [])) ∧ Pen (c + 4 * ds.length) h' p ∧ Kp p h h'
  obtain ⟨l2, h2, e2, ⟨v3, v4, v5, v6, el⟩, ⟨ps, bm, bo, bn, bl, bne⟩, bq, bkp⟩ := loopS_all (g := gName 3) (b := pbody) I (fun d ds l h' ⟨⟨v3, v4, v5, v6, el⟩, ⟨ps, am, ao, an, al, ane⟩, aq, ak⟩ => by
    subst el
    rw [List.length_cons] at al aq
    obtain ⟨x, l', h'', ox, e, ⟨u4, u5, u6, el'⟩, cm, cq, cl, cf⟩ := pbody_ok (c + 4 * ds.length) p h.length (by omega) (some d) v4 v5 v6 (some (.int (most : Nat))) h' ps am (by omega) (aq.less (by omega))
    have hl' : h.length < h'.length := (List.getElem?_eq_some_iff.mp am).1
    refine ⟨l', h'', e, ⟨some d, u4, u5, u6, el'⟩, ⟨if x ∉ ps then ps ++ [x] else ps, cm, ?_⟩, cq, ⟨Nat.le_trans ak.le cl, fun a ha hp => by rw [cf a (by omega) hp (by omega), ak.at' a ha hp]⟩⟩
    by_cases hi : x ∈ ps
    · rw [if_neg (by simpa using hi)]
      exact ⟨ao, an, by omega, .inr (List.ne_nil_of_mem hi)⟩
    · rw [if_pos hi]
      refine ⟨fun y hy => ?_, ?_, by rw [List.length_append, List.length_singleton]; omega, .inr (by simp)⟩
      · rcases List.mem_append.mp hy with hy | hy
        · exact ao y hy
        · rw [List.mem_singleton.mp hy]; exact ox
      · rw [List.nodup_append]
        exact ⟨an, by simp, fun a ha b hb => by rw [List.mem_singleton.mp hb]; exact fun e => hi (e ▸ ha)⟩) (rng 0 (1 + (k : Int))) l0 i1 ⟨⟨none, none, none, none, rfl⟩, ⟨[], by show ((h ++ [Cell.lst []]).set p tk)[h.length]? = _; rw [List.getElem?_set_ne (by omega)]; simp, by simp, by simp, by rw [rng_len]; simp; omega, .inl (fun e => by have := congrArg List.length e; rw [rng_len] at this; simp at this; omega)⟩, qk.less (by rw [rng_len]; omega), kp1⟩
  subst el
  have w : wRng1 (aCons (eBin vAdd (eC (.int 1)) (eCall m__law_draw (aCons (eVar 0) (aCons (eVar 1) (aNil))))) (aNil)) l0 (h ++ [.lst []]) = .ok (.snap (rng 0 (1 + (k : Int)))) i1 := rng1_eq ((plus1 ek).trans (by show Res.ok (D.int ((1 + k : Nat) : Int)) i1 = .ok (.int (1 + (k : Int))) i1; rw [show ((1 + k : Nat) : Int) = 1 + (k : Int) by omega])) (by unfold LIM; omega)
  have bne' : ps ≠ [] := bne.elim (fun z => absurd rfl z) id
  have bl' : ps.length ≤ most := by simpa using bl
  exact ⟨ps, h.length, h2, fn_rt (s := sSeq _ _) rfl ((seq_eq s0).trans ((seq_eq ((for_snap w).trans e2)).trans (ret_eq (var_eq rfl)))), bm, by omega, ⟨bo, bn, bne', by omega⟩, bl', bq.less (by omega), bkp⟩
theorem limits_ok (ca : Nat) {ps : List (Nat × Nat)} (g : Good ps) {a : Nat} {h : H} (ha : h[a]? = some (.lst (ps.map pr))) : ∃ o h', m__law_limits ca [.ref a] h = .ok (.ref o) h' ∧ Lim ps h' o ∧ Ex h h' := by
  have gl := g.le
  obtain ⟨x, xs, rfl⟩ : ∃ x xs, ps = x :: xs := by
    cases ps with
    | nil => exact absurd rfl g.ne
    | cons x xs => exact ⟨x, xs, rfl⟩
  let l0 : Loc := [some (.ref a), none, none, none]
  have sq : seqOf (.ref a) h = some ((x :: xs).map pr) := by unfold seqOf; dsimp only; rw [ha]
  have i0 : eBin vIx (eVar 0) (eC (.int 0)) l0 h = .ok (pr x) h := (bin_eq (var_eq rfl) rfl).trans (ix_of (k := 0) sq rfl)
  obtain ⟨o0, h1, e1, q1, x1⟩ := single_ok ca x (g.ok x List.mem_cons_self) h
  have cm : eCm ca (m_Limits_single ca) (aCons (eBin vIx (eBin vIx (eVar 0) (eC (.int 0))) (eC (.int 0))) (aCons (eBin vIx (eBin vIx (eVar 0) (eC (.int 0))) (eC (.int 1))) (aNil))) l0 h = .ok (.ref o0) h1 := by
    unfold eCm
    rw [cons_eq ((bin_eq i0 rfl).trans (ix_of (d := pr x) (xs := [.int (x.1 : Nat), .int (x.2 : Nat)]) (k := 0) rfl rfl)) (cons_eq ((bin_eq i0 rfl).trans (ix_of (d := pr x) (xs := [.int (x.1 : Nat), .int (x.2 : Nat)]) (k := 1) rfl rfl)) nil_eq), bind_ok]
    exact e1
  let l1 : Loc := [some (.ref a), some (.ref o0), none, none]
  have s1 := asg_eq (i := 1) cm
  let h2 : H := h1 ++ [.lst (xs.map pr)]
  have ct : eCut (eVar 0) (some (eC (.int 1))) (none) l1 h1 = .ok (.ref h1.length) h2 := by
    refine (cutL_eq (u := (1 : Nat)) (var_eq rfl) rfl).trans ?_
    unfold vCut
    dsimp only
    rw [x1.get ha]
    dsimp only
    rw [cut_from]
    rfl
  have w : wSeq (eCut (eVar 0) (some (eC (.int 1))) (none)) l1 h1 = .ok (.live h1.length) h2 := seq_live (xs := xs.map pr) ct (by simp [h2])
  let I : Nat → Loc → H → Prop := fun i l h' => (∃ o v2 v3, l = [some (.ref a), some (.ref o), v2, v3] ∧ Lim (x :: xs.take i) h' o) ∧ Ex h2 h'
  have goodTake : ∀ i, Good (x :: xs.take i) := fun i => by
    have e : x :: xs.take i = (x :: xs).take (i + 1) := rfl
    rw [e]
    exact ⟨fun y hy => g.ok y (List.mem_of_mem_take hy), g.nd.sublist (List.take_sublist _ _), by simp, by rw [List.length_take]; omega⟩
  obtain ⟨l3, h3, e3, ⟨o3, v2, v3, el, q3⟩, x3⟩ := loopL_all (g := gTup 2 (gCons (gName 2) (gCons (gName 3) (gNil)))) (b := sAsg (eBin (vAddO (one 0 m_Limits___add__)) (eVar 1) (eCm ca (m_Limits_single ca) (aCons (eVar 2) (aCons (eVar 3) (aNil))))) (gName 1)) (n := h1.length) (xs := xs.map pr) I (fun i l h' ⟨_, ex⟩ => ex.get (by simp [h2])) (fun i d l h' ⟨⟨o, v2, v3, el, q⟩, ex⟩ hd => by
    subst el
    rw [List.getElem?_map] at hd
    obtain ⟨y, hy, rfl⟩ : ∃ y, xs[i]? = some y ∧ pr y = d := by
      cases hi : xs[i]? with
      | none => rw [hi] at hd; cases hd
      | some y => rw [hi] at hd; exact ⟨y, rfl, Option.some.inj hd⟩
    have my : y ∈ xs := List.mem_of_getElem? hy
    obtain ⟨o1, h4, e4, q4, x4⟩ := single_ok ca y (g.ok y (List.mem_cons_of_mem _ my)) h'
    have q' : Lim (x :: xs.take i) h4 o := q.same (x4.at' _ q.lt)
    have tk : xs.take (i + 1) = xs.take i ++ [y] := take_next hy
    have ny : y ∉ x :: xs.take i := fun hm => by
      have nd := (goodTake (i + 1)).nd
      rw [tk, ← List.cons_append, List.nodup_append] at nd
      exact nd.2.2 y hm y (by simp) rfl
    have eb : both (x :: xs.take i) [y] = x :: xs.take (i + 1) := by
      unfold both
      rw [tk]
      simp only [List.filter_cons, List.filter_nil]
      rw [if_pos (by simpa using ny), List.cons_append]
    obtain ⟨o5, h5, e5, q5, x5⟩ := add_ok (goodTake i) (⟨fun z hz => by rw [List.mem_singleton.mp hz]; exact g.ok y (List.mem_cons_of_mem _ my), by simp, by simp, by simp⟩ : Good [y]) (by rw [eb]; exact (goodTake (i + 1)).le) q' q4
    rw [eb] at q5
    have cm2 : eCm ca (m_Limits_single ca) (aCons (eVar 2) (aCons (eVar 3) (aNil))) [some (.ref a), some (.ref o), some (.int (y.1 : Nat)), some (.int (y.2 : Nat))] h' = .ok (.ref o1) h4 := by
      unfold eCm
      rw [cons_eq (var_eq rfl) (cons_eq (var_eq rfl) nil_eq), bind_ok]
      exact e4
    refine ⟨[some (.ref a), some (.ref o5), some (.int (y.1 : Nat)), some (.int (y.2 : Nat))], h5, ?_, ⟨o5, _, _, rfl, q5⟩, (ex.trans x4).trans x5⟩
    exact (asg_eq (l := [some (.ref a), some (.ref o), some (.int (y.1 : Nat)), some (.int (y.2 : Nat))]) ((bin_eq (var_eq rfl) cm2).trans e5))) ((xs.map pr).length + 1) 0 l1 h2 (by omega) (by omega) ⟨⟨o0, none, none, rfl, q1.same ((Ex.add h1 _).at' _ q1.lt)⟩, Ex.refl _⟩
  subst el
  have fl := (for_live (g := gTup 2 (gCons (gName 2) (gCons (gName 3) (gNil)))) (s := sAsg (eBin (vAddO (one 0 m_Limits___add__)) (eVar 1) (eCm ca (m_Limits_single ca) (aCons (eVar 2) (aCons (eVar 3) (aNil))))) (gName 1)) w)
  rw [lenAt_eq (xs := xs.map pr) (by simp [h2])] at fl
  have tk : xs.take (xs.map pr).length = xs := by rw [List.length_map, List.take_length]
  rw [tk] at q3
  exact ⟨o3, h3, fn_rt (s := sSeq _ _) rfl ((seq_eq s1).trans ((seq_eq (fl.trans e3)).trans (ret_eq (var_eq rfl)))), q3, (x1.trans (Ex.add _ _)).trans x3⟩
theorem get_add {b : Nat} {t : Cell} {h : H} (u : Cell) (e : h[b]? = some t) : (h ++ [u])[b]? = some t := (Ex.add h u).get e
theorem get_own {m : Nat} {t : Cell} {h : H} (u : Cell) (e : h[m]? = some t) : (h.set m u)[m]? = some u := List.getElem?_set_self (List.getElem?_eq_some_iff.mp e).1
theorem sum_lst {xs : List Nat} {a : Nat} {h : H} (e : h[a]? = some (.lst (xs.map nm))) : fSum [.ref a] h = .ok (nm xs.sum) h := by
  unfold fSum intsOf seqOf
  dsimp only
  rw [e]
  dsimp only
  rw [numsL_nm]
  dsimp only
  rw [sum_nm]
  rfl
def rbody : S := sSeq (sAsg (eBin vIx (eLst (aCons (eC (.int 0)) (aCons (eC (.int 0)) (aCons (eC (.int 1)) (aCons (eC (.int 2)) (aCons (eC (.int 5)) (aCons (eCall m__law_draw (aCons (eVar 0) (aCons (eC (.int 13)) (aNil)))) (aCons (eCall m__law_draw (aCons (eVar 0) (aCons (eC (.int 61)) (aNil)))) (aNil))))))))) (eCall m__law_draw (aCons (eVar 0) (aCons (eC (.int 7)) (aNil))))) (gName 5)) (sDrop (eLm mAppend (eVar 3) (aCons (eIf (tVal (eBin vLe (eBin vAdd (eCall fSum (aCons (eVar 3) (aNil))) (eVar 5)) (eC (.int 60)))) (eVar 5) (eC (.int 0))) aNil)))
theorem row_ok (c p size : Nat) (hsz : size ≤ 20) (h : H) (q : Pen (c + 100) h p) : ∃ (r : List Nat) (h' : H), m__law_row [.ref p, .int (size : Nat)] h = .ok (tupR r) h' ∧ r.length ≤ size ∧ r.sum ≤ 60 ∧ Pen c h' p ∧ Kp p h h' := by
  have pl := q.lt
  let l00 : Loc := [some (.ref p), some (.int (size : Nat)), none, none, none, none]
  have dd : eBin vAdd (eVar 1) (eC (.int 1)) l00 (h ++ [.lst []]) = .ok (nm (size + 1)) (h ++ [.lst []]) := (bin_eq (var_eq rfl) rfl).trans (add_nm size 1 _)
  obtain ⟨k, t, hk, e0, q0⟩ := draw1 (c + 99) p (size + 1) (l := l00) (h := h ++ [.lst []]) rfl dd (by omega) (by omega) (q.add _)
  let l0 : Loc := [some (.ref p), some (.int (size : Nat)), none, some (.ref h.length), some (.int (k : Nat)), none]
  let i0 : H := (h ++ [Cell.lst []]).set p t
  have s0 : sPar 3 4 (aCons (eLst (aNil)) (aCons (eCall m__law_draw (aCons (eVar 0) (aCons (eBin vAdd (eVar 1) (eC (.int 1))) (aNil)))) (aNil))) l00 h = .nx l0 i0 := par_eq (cons_eq (lst_eq nil_eq (by simp)) (cons_eq e0 nil_eq))
  let I : List D → Loc → H → Prop := fun ds l h' => (∃ v2 v5, l = [some (.ref p), some (.int (size : Nat)), v2, some (.ref h.length), some (.int (k : Nat)), v5]) ∧ (∃ r : List Nat, h'[h.length]? = some (.lst (r.map nm)) ∧ r.sum ≤ 60 ∧ r.length + ds.length = k) ∧ Pen (c + 4 * ds.length) h' p ∧ Kp p h h'
  obtain ⟨l2, h2, e2, ⟨v2, v5, el⟩, ⟨r, br, bs, bl⟩, bq, bk⟩ := loopS_all (g := gName 2) (b := rbody) I (fun d ds l h' ⟨⟨v2, v5, el⟩, ⟨r, ar, as, al⟩, aq, ak⟩ => by
    subst el
    rw [List.length_cons] at al aq
    let l1 : Loc := [some (.ref p), some (.int (size : Nat)), some d, some (.ref h.length), some (.int (k : Nat)), v5]
    have hl' : h.length < h'.length := (List.getElem?_eq_some_iff.mp ar).1
    obtain ⟨x1, t1, b1, f1, q1⟩ := draw1 (c + 4 * ds.length + 2) p 13 (l := l1) (e := eC (.int 13)) (h := h') rfl rfl (by omega) (by omega) (aq.less (by omega))
    obtain ⟨x2, t2, b2, f2, q2⟩ := draw1 (c + 4 * ds.length + 1) p 61 (l := l1) (e := eC (.int 61)) (h := h'.set p t1) rfl rfl (by omega) (by omega) q1
    obtain ⟨y, my, h3, f3, q3, k3⟩ := choose_ok (c + 4 * ds.length) p [0, 0, 1, 2, 5] [x1, x2] 7 rfl (by omega) (by omega) (l := l1) (cons_eq f1 (cons_eq f2 nil_eq)) rfl q2
    have kk : Kp p h' h3 := ((Kp.set p h' t1).trans (Kp.set p _ t2)).trans k3
    have a3 : h3[h.length]? = some (.lst (r.map nm)) := by rw [kk.at' _ hl' (by omega), ar]
    have s1 := asg_eq (i := 5) f3
    let l2 : Loc := [some (.ref p), some (.int (size : Nat)), some d, some (.ref h.length), some (.int (k : Nat)), some (nm y)]
    have ts : tVal (eBin vLe (eBin vAdd (eCall fSum (aCons (eVar 3) (aNil))) (eVar 5)) (eC (.int 60))) l2 h3 = .ok (decide (r.sum + y ≤ 60)) h3 := by
      refine tval_eq ((bin_eq ((bin_eq ((call1_eq (var_eq rfl)).trans (sum_lst a3)) (var_eq rfl)).trans (add_nm _ _ _)) rfl).trans ?_)
      show Res.ok (D.bl (decide (((r.sum + y : Nat) : Int) ≤ 60))) h3 = _
      rw [show decide (((r.sum + y : Nat) : Int) ≤ 60) = decide (r.sum + y ≤ 60) by rw [decide_eq_decide]; omega]
    obtain ⟨z, hz, ez⟩ : ∃ z, r.sum + z ≤ 60 ∧ eIf (tVal (eBin vLe (eBin vAdd (eCall fSum (aCons (eVar 3) (aNil))) (eVar 5)) (eC (.int 60)))) (eVar 5) (eC (.int 0)) l2 h3 = .ok (nm z) h3 := by
      by_cases cz : r.sum + y ≤ 60
      · refine ⟨y, cz, ?_⟩
        unfold eIf
        rw [ts, bind_ok, decide_eq_true cz, if_pos rfl]
        rfl
      · refine ⟨0, by omega, ?_⟩
        unfold eIf
        rw [ts, bind_ok, decide_eq_false cz, if_neg (by decide)]
        rfl
    have s2 := drop_eq ((lm_eq (n := h.length) (us := r.map nm) (var_eq (i := 3) (l := l2) rfl) a3 (cons_eq ez nil_eq)).trans (append_eq a3 (by rw [List.length_map]; unfold LIM; omega)))
    refine ⟨l2, h3.set h.length (.lst (r.map nm ++ [nm z])), (seq_eq s1).trans s2, ⟨_, _, rfl⟩, ⟨r ++ [z], ?_, by rw [List.sum_append]; simpa using hz, by rw [List.length_append, List.length_singleton]; omega⟩, q3.same (List.getElem?_set_ne (by omega)), (ak.trans kk).new (Nat.le_refl _) _⟩
    rw [get_own _ a3, List.map_append]
    rfl) (rng 0 (k : Int)) l0 i0 ⟨⟨none, none, rfl⟩, ⟨[], by show ((h ++ [Cell.lst []]).set p t)[h.length]? = _; rw [List.getElem?_set_ne (by omega)]; simp, by simp, by rw [rng_len]; simp⟩, q0.less (by rw [rng_len]; omega), (Kp.add p h _).trans (Kp.set p _ t)⟩
  subst el
  have w := for_snap (g := gName 2) (s := rbody) (rng1_eq (a := eVar 4) (l := l0) (h := i0) (j := (k : Int)) (var_eq rfl) (by unfold LIM; omega))
  have ft : fTuple [.ref h.length] h2 = .ok (tupR r) h2 := by
    unfold fTuple seqOf
    dsimp only
    rw [br]
    rfl
  have bl' : r.length = k := by simpa using bl
  exact ⟨r, h2, fn_rt (s := sSeq _ _) rfl ((seq_eq s0).trans ((seq_eq (w.trans e2)).trans (ret_eq ((call1_eq (var_eq rfl)).trans ft)))), by omega, bs, bq.less (by simp), bk⟩
theorem tup_add {xs ys : List Nat} {h : H} (hz : xs.length + ys.length ≤ LIM) : vAdd (tupR xs) (tupR ys) h = .ok (tupR (xs ++ ys)) h := by
  show (if (xs.map nm).length + (ys.map nm).length ≤ LIM then Res.ok (D.tup (xs.map nm ++ ys.map nm)) h else .bad) = _
  rw [if_pos (by simpa using hz), ← List.map_append]
  rfl
theorem rep_ok {xs : List Nat} {k : Nat} {h : H} (hx : xs ≠ []) (h1 : xs.length ≤ 1000) (h2 : k ≤ 1000) (h3 : xs.length * k ≤ LIM) : vRep (tupR xs) (.int (k : Nat)) h = .ok (tupR (List.replicate k xs).flatten) h := by
  show (if xs.map nm ≠ [] ∧ (xs.map nm).length ≤ 1000 ∧ (0 : Int) ≤ (k : Int) ∧ (k : Int) ≤ 1000 ∧ (xs.map nm).length * (k : Int).toNat ≤ LIM then Res.ok (D.tup (List.replicate (k : Int).toNat (xs.map nm)).flatten) h else .bad) = _
  rw [if_pos ⟨by simpa using hx, by simpa using h1, by omega, by omega, by simpa using h3⟩]
  unfold tupR
  rw [Int.toNat_natCast, List.map_flatten, List.map_replicate]
def nmP (r : List Nat) : PyData := .tuple (r.map fun (n : Nat) => PyData.int (n : Int))
theorem weight_sum : ∀ r : List Nat, PyData.weightAll (r.map fun (n : Nat) => PyData.int (n : Int)) ≤ r.length + r.sum
  | [] => by simp [PyData.weightAll]
  | x :: xs => by
    have h1 := weight_sum xs
    have h2 := weight_int (i := (x : Int)) (k := x) (by rw [Int.natAbs_natCast]; exact Nat.lt_two_pow_self)
    rw [List.map_cons, List.length_cons, List.sum_cons]
    simp only [PyData.weightAll]
    omega
theorem weight_nm (r : List Nat) : (nmP r).weight ≤ r.length + r.sum := by
  unfold nmP
  simp only [PyData.weight]
  exact weight_sum r
theorem toD_nm (rf : Nat → Option PyData) (r : List Nat) : toD rf (tupR r) = some (nmP r) := by
  unfold tupR
  rw [toD, toDs_nm]
  rfl
theorem fine_row {r : List Nat} (hb : r.sum ≤ 60) : Fine (nmP r) := fine_nm fun x hx => by have := mem_sum hx; omega
theorem some_last {ps : List (Nat × Nat)} (g : Good ps) (r : List Nat) : ∃ N : Nat, N ≤ r.length + 20 * r.sum ∧ r.length ≤ N ∧ thru ps r N = r.sum ∧ ∀ k, k < N → k < r.length ∨ thru ps r k < r.sum := thru_last g.one g.ne (fun p hp => (g.ok p hp).2.1) (fun p hp => (g.ok p hp).2.2.1) r
theorem pen_no {c p : Nat} {h : H} {o : Nat} {ps : List (Nat × Nat)} (q : Pen c h p) (lm : Lim ps h o) : o ≠ p := fun e => by
  obtain ⟨fs, w1, _⟩ := lm
  obtain ⟨x, y, z, w2, _⟩ := q.ex
  rw [e, w2] at w1
  cases w1
def tks : Nat → List Nat → List Nat
  | _, [] => []
  | i, a :: r => List.replicate a i ++ tks (i + 1) r
theorem tks_len : ∀ (r : List Nat) (i : Nat), (tks i r).length = r.sum
  | [], _ => rfl
  | a :: r, i => by
    show (List.replicate a i ++ tks (i + 1) r).length = _
    rw [List.length_append, List.length_replicate, tks_len r (i + 1), List.sum_cons]
def tkT : G := gTup 2 (gCons (gName 2) (gCons (gName 3) (gNil)))
theorem ticks_ok (r : List Nat) (h : H) (hz : r.sum ≤ 1000) : m_ticks_of [tupR r] h = .ok (.ref h.length) (h ++ [.lst ((tks 0 r).map nm)]) := by
  let l0 : Loc := [some (tupR r), none, none, none]
  have go : ∀ (rs : List Nat) (i : Nat) (acc : List Nat), acc.length + rs.sum ≤ 1000 → (∀ x ∈ rs, x ≤ 1000) → lc2S tkT (aCons (eVar 3) (aNil)) (gName 1) (tYes) (eVar 2) [1] (wipe l0 [2, 3, 1]) (enumG i (rs.map nm)) (acc.map nm) h = .ok ((acc ++ tks i rs).map nm) h := fun rs => by
    induction rs with
    | nil =>
      intro i acc _ _
      show Res.ok (acc.map nm) h = _
      rw [show acc ++ tks i [] = acc from List.append_nil _]
    | cons a rs ih =>
      intro i acc ha hx
      rw [List.sum_cons] at ha
      have ha1 := hx a List.mem_cons_self
      let l1 : Loc := [some (tupR r), none, some (.int (i : Nat)), some (nm a)]
      have c : ∃ h', lcS (gName 1) tYes (eVar 2) (wipe l1 [1]) (rng 0 (a : Int)) (acc.map nm) h = .ok (acc.map nm ++ (rng 0 (a : Int)).filterMap fun _ => some (nm i)) h' ∧ h' = h := by
        refine lcS_all (fun h' => h' = h) (fun _ => some (nm i)) _ _ _ (fun d hd acc h' eh hz => ⟨h', ?_, eh⟩) rfl (by rw [rng_len, List.length_map]; unfold LIM; omega)
        exact turn_yes (g := gName 1) (t := tYes) (l := wipe l1 [1]) (d := d) (acc := acc) rfl rfl (var_eq rfl) hz
      obtain ⟨h', e1, rfl⟩ := c
      have e2 : acc.map nm ++ (rng 0 (a : Int)).filterMap (fun _ => some (nm i)) = (acc ++ List.replicate a i).map nm := by
        rw [rng_nat, List.filterMap_map, List.map_append, List.map_replicate]
        congr 1
        show (List.range a).filterMap (fun _ => some (nm i)) = _
        rw [List.filterMap_eq_map' (f := fun _ => nm i), List.map_const', List.length_range]
      rw [e2] at e1
      show (match lc2Turn tkT (aCons (eVar 3) (aNil)) (gName 1) (tYes) (eVar 2) [1] (wipe l0 [2, 3, 1]) (.tup [.int (i : Nat), nm a]) (acc.map nm) h' with
        | .ok acc' h' => lc2S tkT (aCons (eVar 3) (aNil)) (gName 1) (tYes) (eVar 2) [1] (wipe l0 [2, 3, 1]) (enumG (i + 1) (rs.map nm)) acc' h'
        | _ => .bad) = _
      have t : lc2Turn tkT (aCons (eVar 3) (aNil)) (gName 1) (tYes) (eVar 2) [1] (wipe l0 [2, 3, 1]) (.tup [.int (i : Nat), nm a]) (acc.map nm) h' = .ok ((acc ++ List.replicate a i).map nm) h' := by
        show (if -(LIM : Int) ≤ (a : Int) ∧ (a : Int) ≤ LIM then lcS (gName 1) tYes (eVar 2) (wipe l1 [1]) (rng 0 (a : Int)) (acc.map nm) h' else .bad) = _
        rw [if_pos (by unfold LIM; omega)]
        exact e1
      rw [t]
      dsimp only
      rw [ih (i + 1) (acc ++ List.replicate a i) (by rw [List.length_append, List.length_replicate]; omega) (fun x hx' => hx x (List.mem_cons_of_mem _ hx')), List.append_assoc]
      rfl
  have e := go r 0 [] (by simpa using hz) (fun x hx => by have := mem_sum hx; omega)
  exact fn_rt (s := sRet _) rfl (ret_eq (comp2_snap (enum_tup (a := eVar 0) (l := l0) (h := h) (xs := r.map nm) (var_eq rfl)) e))
def dels : List Nat → List Nat → List Int
  | x :: xs, y :: ys => ((y : Int) - (x : Int)) :: dels xs ys
  | _, _ => []
def delG (a b : Nat) : G := gTup 2 (gCons (gName a) (gCons (gName b) (gNil)))
theorem zip_ok {xs ys : List Nat} {f1 f2 a b N : Nat} {e1 e2 : E} {l : Loc} {h h1 h2 : H} (hN : l.length = N) (hab : a ≠ b ∧ a < N ∧ b < N) (c1 : e1 l h = .ok (.ref f1) h1) (c2 : e2 l h1 = .ok (.ref f2) h2) (d1 : h2[f1]? = some (.lst (xs.map nm))) (d2 : h2[f2]? = some (.lst (ys.map nm))) (hz : xs.length ≤ 1000) :
    eCall fTuple (aCons (eComp (wZip (aCons e1 (aCons e2 (aNil)))) (delG a b) (tYes) (eBin vSub (eVar b) (eVar a)) [a, b]) (aNil)) l h = .ok (.tup ((dels xs ys).map .int)) (h2 ++ [.lst ((dels xs ys).map .int)]) := by
  let φ : D → Option D := fun d => match d with
    | .tup [.int x, .int y] => some (.int (y - x))
    | _ => none
  have zl := zipG_len (xs.map nm) (ys.map nm)
  rw [List.length_map] at zl
  have zf : ∀ xs ys : List Nat, (zipG (xs.map nm) (ys.map nm)).filterMap φ = (dels xs ys).map .int := fun xs => by
    induction xs with
    | nil => intro ys; rfl
    | cons x xs ih =>
      intro ys
      cases ys with
      | nil => rfl
      | cons y ys =>
        show (.tup [nm x, nm y] :: zipG (xs.map nm) (ys.map nm)).filterMap φ = .int ((y : Int) - x) :: (dels xs ys).map .int
        rw [List.filterMap_cons, ih ys]
        rfl
  have zm : ∀ xs ys : List Nat, ∀ d ∈ zipG (xs.map nm) (ys.map nm), ∃ x y : Nat, d = .tup [nm x, nm y] := fun xs => by
    induction xs with
    | nil => intro ys d hd; cases hd
    | cons x xs ih =>
      intro ys d hd
      cases ys with
      | nil => cases hd
      | cons y ys =>
        rcases List.mem_cons.mp hd with rfl | hd
        · exact ⟨x, y, rfl⟩
        · exact ih ys d hd
  let w : Loc := wipe l [a, b]
  have wN : w.length = N := by show ((l.set b none).set a none).length = N; simpa using hN
  obtain ⟨h', e, eh⟩ := lcD_all (g := delG a b) (t := tYes) (e := eBin vSub (eVar b) (eVar a)) (l := w) (f := zipAt f1 f2) (xs := zipG (xs.map nm) (ys.map nm)) (fun h' => h' = h2) φ (fun h' eh => by rw [eh]; exact zipAt_eq d1 d2) (by unfold LIM; omega) (fun d hd acc h' eh hz => by
    obtain ⟨x, y, rfl⟩ := zm xs ys d hd
    refine ⟨h', turn_yes (g := delG a b) (t := tYes) (l := w) (d := .tup [nm x, nm y]) (acc := acc) (l1 := (w.set a (some (nm x))).set b (some (nm y))) rfl rfl ?_ hz, eh⟩
    exact (bin_eq (var_eq (x := nm y) (List.getElem?_set_self (by rw [List.length_set, wN]; exact hab.2.2))) (var_eq (x := nm x) (by rw [List.getElem?_set_ne (Ne.symm hab.1), List.getElem?_set_self (by rw [wN]; exact hab.2.1)]))).trans rfl) ((xs.map nm).length + 1) 0 [] h2 (by rw [List.length_map]; omega) (Nat.zero_le _) (by simp) rfl
  subst eh
  rw [List.nil_append, List.drop_zero, zf] at e
  refine (call1_eq (comp_dyn (vs := [a, b]) (zip_lst c1 c2 d1 d2) e)).trans ?_
  unfold fTuple seqOf
  dsimp only
  rw [List.getElem?_append_right (Nat.le_refl _), Nat.sub_self]
  rfl
def wt (ps : List (Nat × Nat)) (r : List Nat) (N : Nat) : List Int := dels (tks 0 r) (tks 0 (outs ps r N))
theorem waits_ok {ps : List (Nat × Nat)} (g : Good ps) (r : List Nat) (hz : r.length ≤ 3000) (hb : r.sum ≤ 60) {o : Nat} {h : H} (q : Lim ps h o) (N : Nat) (hN : N ≤ r.length + 20 * r.sum) (hr : r.length ≤ N) (hN2 : thru ps r N = r.sum) (hN3 : ∀ k, k < N → k < r.length ∨ thru ps r k < r.sum) : ∃ h', m_waits [.ref o, tupR r] h = .ok (.tup ((wt ps r N).map .int)) h' ∧ Ex h h' := by
  obtain ⟨h1, e1, x1⟩ := passed_ok g r hz hb q N hN hr hN2 hN3
  have os := outs_sum g.one g.ne r N
  let l0 : Loc := [some (.ref o), some (tupR r), some (tupR (outs ps r N)), none, none]
  have s1 := asg_eq (i := 2) ((call2_eq (var_eq (i := 0) (l := [some (.ref o), some (tupR r), none, none, none]) rfl) (var_eq (i := 1) (l := [some (.ref o), some (tupR r), none, none, none]) rfl)).trans e1)
  have c1 := (call1_eq (k := m_ticks_of) (var_eq (i := 1) (l := l0) (h := h1) rfl)).trans (ticks_ok r h1 (by omega))
  let h2 : H := h1 ++ [.lst ((tks 0 r).map nm)]
  have c2 := (call1_eq (k := m_ticks_of) (var_eq (i := 2) (l := l0) (h := h2) rfl)).trans (ticks_ok (outs ps r N) h2 (by omega))
  have z := zip_ok (xs := tks 0 r) (ys := tks 0 (outs ps r N)) (N := 5) (a := 3) (b := 4) rfl (by omega) c1 c2 (get_add _ (by simp [h2])) (by simp) (by rw [tks_len]; omega)
  exact ⟨_, fn_rt (s := sSeq _ _) rfl ((seq_eq s1).trans (ret_eq z)), ((x1.trans (Ex.add _ _)).trans (Ex.add _ _)).trans (Ex.add _ _)⟩
def reqs (r : List Nat) (s L : Nat) : Nat := ((r.drop s).take L).sum
theorem req_gen (r : List Nat) (s L : Nat) (h : H) : m_requests_in [tupR r, .int (s : Nat), .int (L : Nat)] h = .ok (nm (reqs r s L)) h := by
  let l0 : Loc := [some (tupR r), some (.int (s : Nat)), some (.int (L : Nat))]
  have c : eCut (eVar 0) (some (eVar 1)) (some (eBin vAdd (eVar 1) (eVar 2))) l0 h = .ok (tupR ((r.drop s).take L)) h := by
    refine (cut_eq (x := tupR r) (u := (s : Nat)) (v := (s : Nat) + (L : Nat)) rfl rfl rfl).trans ?_
    show Res.ok (D.tup (cut (r.map nm) _ _)) h = _
    rw [cut_nm]
    rfl
  exact fn_rt (s := sRet _) rfl (ret_eq ((call1_eq c).trans (fsum_nm _ _)))
theorem keeps_drop {ps : List (Nat × Nat)} {r : List Nat} (q : keepsP ps r) (k : Nat) : keepsP ps (r.drop k) := fun p hp s hs => by
  rw [List.length_drop] at hs
  have h := q p hp (k + s) (by omega)
  rw [List.drop_drop]
  exact h
theorem reqs_cost {ps : List (Nat × Nat)} (g : Good ps) {r : List Nat} (q : keepsP ps r) (s L : Nat) : reqs r s L ≤ cost ps L := by
  have h1 := keeps_le g.one g.ne _ _ rfl (keeps_take (keeps_drop q s) L)
  have h2 := cost_up g.one g.ne L (((r.drop s).take L).length) (by rw [List.length_take]; omega)
  exact Nat.le_trans h1 h2
def keptS : List Nat := [107, 101, 112, 116]
def brokS : List Nat := [98, 114, 111, 107, 101, 110]
def keptD : D := .tup [.str keptS]
def brkD (s i a : Nat) : D := .tup [.str brokS, .int (s : Nat), .int (i : Nat), .int (a : Nat)]
def Jud (ps : List (Nat × Nat)) (r : List Nat) (x : D) : Prop := (x = keptD ∧ keepsP ps r) ∨ ∃ s i p, s < r.length ∧ ps[i]? = some p ∧ p.2 < reqs r s p.1 ∧ x = brkD s i (reqs r s p.1)
def vT : G := gTup 2 (gCons (gName 3) (gCons (gTup 2 (gCons (gName 5) (gCons (gName 6) (gNil)))) (gNil)))
def vin : S := sSeq (sAsg (eCall m_requests_in (aCons (eVar 1) (aCons (eVar 2) (aCons (eVar 5) (aNil))))) (gName 4)) (sIf (tVal (eBin vGt (eVar 4) (eVar 6))) (sRet (eTup (aCons (eC (.str [98, 114, 111, 107, 101, 110])) (aCons (eVar 2) (aCons (eVar 3) (aCons (eVar 4) (aNil))))))) (sNext))
def vout : S := sFor (wEnum (aCons (eOP (one 0 m_Limits_pairs) (eVar 0)) (aNil))) vT vin
theorem vout_ok {ps : List (Nat × Nat)} (r : List Nat) (s : Nat) (hs : s < r.length) {o : Nat} {v3 v4 v5 v6 : Option D} {h : H} (q : Lim ps h o) :
    (∃ w3 w4 w5 w6, vout [some (.ref o), some (tupR r), some (.int (s : Nat)), v3, v4, v5, v6] h = .nx [some (.ref o), some (tupR r), some (.int (s : Nat)), w3, w4, w5, w6] h ∧ ∀ p ∈ ps, reqs r s p.1 ≤ p.2) ∨ (∃ i p, ps[i]? = some p ∧ p.2 < reqs r s p.1 ∧ vout [some (.ref o), some (tupR r), some (.int (s : Nat)), v3, v4, v5, v6] h = .rt (brkD s i (reqs r s p.1)) h) := by
  have w := for_snap (g := vT) (s := vin) (enum_tup (pp_ok (i := 0) (l := [some (.ref o), some (tupR r), some (.int (s : Nat)), v3, v4, v5, v6]) rfl q))
  let I : List D → Loc → H → Prop := fun ds l h' => h' = h ∧ ∃ (v3 v4 v5 v6 : Option D) (i : Nat), l = [some (.ref o), some (tupR r), some (.int (s : Nat)), v3, v4, v5, v6] ∧ ds = enumG i ((ps.drop i).map pr) ∧ ∀ p ∈ ps.take i, reqs r s p.1 ≤ p.2
  rcases loopS_ret (g := vT) (b := vin) I (fun x h' => h' = h ∧ ∃ i p, ps[i]? = some p ∧ p.2 < reqs r s p.1 ∧ x = brkD s i (reqs r s p.1)) (fun d ds l h' ⟨eh, v3, v4, v5, v6, i, el, ed, ho⟩ => by
    subst eh el
    cases hr : ps.drop i with
    | nil =>
      rw [hr] at ed
      cases ed
    | cons p rest =>
      have hi : i < ps.length := by
        rcases Nat.lt_or_ge i ps.length with z | z
        · exact z
        · rw [List.drop_of_length_le z] at hr
          cases hr
      rw [List.drop_eq_getElem_cons hi] at hr
      obtain ⟨ep, er⟩ := List.cons.inj hr
      rw [List.drop_eq_getElem_cons hi, ep, er] at ed
      obtain ⟨rfl, ed'⟩ := List.cons.inj ed
      have hp : ps[i]? = some p := by rw [List.getElem?_eq_getElem hi, ep]
      let l1 : Loc := [some (.ref o), some (tupR r), some (.int (s : Nat)), some (.int (i : Nat)), v4, some (.int (p.1 : Nat)), some (.int (p.2 : Nat))]
      have s1 := asg_eq (i := 4) ((call_eq (k := m_requests_in) (cons_eq (var_eq (i := 1) (l := l1) rfl) (cons_eq (var_eq (i := 2) (l := l1) rfl) (cons_eq (var_eq (i := 5) (l := l1) rfl) nil_eq)))).trans (req_gen r s p.1 h'))
      let l2 : Loc := [some (.ref o), some (tupR r), some (.int (s : Nat)), some (.int (i : Nat)), some (nm (reqs r s p.1)), some (.int (p.1 : Nat)), some (.int (p.2 : Nat))]
      have t : tVal (eBin vGt (eVar 4) (eVar 6)) l2 h' = .ok (decide (p.2 < reqs r s p.1)) h' := by
        refine tval_eq ((bin_eq (var_eq rfl) (var_eq rfl)).trans ?_)
        show Res.ok (D.bl (decide ((p.2 : Int) < (reqs r s p.1 : Int)))) h' = _
        rw [show decide ((p.2 : Int) < (reqs r s p.1 : Int)) = decide (p.2 < reqs r s p.1) by rw [decide_eq_decide]; omega]
      by_cases c : p.2 < reqs r s p.1
      · rw [decide_eq_true c] at t
        exact .inr ⟨_, h', (seq_eq s1).trans ((if_t t).trans (ret_eq (tup_eq (xs := [.str brokS, .int (s : Nat), .int (i : Nat), .int (reqs r s p.1 : Nat)]) (cons_eq rfl (cons_eq (var_eq rfl) (cons_eq (var_eq rfl) (cons_eq (var_eq rfl) nil_eq)))) (by unfold LIM; simp)))), rfl, i, p, hp, c, rfl⟩
      · rw [decide_eq_false c] at t
        refine .inl ⟨l2, h', (seq_eq s1).trans ((if_f t).trans rfl), rfl, _, _, _, _, i + 1, rfl, by rw [ed', ← er], fun z hz => ?_⟩
        rw [take_next hp] at hz
        rcases List.mem_append.mp hz with hz | hz
        · exact ho z hz
        · rw [List.mem_singleton.mp hz]; omega) (enumG 0 (ps.map pr)) [some (.ref o), some (tupR r), some (.int (s : Nat)), v3, v4, v5, v6] h ⟨rfl, v3, v4, v5, v6, 0, rfl, rfl, by simp⟩ with ⟨l2, h2, e2, rfl, u3, u4, u5, u6, i, el, ed, ho⟩ | ⟨x, h2, e2, rfl, i, p, hp, hc, ex⟩
  · subst el
    refine .inl ⟨u3, u4, u5, u6, w.trans e2, ?_⟩
    have hi : ps.length ≤ i := by
      rcases Nat.lt_or_ge i ps.length with z | z
      · rw [List.drop_eq_getElem_cons z] at ed
        cases ed
      · exact z
    rw [List.take_of_length_le hi] at ho
    exact ho
  · subst ex
    exact .inr ⟨i, p, hp, hc, w.trans e2⟩
theorem verdict_ok {ps : List (Nat × Nat)} (r : List Nat) (hb : r.sum ≤ 60) (hz : r.length ≤ 5000) {o : Nat} {h : H} (q : Lim ps h o) : ∃ x h', m_verdict [.ref o, tupR r] h = .ok x h' ∧ Ex h h' ∧ Jud ps r x := by
  let l0 : Loc := [some (.ref o), some (tupR r), none, none, none, none, none]
  let h1 : H := h ++ [.lst (List.replicate r.length (D.bl true))]
  have x1 : Ex h h1 := Ex.add _ _
  have q1 : Lim ps h1 o := q.same (x1.at' _ q.lt)
  have s1 : sDrop (eCall m_need_limits (aCons (eVar 0) (aNil))) l0 h = .nx l0 h := drop_eq ((call1_eq (var_eq rfl)).trans (need_lim q))
  have s2 : sDrop (eCall m_need_row (aCons (eVar 1) (aNil))) l0 h = .nx l0 h1 := drop_eq ((call1_eq (var_eq rfl)).trans (need_row hb (by omega) h))
  have ln : eCall fLen (aCons (eVar 1) (aNil)) l0 h1 = .ok (.int (r.length : Nat)) h1 := (call1_eq (var_eq (x := tupR r) rfl)).trans ((len_of (xs := r.map nm) rfl).trans (by rw [List.length_map]))
  have w := for_snap (g := gName 2) (s := vout) (rng1_eq ln (by unfold LIM; omega))
  let I : List D → Loc → H → Prop := fun ds l h' => h' = h1 ∧ ∃ (v2 v3 v4 v5 v6 : Option D) (k : Nat), l = [some (.ref o), some (tupR r), v2, v3, v4, v5, v6] ∧ k ≤ r.length ∧ ds = (List.range' k (r.length - k)).map (fun (i : Nat) => D.int (i : Int)) ∧ ∀ s, s < k → ∀ p ∈ ps, reqs r s p.1 ≤ p.2
  rcases loopS_ret (g := gName 2) (b := vout) I (fun x h' => h' = h1 ∧ ∃ s i p, s < r.length ∧ ps[i]? = some p ∧ p.2 < reqs r s p.1 ∧ x = brkD s i (reqs r s p.1)) (fun d ds l h' ⟨eh, v2, v3, v4, v5, v6, k, el, hk, ed, ho⟩ => by
    subst eh el
    cases hn : r.length - k with
    | zero =>
      rw [hn] at ed
      cases ed
    | succ m =>
      rw [hn, List.range'_succ] at ed
      obtain ⟨rfl, ed'⟩ := List.cons.inj ed
      rcases vout_ok r k (by omega) (v3 := v3) (v4 := v4) (v5 := v5) (v6 := v6) q1 with ⟨w3, w4, w5, w6, e, hp⟩ | ⟨i, p, hp, hc, e⟩
      · refine .inl ⟨_, _, e, rfl, _, _, _, _, _, k + 1, rfl, by omega, by rw [ed', show r.length - (k + 1) = m by omega], fun s hs p hp' => ?_⟩
        by_cases c : s = k
        · subst c
          exact hp p hp'
        · exact ho s (by omega) p hp'
      · exact .inr ⟨_, _, e, rfl, k, i, p, by omega, hp, hc, rfl⟩) (rng 0 (r.length : Nat)) l0 h1 ⟨rfl, none, none, none, none, none, 0, rfl, Nat.zero_le _, by rw [rng_nat, List.range_eq_range']; rfl, fun s hs => by omega⟩ with ⟨l2, h2, e2, rfl, v2, v3, v4, v5, v6, k, el, hk, ed, ho⟩ | ⟨x, h2, e2, rfl, s, i, p, hs, hp, hc, ex⟩
  · subst el
    have hk' : k = r.length := by
      cases hn : r.length - k with
      | zero => omega
      | succ m =>
        rw [hn, List.range'_succ] at ed
        cases ed
    subst hk'
    exact ⟨keptD, _, fn_rt (s := sSeq _ _) rfl ((seq_eq s1).trans ((seq_eq s2).trans ((seq_eq (w.trans e2)).trans (ret_eq (tup_eq (xs := [.str keptS]) (cons_eq rfl nil_eq) (by unfold LIM; simp)))))), x1, .inl ⟨rfl, fun p hp s hs => ho s hs p hp⟩⟩
  · subst ex
    exact ⟨_, _, fn_rt (s := sSeq _ _) rfl ((seq_eq s1).trans ((seq_eq s2).trans (seq_rt (w.trans e2)))), x1, .inr ⟨s, i, p, hs, hp, hc, rfl⟩⟩
def keptP : PyData := .tuple [strP keptS]
def brkP (s i a : Nat) : PyData := .tuple [strP brokS, .int (s : Nat), .int (i : Nat), .int (a : Nat)]
theorem sh_kept : shaped keptP = true := by simp [shaped, keptP, strP, PyData.strOk, keptS, PyData.canLay0, PyData.canLayAll0, PyData.depth, PyData.depthAll]
theorem sh_brk (s i a : Nat) : shaped (brkP s i a) = true := by simp [shaped, brkP, strP, PyData.strOk, brokS, PyData.canLay0, PyData.canLayAll0, PyData.depth, PyData.depthAll]
theorem eq_kk (n : Bool) (h : H) : eqD n keptD keptD h = .ok (.bl (!n)) h := by
  have e : toP h keptD = some keptP := rfl
  unfold eqD
  rw [e]
  dsimp only
  rw [if_pos ⟨sh_kept, sh_kept⟩]
  have : PyData.eqv keptP keptP = true := by simp [keptP, strP, PyData.eqv, PyData.eqvAll]
  rw [this]
  cases n <;> rfl
theorem eq_bk (n : Bool) (s i a : Nat) (h : H) : eqD n (brkD s i a) keptD h = .ok (.bl n) h := by
  have e : toP h keptD = some keptP := rfl
  have e2 : toP h (brkD s i a) = some (brkP s i a) := rfl
  unfold eqD
  rw [e, e2]
  dsimp only
  rw [if_pos ⟨sh_brk s i a, sh_kept⟩]
  have : PyData.eqv (brkP s i a) keptP = false := by simp [keptP, brkP, strP, PyData.eqv, PyData.eqvAll]
  rw [this]
  cases n <;> rfl
def kE : E := eTup (aCons (eC (.str [107, 101, 112, 116])) (aNil))
theorem kE_eq (l : Loc) (h : H) : kE l h = .ok keptD h := tup_eq (xs := [.str keptS]) (cons_eq rfl nil_eq) (by unfold LIM; simp)
theorem eqv_ints : ∀ r : List Nat, PyData.eqvAll (r.map fun (n : Nat) => PyData.int (n : Int)) (r.map fun (n : Nat) => PyData.int (n : Int)) = true
  | [] => by simp [PyData.eqvAll]
  | n :: r => by
    rw [List.map_cons]
    simp [PyData.eqvAll, PyData.eqv, eqv_ints r]
theorem ne_row {r : List Nat} (hb : r.sum ≤ 60) (hh : H) : vNe (tupR r) (tupR r) hh = .ok (.bl false) hh := by
  show eqD true (tupR r) (tupR r) hh = _
  have e1 : toP hh (tupR r) = some (.tuple (r.map fun (n : Nat) => PyData.int (n : Int))) := by
    unfold toP tupR
    rw [toD, toDs_nm]
  have sh := shaped_fine (fine_nm (r := r) fun x hx => by have := mem_sum hx; omega)
  unfold eqD
  rw [e1]
  dsimp only
  rw [if_pos ⟨sh, sh⟩]
  have : PyData.eqv (.tuple (r.map fun (n : Nat) => PyData.int (n : Int))) (.tuple (r.map fun (n : Nat) => PyData.int (n : Int))) = true := by
    simp only [PyData.eqv]
    exact eqv_ints r
  rw [this]
  rfl
end GT

end

section
set_option Elab.async false
set_option linter.all false
set_option maxRecDepth 100000
set_option maxHeartbeats 4000000
namespace GT
open FL
/-! ### what is passed, as a sum -/
theorem take1 (r : List Nat) {n : Nat} (h : n < r.length) : ((r.drop n).take 1).sum = r[n] := by
  rw [List.drop_eq_getElem_cons h]
  exact Nat.add_zero _
theorem came_outs {ps : List (Nat × Nat)} (g : Good ps) {r : List Nat} {N : Nat} (hN : thru ps r N = r.sum) (n : Nat) : came (outs ps r N) n = thru ps r n := by
  by_cases h : n ≤ N
  · have : (outs ps r N).take n = outs ps r n := by
      unfold outs
      rw [← List.map_take, List.take_range, Nat.min_eq_left h]
    unfold came
    rw [this, outs_sum g.one g.ne]
  · have h' : N ≤ n := by omega
    unfold came
    rw [List.take_of_length_le (by rw [outs_len]; omega), outs_sum g.one g.ne, hN]
    have a := thru_up g.one g.ne r n N h'
    have b := thru_came g.one g.ne r n
    have c := came_le r n
    omega
theorem outs_eq {ps qs : List (Nat × Nat)} {r p : List Nat} (e : ∀ n, thru ps r n = thru qs p n) (N : Nat) : outs ps r N = outs qs p N := by
  unfold outs
  refine List.map_congr_left fun t _ => ?_
  rw [e, e]
section
variable {ps qs zs : List (Nat × Nat)} {r p a b : List Nat}
/-- more requests earlier, more through -/
theorem thru_mono (g : Good ps) (h : ∀ n, came a n ≤ came b n) (n : Nat) : thru ps a n ≤ thru ps b n := by
  obtain ⟨s, hs, e⟩ := thru_just g.one g.ne b n
  have := thru_most g.one g.ne a n s hs
  have := h s
  omega
/-- more limits, less through -/
theorem thru_less (gz : Good zs) (g : Good qs) (sub : ∀ x ∈ qs, x ∈ zs) (r : List Nat) : ∀ n, thru zs r n ≤ thru qs r n := fun n => by
  induction n using Nat.strongRecOn with
  | ind n ih =>
    cases n with
    | zero => exact Nat.le_refl _
    | succ n =>
      rcases thru_mem g.one g.ne r n with e | ⟨x, hx, e⟩
      · rw [e]
        exact thru_came gz.one gz.ne r (n + 1)
      · rw [e]
        have h1 := thru_le gz.one gz.ne r n (sub x hx)
        have h2 := ih (n + 1 - x.1) (by have := g.one x hx; omega)
        omega
/-- two gates one behind the other are one with all limits -/
theorem thru_two (gz : Good zs) (gp : Good ps) (gq : Good qs) (mem : ∀ x, x ∈ zs ↔ x ∈ ps ∨ x ∈ qs) (hp : ∀ n, came p n = thru qs r n) : ∀ n, thru zs r n = thru ps p n := fun n => by
  induction n using Nat.strongRecOn with
  | ind n ih =>
    cases n with
    | zero => rfl
    | succ n =>
      have up : thru ps p (n + 1) ≤ came r (n + 1) := by
        have h1 := thru_came gp.one gp.ne p (n + 1)
        have h2 := thru_came gq.one gq.ne r (n + 1)
        rw [hp] at h1
        omega
      -- the limits of qs bind what comes out of ps, too
      have bq : ∀ x ∈ qs, thru ps p (n + 1) ≤ x.2 + thru ps p (n + 1 - x.1) := fun x hx => by
        have x1 := gq.one x hx
        obtain ⟨s, hs, e⟩ := thru_just gp.one gp.ne p (n + 1 - x.1)
        rw [e]
        by_cases hl : x.1 ≤ n + 1
        · have h1 := thru_most gp.one gp.ne p (n + 1) (s + x.1) (by omega)
          have e2 : n + 1 - (s + x.1) = n + 1 - x.1 - s := by omega
          rw [e2] at h1
          obtain ⟨j, hj⟩ : ∃ j, s + x.1 = j + 1 := ⟨s + x.1 - 1, by omega⟩
          have h2 := thru_le gq.one gq.ne r j hx
          rw [← hj] at h2
          have e3 : s + x.1 - x.1 = s := by omega
          rw [e3, ← hp, ← hp] at h2
          omega
        · have h1 := thru_came gp.one gp.ne p (n + 1)
          have h2 := thru_le gq.one gq.ne r n hx
          have e3 : n + 1 - x.1 = 0 := by omega
          rw [e3, thru_zero] at h2
          rw [hp] at h1
          omega
      refine Nat.le_antisymm ?_ ?_
      · rcases thru_mem gp.one gp.ne p n with e | ⟨x, hx, e⟩
        · rw [e, hp]
          exact thru_less gz gq (fun x hx => (mem x).mpr (.inr hx)) r (n + 1)
        · rw [e]
          have h1 := thru_le gz.one gz.ne r n ((mem x).mpr (.inl hx))
          have h2 := ih (n + 1 - x.1) (by have := gp.one x hx; omega)
          omega
      · rcases thru_mem gz.one gz.ne r n with e | ⟨x, hx, e⟩
        · rw [e]
          exact up
        · rw [e]
          have h2 := ih (n + 1 - x.1) (by have := gz.one x hx; omega)
          rcases (mem x).mp hx with hx | hx
          · have h1 := thru_le gp.one gp.ne p n hx
            omega
          · have h1 := bq x hx
            omega
/-- passed again it stays -/
theorem thru_again (g : Good ps) (hp : ∀ n, came p n = thru ps r n) (n : Nat) : thru ps p n = came p n := by
  rw [hp, thru_two g g g (fun x => by simp) hp]
theorem keeps_of (g : Good ps) (h : ∀ n, thru ps p n = came p n) : keepsP ps p := fun x hx s hs => by
  have e : came p (s + x.1) = came p s + ((p.drop s).take x.1).sum := by
    unfold came
    rw [List.take_add, List.sum_append]
  have x1 := g.one x hx
  obtain ⟨j, hj⟩ : ∃ j, s + x.1 = j + 1 := ⟨s + x.1 - 1, by omega⟩
  have h2 := thru_le g.one g.ne p j hx
  rw [← hj, show s + x.1 - x.1 = s by omega, h, h] at h2
  omega
theorem of_keeps (g : Good ps) (k : keepsP ps p) (n : Nat) : thru ps p n = came p n := by
  refine Nat.le_antisymm (thru_came g.one g.ne p n) ?_
  obtain ⟨s, hs, e⟩ := thru_just g.one g.ne p n
  rw [e]
  have h1 := reqs_cost g k s (n - s)
  have e2 : came p n = came p s + ((p.drop s).take (n - s)).sum := by
    unfold came
    rw [← List.sum_append, ← List.take_add, show s + (n - s) = n by omega]
  unfold reqs at h1
  omega
/-- the row itself, where it keeps the limits -/
theorem outs_self (h : ∀ n, thru ps p n = came p n) : outs ps p p.length = p := by
  refine List.ext_getElem? fun i => ?_
  by_cases h2 : i < p.length
  · unfold outs
    rw [List.getElem?_map, List.getElem?_range h2, List.getElem?_eq_getElem h2]
    show some (thru ps p (i + 1) - thru ps p i) = _
    rw [h, h, came_next, take1 p h2]
    congr 1
    omega
  · rw [List.getElem?_eq_none (by rw [outs_len]; omega), List.getElem?_eq_none (by omega)]
theorem last_self (h : ∀ n, thru ps p n = came p n) {N : Nat} (hr : p.length ≤ N) (h3 : ∀ k, k < N → k < p.length ∨ thru ps p k < p.sum) : N = p.length := by
  by_cases c : N = p.length
  · exact c
  · rcases h3 p.length (by omega) with z | z
    · omega
    · rw [h, came_all p _ (Nat.le_refl _)] at z
      omega
theorem kept_outs (g : Good ps) {N : Nat} (hN : thru ps r N = r.sum) : keepsP ps (outs ps r N) := keeps_of g (thru_again g (came_outs g hN))
theorem came_shift (r : List Nat) (n : Nat) : came (0 :: r) n ≤ came r n := by
  cases n with
  | zero => exact Nat.le_refl _
  | succ n =>
    have e : came (0 :: r) (n + 1) = came r n := by unfold came; simp
    rw [e]
    exact came_up r n (n + 1) (by omega)
end
/-! ### rows without their last ticks -/
def bare (r : List Nat) : List Nat := (r.reverse.dropWhile (· == 0)).reverse
theorem bare_add (r : List Nat) : ∀ k : Nat, bare (r ++ List.replicate k 0) = bare r
  | 0 => by simp
  | k + 1 => by
    rw [List.replicate_succ', ← List.append_assoc]
    unfold bare
    rw [List.reverse_append, List.reverse_singleton, List.singleton_append, List.dropWhile_cons_of_pos (by rfl)]
    exact bare_add r k
theorem at_came (r : List Nat) (i : Nat) : r.getD i 0 = came r (i + 1) - came r i := by
  by_cases h : i < r.length
  · rw [came_next, take1 r h]
    simp [List.getD_eq_getElem?_getD, h]
  · rw [came_all r _ (by omega), came_all r _ (by omega)]
    simp [List.getD_eq_getElem?_getD, h]
theorem bare_le {p q : List Nat} (hl : p.length ≤ q.length) (h : ∀ n, came p n = came q n) : bare p = bare q := by
  have e : q = p ++ List.replicate (q.length - p.length) 0 := by
    refine List.ext_getElem (by simp; omega) fun i h1 h2 => ?_
    have e1 : p.getD i 0 = q.getD i 0 := by rw [at_came, at_came, h, h]
    have e2 : q.getD i 0 = q[i] := by simp [List.getD_eq_getElem?_getD, h1]
    by_cases c : i < p.length
    · rw [List.getElem_append_left c]
      rw [← e2, ← e1]
      simp [List.getD_eq_getElem?_getD, c]
    · rw [List.getElem_append_right (by omega), List.getElem_replicate, ← e2, ← e1]
      simp [List.getD_eq_getElem?_getD, c]
  rw [e, bare_add]
theorem bare_eq {p q : List Nat} (h : ∀ n, came p n = came q n) : bare p = bare q := by
  rcases Nat.le_total p.length q.length with z | z
  · exact bare_le z h
  · exact (bare_le z fun n => (h n).symm).symm
/-! ### waiting times -/
def wsum : List Nat → Nat → Int
  | [], _ => 0
  | x :: xs, i => (i : Int) * x + wsum xs (i + 1)
theorem rep_sum (i : Int) : ∀ x : Nat, (List.replicate x i).sum = i * x
  | 0 => by simp
  | x + 1 => by
    rw [List.replicate_succ, List.sum_cons, rep_sum i x, show ((x + 1 : Nat) : Int) = (x : Int) + 1 by omega, Int.mul_add, Int.mul_one]
    omega
theorem tks_sum : ∀ (r : List Nat) (i : Nat), ((tks i r).map fun (n : Nat) => (n : Int)).sum = wsum r i
  | [], i => rfl
  | x :: xs, i => by
    have ih := tks_sum xs (i + 1)
    unfold tks wsum
    rw [List.map_append, List.sum_append, ih, List.map_replicate, rep_sum]
theorem dels_sum : ∀ xs ys : List Nat, xs.length = ys.length → (dels xs ys).sum = (ys.map fun (n : Nat) => (n : Int)).sum - (xs.map fun (n : Nat) => (n : Int)).sum
  | [], [], _ => rfl
  | x :: xs, y :: ys, h => by
    have ih := dels_sum xs ys (by simpa using h)
    simp only [dels, List.map_cons, List.sum_cons]
    rw [ih]
    omega
  | [], _ :: _, h => by cases h
  | _ :: _, [], h => by cases h
theorem dels_len' : ∀ xs ys : List Nat, xs.length = ys.length → (dels xs ys).length = xs.length
  | [], [], _ => rfl
  | x :: xs, y :: ys, h => by
    show (dels xs ys).length + 1 = _
    rw [dels_len' xs ys (by simpa using h)]
    rfl
  | [], _ :: _, h => by cases h
  | _ :: _, [], h => by cases h
/-- .. of all ticks together -/
def csum (r : List Nat) (N : Nat) : Int := ((List.range N).map fun i => ((came r (i + 1) : Nat) : Int)).sum
theorem csum_next (r : List Nat) (N : Nat) : csum r (N + 1) = csum r N + (came r (N + 1) : Nat) := by
  unfold csum
  rw [List.range_succ, List.map_append, List.sum_append]
  simp
theorem wsum_take (r : List Nat) : ∀ N i : Nat, wsum (r.take (N + 1)) i = wsum (r.take N) i + ((i + N : Nat) : Int) * (r.getD N 0 : Nat) := by
  induction r with
  | nil => intro N i; simp [wsum]
  | cons x xs ih =>
    intro N i
    cases N with
    | zero => simp [wsum]
    | succ N =>
      show (i : Int) * x + wsum (xs.take (N + 1)) (i + 1) = (i : Int) * x + wsum (xs.take N) (i + 1) + _
      rw [ih N (i + 1)]
      have e : (x :: xs).getD (N + 1) 0 = xs.getD N 0 := rfl
      rw [e, show i + 1 + N = i + (N + 1) by omega]
      omega
theorem abel (r : List Nat) : ∀ N : Nat, csum r N + wsum (r.take N) 0 = (N : Int) * (came r N : Nat)
  | 0 => by simp [csum, wsum]
  | N + 1 => by
    have ih := abel r N
    rw [csum_next, wsum_take]
    have e := at_came r N
    have le := came_up r N (N + 1) (by omega)
    have e2 : ((r.getD N 0 : Nat) : Int) = (came r (N + 1) : Nat) - (came r N : Nat) := by rw [e]; omega
    rw [e2, Int.mul_sub]
    have e3 : ((N + 1 : Nat) : Int) * (came r (N + 1) : Nat) = (N : Int) * (came r (N + 1) : Nat) + (came r (N + 1) : Nat) := by
      rw [show ((N + 1 : Nat) : Int) = (N : Int) + 1 by omega, Int.add_mul, Int.one_mul]
    rw [e3, show ((0 + N : Nat) : Int) = (N : Int) by omega]
    omega
end GT

end

section
set_option Elab.async false
set_option linter.all false
set_option maxRecDepth 100000
set_option maxHeartbeats 4000000
namespace GT
open FL
open PySem (PyData)
open PySem.SeqAt (shaped)
theorem ones : ∀ k : Nat, PyData.canLayAll0 (List.replicate k (.int 1)) = true ∧ PyData.depthAll (List.replicate k (.int 1)) = 0
  | 0 => ⟨rfl, rfl⟩
  | k + 1 => by
    obtain ⟨a, b⟩ := ones k
    rw [List.replicate_succ]
    exact ⟨by simp [PyData.canLayAll0, PyData.canLay0, a], by simp [PyData.depthAll, PyData.depth, b]⟩
theorem ones_eq {a b k : Nat} {h : H} (ha : h[a]? = some (.lst (List.replicate k (.int 1)))) (hb : h[b]? = some (.lst [])) : eqD false (.ref a) (.ref b) h = .ok (.bl (decide (k = 0))) h := by
  have td : ∀ rf : Nat → Option PyData, ∀ k : Nat, toDs rf (List.replicate k (.int 1)) = some (List.replicate k (.int 1)) := fun rf k => by
    induction k with
    | zero => rfl
    | succ k ih =>
      rw [List.replicate_succ, toDs, ih]
      rfl
  have e1 : toP h (.ref a) = some (.list (List.replicate k (.int 1))) := by
    show rfAt h 8 a = _
    unfold rfAt
    rw [ha]
    dsimp only
    rw [td]
  have e2 : toP h (.ref b) = some (.list []) := by
    show rfAt h 8 b = _
    unfold rfAt
    rw [hb]
    rfl
  obtain ⟨o1, o2⟩ := ones k
  have s1 : shaped (.list (List.replicate k (.int 1))) = true := by simp [shaped, PyData.canLay0, PyData.depth, o1, o2]
  have s2 : shaped (.list []) = true := by simp [shaped, PyData.canLay0, PyData.canLayAll0, PyData.depth, PyData.depthAll]
  unfold eqD
  rw [e1, e2]
  dsimp only
  rw [if_pos ⟨s1, s2⟩]
  cases k with
  | zero => simp [PyData.eqv, PyData.eqvAll]
  | succ k => simp [PyData.eqv, PyData.eqvAll, List.replicate_succ]
theorem ones_is {e : E} {l : Loc} {h h1 : H} {k : Nat} (he : e l h = .ok (.ref h1.length) (h1 ++ [.lst (List.replicate k (.int 1))])) : eBin vEq e (eLst (aNil)) l h = .ok (.bl (decide (k = 0))) ((h1 ++ [.lst (List.replicate k (.int 1))]) ++ [.lst []]) := by
  have n3 := lst_eq (a := aNil) (l := l) (h := h1 ++ [.lst (List.replicate k (.int 1))]) nil_eq (by unfold LIM; simp)
  exact (bin_eq (f := vEq) he n3).trans (ones_eq (gAdd _ gNew) gNew)
theorem comp_ones {w : W} {i : Nat} {t : T} {l : Loc} {h h1 : H} {xs : List D} (φ : D → Bool) (ew : w l h = .ok (.snap xs) h1) (hl : i < l.length) (hz : xs.length ≤ 5000) (ht : ∀ d ∈ xs, ∀ l' : Loc, l' = (wipe l [i]).set i (some d) → l'[i]? = some (some d) → t l' h1 = .ok (φ d) h1) : eComp w (gName i) t (eC (.int 1)) [i] l h = .ok (.ref h1.length) (h1 ++ [.lst (List.replicate (xs.countP φ) (.int 1))]) := by
  let ψ : D → Option D := fun d => if φ d = true then some (.int 1) else none
  obtain ⟨h2, e1, x1⟩ := lcS_all (g := gName i) (t := t) (e := eC (.int 1)) (l := wipe l [i]) (fun h' => h' = h1) ψ xs [] h1 (fun d hd acc h' eh hz => by
    subst eh
    have v : ((wipe l [i]).set i (some d))[i]? = some (some d) := List.getElem?_set_self (by simp [wipe]; exact hl)
    have t := ht d hd _ rfl v
    cases hi : φ d with
    | true =>
      rw [hi] at t
      rw [show ψ d = some (.int 1) from if_pos hi]
      exact ⟨h', turn_yes (g := gName i) (l := wipe l [i]) (d := d) (acc := acc) (e := eC (.int 1)) (y := .int 1) rfl t rfl hz, rfl⟩
    | false =>
      rw [hi] at t
      rw [show ψ d = none from if_neg (by rw [hi]; decide)]
      exact ⟨h', turn_no (g := gName i) (l := wipe l [i]) (d := d) (acc := acc) rfl t, rfl⟩) rfl (by unfold LIM; simp; omega)
  subst x1
  have er : ∀ ys : List D, ys.filterMap ψ = List.replicate (ys.countP φ) (.int 1) := fun ys => by
    induction ys with
    | nil => rfl
    | cons y ys ih =>
      have ep : ψ y = if φ y = true then some (.int 1) else none := rfl
      rw [List.filterMap_cons, ep, List.countP_cons, ih]
      cases hq : φ y with
      | true => simp [List.replicate_succ]
      | false => simp
  rw [List.nil_append, er] at e1
  exact comp_snap (vs := [i]) ew e1
theorem loopG_inv {g : G} {b : SG} {xs : List D} (I : Nat → List D → Loc → H → Prop) (step : ∀ (i : Nat) (d : D) (ys : List D) (l : Loc) (h : H), I i ys l h → xs[i]? = some d → ∃ ys' l' h', turnG g b d ys l h = .nx ys' l' h' ∧ I (i + 1) ys' l' h') :
    ∀ (k i : Nat) (ys : List D) (l : Loc) (h : H), i + k = xs.length → I i ys l h → ∃ ys' l' h', loopG g b (xs.drop i) ys l h = .nx ys' l' h' ∧ I xs.length ys' l' h'
  | 0, i, ys, l, h, e, q => by
    have : i = xs.length := by omega
    subst this
    rw [List.drop_length]
    exact ⟨ys, l, h, rfl, q⟩
  | k + 1, i, ys, l, h, e, q => by
    have hl : i < xs.length := by omega
    obtain ⟨ys1, l1, h1, e1, q1⟩ := step i xs[i] ys l h q (List.getElem?_eq_getElem hl)
    rw [List.drop_eq_getElem_cons hl]
    obtain ⟨ys2, l2, h2, e2, q2⟩ := loopG_inv I step k (i + 1) ys1 l1 h1 (by omega) q1
    refine ⟨ys2, l2, h2, ?_, q2⟩
    unfold loopG
    rw [e1]
    exact e2
/-- how many wait at the end of each tick -/
def lefts (ps : List (Nat × Nat)) (r : List Nat) (N : Nat) : List Nat := (List.range N).map fun i => came r (i + 1) - thru ps r (i + 1)
def wtG : G := gTup 2 (gCons (gName 3) (gCons (gName 4) (gNil)))
def wtB : SG := gSeq (gP (sAug 2 vPlus (eBin vSub (eCall m_requests_in (aCons (eVar 1) (aCons (eVar 3) (aCons (eC (.int 1)) (aNil))))) (eVar 4)))) (gSeq (gYield (eVar 2)) (gNext))
theorem waiting_eq : m_waiting = fnG 5 2 (gSeq (gP (sAsg (eC (.int 0)) (gName 2))) (gSeq (gFor (wEnum (aCons (eCall m_passed (aCons (eVar 0) (aCons (eVar 1) (aNil)))) (aNil))) wtG wtB) (gNext))) := rfl
theorem waiting_ok {ps : List (Nat × Nat)} (g : Good ps) (r : List Nat) (hz : r.length ≤ 3000) (hb : r.sum ≤ 60) {o : Nat} {h : H} (q : Lim ps h o) (N : Nat) (hN : N ≤ r.length + 20 * r.sum) (hr : r.length ≤ N) (hN2 : thru ps r N = r.sum) (hN3 : ∀ k, k < N → k < r.length ∨ thru ps r k < r.sum) : ∃ h', m_waiting [.ref o, tupR r] h = .ok ((lefts ps r N).map nm) h' ∧ Ex h h' := by
  obtain ⟨h1, e1, x1⟩ := passed_ok g r hz hb q N hN hr hN2 hN3
  let l0 : Loc := [some (.ref o), some (tupR r), some (.int 0), none, none]
  have ew : wEnum (aCons (eCall m_passed (aCons (eVar 0) (aCons (eVar 1) (aNil)))) (aNil)) l0 h = .ok (.snap (enumG 0 ((outs ps r N).map nm))) h1 := by
    unfold wEnum
    rw [cons_eq ((call2_eq (var_eq (i := 0) (l := l0) (x := .ref o) rfl) (var_eq (i := 1) (l := l0) (x := tupR r) rfl)).trans e1) nil_eq, bind_ok]
    rfl
  let I : Nat → List D → Loc → H → Prop := fun i ys l h' => ys = (lefts ps r i).map nm ∧ h' = h1 ∧ ∃ v3 v4, l = [some (.ref o), some (tupR r), some (.int ((came r i : Nat) - (thru ps r i : Nat) : Int)), v3, v4]
  have lenE : (enumG 0 ((outs ps r N).map nm)).length = N := by
    have : ∀ (xs : List D) (i : Nat), (enumG i xs).length = xs.length := fun xs => by
      induction xs with
      | nil => intro i; rfl
      | cons x xs ih => intro i; show (enumG (i + 1) xs).length + 1 = _; rw [ih]; rfl
    rw [this, List.length_map, outs_len]
  obtain ⟨ys, l, h', e2, i1, rfl, v3, v4, i3⟩ := loopG_inv (g := wtG) (b := wtB) (xs := enumG 0 ((outs ps r N).map nm)) I (fun i d ys l hh ⟨ey, eh, v3, v4, el⟩ ed => by
    subst ey eh el
    have hi : i < N := by rw [← lenE]; exact (List.getElem?_eq_some_iff.mp ed).1
    rw [enumG_at, List.getElem?_map] at ed
    have eo : (outs ps r N)[i]? = some (thru ps r (i + 1) - thru ps r i) := by
      unfold outs
      rw [List.getElem?_map, List.getElem?_range hi]
      rfl
    rw [eo] at ed
    cases ed
    let y : Nat := thru ps r (i + 1) - thru ps r i
    let c0 : D := .int ((came r i : Nat) - (thru ps r i : Nat) : Int)
    let c1 : D := .int ((came r (i + 1) : Nat) - (thru ps r (i + 1) : Nat) : Int)
    let l1 : Loc := [some (.ref o), some (tupR r), some c0, some (.int ((0 + i : Nat) : Nat)), some (nm y)]
    let l2 : Loc := [some (.ref o), some (tupR r), some c1, some (.int ((0 + i : Nat) : Nat)), some (nm y)]
    have t1 := thru_up g.one g.ne r (i + 1) i (by omega)
    have t2 := came_next r i
    have t3 := thru_came g.one g.ne r (i + 1)
    have s1 : sAug 2 vPlus (eBin vSub (eCall m_requests_in (aCons (eVar 1) (aCons (eVar 3) (aCons (eC (.int 1)) (aNil))))) (eVar 4)) l1 hh = .nx l2 hh := by
      refine aug_eq (x := c0) (y := .int ((((r.drop (0 + i)).take 1).sum : Nat) - (y : Nat) : Int)) rfl ((bin_eq (x := nm ((r.drop (0 + i)).take 1).sum) (y := nm y) ((call_eq (cons_eq (var_eq (x := tupR r) rfl) (cons_eq (var_eq (x := .int ((0 + i : Nat) : Nat)) rfl) (cons_eq (a := eC (.int 1)) (x := .int 1) (h1 := hh) rfl nil_eq)))).trans (req_in r (0 + i) hh)) (var_eq rfl)).trans rfl) (z := c1) ?_
      show Res.ok (D.int _) hh = Res.ok (D.int _) hh
      rw [Nat.zero_add] at *
      congr 2
      show ((came r i : Nat) : Int) - (thru ps r i : Nat) + ((((r.drop i).take 1).sum : Nat) - ((thru ps r (i + 1) - thru ps r i : Nat) : Int)) = _
      omega
    have hl : ((lefts ps r i).map nm).length < LIM := by
      unfold lefts LIM
      simp
      omega
    refine ⟨(lefts ps r i).map nm ++ [c1], l2, hh, ?_, ?_, rfl, _, _, rfl⟩
    · show wtB ((lefts ps r i).map nm) l1 hh = _
      unfold wtB gSeq gP gYield
      rw [s1]
      dsimp only
      rw [if_pos hl, var_eq (i := 2) (l := l2) (x := c1) rfl]
      rfl
    · have : lefts ps r (i + 1) = lefts ps r i ++ [came r (i + 1) - thru ps r (i + 1)] := by
        unfold lefts
        rw [List.range_succ, List.map_append]
        rfl
      rw [this, List.map_append]
      show _ = (lefts ps r i).map nm ++ [nm (came r (i + 1) - thru ps r (i + 1))]
      congr 2
      show D.int _ = D.int _
      congr 1
      omega) N 0 [] l0 h1 (by rw [lenE]; omega) ⟨rfl, rfl, none, none, by
        show l0 = _
        rw [came_zero, thru_zero]
        rfl⟩
  rw [lenE] at i1
  refine ⟨h', ?_, x1⟩
  rw [waiting_eq]
  unfold fnG
  rw [if_pos (show [D.ref o, tupR r].length = 2 from rfl)]
  have : gSeq (gP (sAsg (eC (.int 0)) (gName 2))) (gSeq (gFor (wEnum (aCons (eCall m_passed (aCons (eVar 0) (aCons (eVar 1) (aNil)))) (aNil))) wtG wtB) (gNext)) [] (start 5 [.ref o, tupR r]) h = .nx ys l h' := by
    have s0 : gP (sAsg (eC (.int 0)) (gName 2)) [] (start 5 [.ref o, tupR r]) h = .nx [] l0 h := rfl
    have s1 : gFor (wEnum (aCons (eCall m_passed (aCons (eVar 0) (aCons (eVar 1) (aNil)))) (aNil))) wtG wtB [] l0 h = .nx ys l h' := by
      unfold gFor
      rw [ew]
      exact e2
    unfold gSeq
    rw [s0]
    dsimp only
    rw [s1]
    rfl
  rw [this, i1]
end GT

end

section
set_option Elab.async false
set_option linter.all false
set_option maxRecDepth 100000
set_option maxHeartbeats 4000000
namespace GT
open FL
open PySem (PyData)
open PySem.SeqAt (shaped)
/-! ### verdicts -/
theorem jud_b {ps : List (Nat × Nat)} {r : List Nat} {x : D} (j : Jud ps r x) : ∃ b : Bool, (b = true ↔ keepsP ps r) ∧ ∀ (n : Bool) (h : H), eqD n x keptD h = .ok (.bl (n != b)) h := by
  rcases j with ⟨rfl, k⟩ | ⟨s, i, p, hs, hi, hp, rfl⟩
  · refine ⟨true, by simp [k], fun n h => ?_⟩
    rw [eq_kk]
    cases n <;> rfl
  · refine ⟨false, ⟨fun c => Bool.noConfusion c, fun k => ?_⟩, fun n h => ?_⟩
    · have := k p (List.mem_of_getElem? hi) s hs
      unfold reqs at hp
      omega
    · rw [eq_bk]
      cases n <;> rfl
/-! ### rows behind other rows -/
theorem cut_row (r : List Nat) (n : Nat) (h : H) : vCut (tupR r) none (some ((n : Int) + 1)) h = .ok (tupR (r.take (n + 1))) h := by
  show Res.ok (D.tup (cut (r.map nm) none (some ((n : Int) + 1)))) h = _
  have := cut_to (r.map nm) (n + 1)
  rw [show ((n : Int) + 1) = ((n + 1 : Nat) : Int) by omega, this, ← List.map_take]
  rfl
theorem sum_cut {i : Nat} {r : List Nat} {n : Nat} {l : Loc} {h : H} (e : l[i]? = some (some (tupR r))) (e3 : l[3]? = some (some (.int (n : Nat)))) : eCall fSum (aCons (eCut (eVar i) (none) (some (eBin vAdd (eVar 3) (eC (.int 1))))) (aNil)) l h = .ok (nm (came r (n + 1))) h := by
  refine (call1_eq ((cutR_eq (var_eq e) (u := (n : Int) + 1) (h2 := h) ((bin_eq (var_eq e3) (b := eC (.int 1)) (y := .int 1) (h2 := h) rfl).trans rfl)).trans (cut_row r n h))).trans ?_
  exact fsum_nm _ h
theorem behind_ok {a b : List Nat} (ha : a.length ≤ 2600) (hb : b.length ≤ 2600) (le : ∀ n, came a n ≤ came b n) (h : H) : ∃ h', m__law_behind [tupR a, tupR b] h = .ok (.bl true) h' ∧ Ex h h' := by
  let l0 : Loc := [some (tupR a), some (tupR b), none, none]
  let n : Nat := max a.length b.length
  let l1 : Loc := [some (tupR a), some (tupR b), some (nm n), none]
  have lenR : ∀ (r : List Nat) (h : H), fLen [tupR r] h = .ok (nm r.length) h := fun r h => (len_of (xs := r.map nm) rfl).trans (by rw [List.length_map]; rfl)
  have s1 : sAsg (eCall fMax (aCons (eCall fLen (aCons (eVar 0) (aNil))) (aCons (eCall fLen (aCons (eVar 1) (aNil))) (aNil)))) (gName 2) l0 h = .nx l1 h := asg_eq (x := nm n) ((call2_eq ((call1_eq (var_eq (i := 0) (l := l0) rfl)).trans (lenR a h)) ((call1_eq (var_eq (i := 1) (l := l0) rfl)).trans (lenR b h))).trans (max_nm _ _ h))
  have w : wRng1 (aCons (eVar 2) (aNil)) l1 h = .ok (.snap (rng 0 (n : Int))) h := rng1_eq (var_eq rfl) (by unfold LIM; omega)
  have cm := comp_ones (i := 3) (l := l1) (t := tVal (eBin vGt (eCall fSum (aCons (eCut (eVar 0) (none) (some (eBin vAdd (eVar 3) (eC (.int 1))))) (aNil))) (eCall fSum (aCons (eCut (eVar 1) (none) (some (eBin vAdd (eVar 3) (eC (.int 1))))) (aNil))))) (fun _ => false) w (by simp [l1]) (by rw [rng_len]; omega) (fun d hd l' el v => by
    rw [rng_nat] at hd
    obtain ⟨k, _, rfl⟩ := List.mem_map.mp hd
    have e0 : l'[0]? = some (some (tupR a)) := by rw [el]; rfl
    have e1 : l'[1]? = some (some (tupR b)) := by rw [el]; rfl
    refine tval_eq ((bin_eq (sum_cut e0 v) (sum_cut e1 v)).trans ?_)
    show Res.ok (D.bl (decide (((came b (k + 1) : Nat) : Int) < ((came a (k + 1) : Nat) : Int)))) h = _
    rw [decide_eq_false (by have := le (k + 1); omega)])
  have r1 := ones_is cm
  have : (rng 0 (n : Int)).countP (fun _ => false) = 0 := by rw [List.countP_eq_zero]; intro _ _; decide
  rw [this] at r1
  exact ⟨_, fn_rt (n := 4) (kk := 2) (xs := [tupR a, tupR b]) rfl ((seq_eq s1).trans (ret_eq r1)), (Ex.add _ _).trans (Ex.add _ _)⟩
/-! ### equal rows -/
theorem eqv_is : ∀ r s : List Nat, PyData.eqvAll (r.map fun (n : Nat) => PyData.int (n : Int)) (s.map fun (n : Nat) => PyData.int (n : Int)) = decide (r = s)
  | [], [] => by simp [PyData.eqvAll]
  | [], _ :: _ => by simp [PyData.eqvAll]
  | _ :: _, [] => by simp [PyData.eqvAll]
  | x :: r, y :: s => by
    rw [List.map_cons, List.map_cons]
    simp only [PyData.eqvAll, PyData.eqv, eqv_is r s]
    rw [Bool.eq_iff_iff]
    simp
    omega
def lsP (r : List Nat) : PyData := .list (r.map fun (n : Nat) => PyData.int (n : Int))
theorem fine_ls {r : List Nat} (hb : r.sum ≤ 60) : Fine (lsP r) := fine_lst (fun q hq => by
    obtain ⟨n, hn, rfl⟩ := List.mem_map.mp hq
    exact (fine_int (by have := mem_sum hn; omega))) (fun q hq => by
    obtain ⟨n, hn, rfl⟩ := List.mem_map.mp hq
    simp [PyData.depth])
theorem eq_tup {r s : List Nat} (hr : r.sum ≤ 60) (hs : s.sum ≤ 60) (n : Bool) (h : H) : eqD n (tupR r) (tupR s) h = .ok (.bl (n != decide (r = s))) h := by
  have e1 : ∀ r : List Nat, toP h (tupR r) = some (nmP r) := fun r => toD_nm _ r
  unfold eqD
  rw [e1, e1]
  dsimp only
  rw [if_pos ⟨shaped_fine (fine_row hr), shaped_fine (fine_row hs)⟩]
  have : PyData.eqv (nmP r) (nmP s) = decide (r = s) := by
    unfold nmP
    simp only [PyData.eqv]
    exact eqv_is r s
  rw [this]
  cases n <;> cases decide (r = s) <;> rfl
theorem eq_lst {r s : List Nat} (hr : r.sum ≤ 60) (hs : s.sum ≤ 60) {a b : Nat} {h : H} (ha : h[a]? = some (.lst (r.map nm))) (hb : h[b]? = some (.lst (s.map nm))) (n : Bool) : eqD n (.ref a) (.ref b) h = .ok (.bl (n != decide (r = s))) h := by
  have e1 : ∀ {r : List Nat} {a : Nat}, h[a]? = some (.lst (r.map nm)) → toP h (.ref a) = some (lsP r) := fun {r a} ha => by
    unfold toP toD rfAt
    rw [ha]
    dsimp only
    rw [toDs_nm]
    rfl
  unfold eqD
  rw [e1 ha, e1 hb]
  dsimp only
  rw [if_pos ⟨shaped_fine (fine_ls hr), shaped_fine (fine_ls hs)⟩]
  have : PyData.eqv (lsP r) (lsP s) = decide (r = s) := by
    unfold lsP
    simp only [PyData.eqv]
    exact eqv_is r s
  rw [this]
  cases n <;> cases decide (r = s) <;> rfl
theorem eq_bl (n x y : Bool) (h : H) : eqD n (.bl x) (.bl y) h = .ok (.bl (n != (x == y))) h := by
  cases n <;> cases x <;> cases y <;> simp [eqD, toP, toD, shaped, PyData.strOk, PyData.canLay0, PyData.depth, PyData.eqv]
/-! ### without the last ticks -/
def btest : T := tAnd (tVal (eBin vNe (eVar 1) (eLst (aNil)))) (tVal (eBin vEq (eBin vIx (eVar 1) (eUn vNeg (eC (.int 1)))) (eC (.int 0))))
def bbody : S := sDrop (ePop (eVar 1))
theorem bare_go (x : D) (a : Nat) : ∀ (ys : List Nat) (f : Nat) (h0 h : H), ys.sum ≤ 60 → ys.length < f → h0.length ≤ a → Ex h0 h → h[a]? = some (.lst (ys.reverse.map nm)) → ∃ h', whileF btest bbody f [some x, some (.ref a)] h = .nx [some x, some (.ref a)] h' ∧ h'[a]? = some (.lst (((ys.dropWhile (· == 0)).reverse).map nm)) ∧ Ex h0 h'
  | ys, 0, h0, h, hs, hf, ho, ex, ha => by omega
  | ys, f + 1, h0, h, hs, hf, ho, ex, ha => by
    let l : Loc := [some x, some (.ref a)]
    let h1 : H := h ++ [.lst []]
    have la : a < h.length := (List.getElem?_eq_some_iff.mp ha).1
    have ha1 : h1[a]? = some (.lst (ys.reverse.map nm)) := (Ex.add h _).get ha
    have n1 : eLst (aNil) l h = .ok (.ref h.length) h1 := lst_eq nil_eq (by unfold LIM; simp)
    have hb1 : h1[h.length]? = some (.lst (([] : List Nat).map nm)) := by simp [h1]
    have sr : ys.reverse.sum ≤ 60 := by rw [List.sum_reverse]; exact hs
    have t1 : tVal (eBin vNe (eVar 1) (eLst (aNil))) l h = .ok (!decide (ys.reverse = [])) h1 := tval_eq ((bin_eq (f := vNe) (var_eq (i := 1) (l := l) rfl) n1).trans (by
      show eqD true _ _ _ = _
      rw [eq_lst sr (by simp) ha1 hb1 true, Bool.true_bne]))
    have x1 : Ex h0 h1 := ex.trans (Ex.add h _)
    cases ys with
    | nil =>
      refine ⟨h1, ?_, ha1, x1⟩
      show ofRes l (btest l h) _ = _
      have : btest l h = .ok false h1 := tand_f t1
      rw [this]
      rfl
    | cons y ys =>
      have e2 : decide ((y :: ys).reverse = []) = false := by simp
      rw [e2] at t1
      have ha2 : h1[a]? = some (.lst ((ys.reverse ++ [y]).map nm)) := by rw [← List.reverse_cons]; exact ha1
      have t2 : tVal (eBin vEq (eBin vIx (eVar 1) (eUn vNeg (eC (.int 1)))) (eC (.int 0))) l h1 = .ok (decide (y = 0)) h1 := by
        refine tval_eq ((bin_eq (x := nm y) (y := .int 0) (h2 := h1) ((bin_eq (var_eq (i := 1) (l := l) rfl) (y := .int (-1)) (h2 := h1) rfl).trans (last_lst ha2)) rfl).trans ?_)
        show Res.ok (D.bl (decide (((y : Nat) : Int) = 0))) h1 = _
        rw [show decide (((y : Nat) : Int) = 0) = decide (y = 0) by rw [decide_eq_decide]; omega]
      have t3 : btest l h = .ok (decide (y = 0)) h1 := (tand_t t1).trans t2
      by_cases c : y = 0
      · subst c
        have po : bbody l h1 = .nx l (h1.set a (.lst (ys.reverse.map nm))) := by
          refine drop_eq (x := nm 0) ?_
          unfold ePop
          rw [var_eq (i := 1) (l := l) (x := .ref a) rfl, bind_ok]
          dsimp only
          rw [ha2]
          simp
        have hl1 : a < h1.length := (List.getElem?_eq_some_iff.mp ha1).1
        obtain ⟨h', e, q, xx⟩ := bare_go x a ys f h0 (h1.set a (.lst (ys.reverse.map nm))) (by simpa using hs) (by simpa using hf) ho (x1.new ho _) (List.getElem?_set_self hl1)
        refine ⟨h', ?_, ?_, xx⟩
        · show ofRes l (btest l h) _ = _
          rw [t3]
          show (match bbody l h1 with
            | .nx l2 h2 => whileF btest bbody f l2 h2
            | .ct l2 h2 => whileF btest bbody f l2 h2
            | .bk l2 h2 => .nx l2 h2
            | r => r) = _
          rw [po]
          exact e
        · rw [List.dropWhile_cons_of_pos (by rfl)]
          exact q
      · refine ⟨h1, ?_, ?_, x1⟩
        · show ofRes l (btest l h) _ = _
          rw [t3, decide_eq_false c]
          rfl
        · rw [List.dropWhile_cons_of_neg (by simpa using c)]
          exact ha1
theorem bare_ok {r : List Nat} (hb : r.sum ≤ 60) (hz : r.length ≤ 4000) (h : H) : ∃ a h', m__law_bare [tupR r] h = .ok (.ref a) h' ∧ h'[a]? = some (.lst ((bare r).map nm)) ∧ Ex h h' := by
  let h1 : H := h ++ [.lst (r.map nm)]
  have e1 : fList [tupR r] h = .ok (.ref h.length) h1 := rfl
  obtain ⟨h', e, q, x⟩ := bare_go (tupR r) h.length r.reverse 5000 h h1 (by rw [List.sum_reverse]; exact hb) (by rw [List.length_reverse]; omega) (Nat.le_refl _) (Ex.add h _) (by rw [List.reverse_reverse]; simp [h1])
  refine ⟨h.length, h', ?_, q, x⟩
  have s1 : sAsg (eCall fList (aCons (eVar 0) (aNil))) (gName 1) [some (tupR r), none] h = .nx [some (tupR r), some (.ref h.length)] h1 := asg_eq ((call1_eq (var_eq rfl)).trans e1)
  have s2 : sWhile btest bbody [some (tupR r), some (.ref h.length)] h1 = .nx [some (tupR r), some (.ref h.length)] h' := e
  exact fn_rt (n := 2) (kk := 1) (xs := [tupR r]) rfl ((seq_eq s1).trans ((seq_eq s2).trans (ret_eq (var_eq rfl))))
theorem bare_sum (r : List Nat) : (bare r).sum ≤ r.sum := by
  unfold bare
  rw [List.sum_reverse, ← List.sum_reverse r]
  generalize r.reverse = s
  induction s with
  | nil => simp
  | cons x s ih =>
    by_cases c : x = 0
    · subst c
      rw [List.dropWhile_cons_of_pos (by rfl)]
      simp only [List.sum_cons]
      omega
    · rw [List.dropWhile_cons_of_neg (by simpa using c)]
      omega
end GT

end

section
set_option Elab.async false
set_option linter.all false
set_option maxRecDepth 100000
set_option maxHeartbeats 4000000
namespace GT
open FL
open PySem (PyData)
open PySem.SeqAt (shaped)
structure Psd (ps : List (Nat × Nat)) (r p : List Nat) : Prop where
  cm : ∀ n, came p n = thru ps r n
  sum : p.sum = r.sum
  len : p.length ≤ r.length + 1200
  keeps : keepsP ps p
  self : keepsP ps r → p = r
theorem psd {ps : List (Nat × Nat)} (g : Good ps) {r : List Nat} (hb : r.sum ≤ 60) {N : Nat} (hN : N ≤ r.length + 20 * r.sum) (hr : r.length ≤ N) (hN2 : thru ps r N = r.sum) (hN3 : ∀ k, k < N → k < r.length ∨ thru ps r k < r.sum) : Psd ps r (outs ps r N) where
  cm := came_outs g hN2
  sum := by rw [outs_sum g.one g.ne, hN2]
  len := by rw [outs_len]; omega
  keeps := kept_outs g hN2
  self := fun k => by
    have e := of_keeps g k
    rw [last_self e hr hN3, outs_self e]
theorem pass_ok {ps : List (Nat × Nat)} (g : Good ps) {r : List Nat} (hz : r.length ≤ 3000) (hb : r.sum ≤ 60) {o : Nat} {h : H} (q : Lim ps h o) : ∃ p h', m_passed [.ref o, tupR r] h = .ok (tupR p) h' ∧ Ex h h' ∧ Psd ps r p := by
  obtain ⟨N, n1, n2, n3, n4⟩ := some_last g r
  obtain ⟨h', e, x⟩ := passed_ok g r hz hb q N n1 n2 n3 n4
  exact ⟨_, h', e, x, psd g hb n1 n2 n3 n4⟩
theorem verd {ps : List (Nat × Nat)} {r : List Nat} (hb : r.sum ≤ 60) (hz : r.length ≤ 5000) {o : Nat} {h : H} (q : Lim ps h o) : ∃ x h', m_verdict [.ref o, tupR r] h = .ok x h' ∧ Ex h h' ∧ ∃ b : Bool, (b = true ↔ keepsP ps r) ∧ ∀ (n : Bool) (h : H), eqD n x keptD h = .ok (.bl (n != b)) h := by
  obtain ⟨x, h', e, ex, j⟩ := verdict_ok r hb hz q
  exact ⟨x, h', e, ex, jud_b j⟩
/-- .. == ("kept",) -/
theorem verd_eq {ps : List (Nat × Nat)} {r : List Nat} (hb : r.sum ≤ 60) (hz : r.length ≤ 5000) {o : Nat} {h h0 : H} {l : Loc} {e1 e2 : E} (q : Lim ps h o) (c1 : e1 l h0 = .ok (.ref o) h0) (c2 : e2 l h0 = .ok (tupR r) h) : ∃ h', Ex h h' ∧ ∃ b : Bool, (b = true ↔ keepsP ps r) ∧ eBin vEq (eCall m_verdict (aCons e1 (aCons e2 (aNil)))) (eTup (aCons (eC (.str [107, 101, 112, 116])) (aNil))) l h0 = .ok (.bl b) h' ∧ eBin vNe (eCall m_verdict (aCons e1 (aCons e2 (aNil)))) (eTup (aCons (eC (.str [107, 101, 112, 116])) (aNil))) l h0 = .ok (.bl (!b)) h' := by
  obtain ⟨x, h', e, ex, b, hb, q⟩ := verd hb hz q
  have c := (call2_eq c1 c2).trans e
  refine ⟨h', ex, b, hb, (bin_eq c (kE_eq l h')).trans ?_, (bin_eq c (kE_eq l h')).trans ?_⟩
  · have := q false h'
    rw [Bool.false_bne] at this
    exact (show vEq x keptD h' = eqD false x keptD h' from by cases x <;> rfl).trans this
  · have := q true h'
    rw [Bool.true_bne] at this
    exact (show vNe x keptD h' = eqD true x keptD h' from by cases x <;> rfl).trans this
/-- the sum of the waiting ones is the sum of the waiting times -/
theorem lefts_sum {ps : List (Nat × Nat)} (g : Good ps) (r : List Nat) : ∀ N : Nat, (((lefts ps r N).sum : Nat) : Int) = csum r N - ((List.range N).map fun i => ((thru ps r (i + 1) : Nat) : Int)).sum
  | 0 => rfl
  | N + 1 => by
    have ih := lefts_sum g r N
    have t := thru_came g.one g.ne r (N + 1)
    rw [csum_next, List.range_succ, List.map_append, List.sum_append]
    unfold lefts at ih ⊢
    rw [List.range_succ, List.map_append, List.sum_append]
    simp only [List.map_cons, List.map_nil, List.sum_cons, List.sum_nil]
    omega
theorem wait_sum {ps : List (Nat × Nat)} (g : Good ps) (r : List Nat) {N : Nat} (hr : r.length ≤ N) (hN2 : thru ps r N = r.sum) : (((lefts ps r N).sum : Nat) : Int) = (wt ps r N).sum := by
  let p := outs ps r N
  have cp := came_outs g hN2
  have pl : p.length = N := outs_len ps r N
  have psum : p.sum = r.sum := by show (outs ps r N).sum = _; rw [outs_sum g.one g.ne, hN2]
  have a1 := abel r N
  have a2 := abel p N
  have cr : came r N = r.sum := came_all r N hr
  have cpN : came p N = r.sum := by rw [show came p N = thru ps r N from cp N, hN2]
  rw [List.take_of_length_le hr, cr] at a1
  rw [List.take_of_length_le (by omega), cpN] at a2
  have cs : csum p N = ((List.range N).map fun i => ((thru ps r (i + 1) : Nat) : Int)).sum := by
    unfold csum
    congr 1
    exact List.map_congr_left fun i _ => by rw [show came p (i + 1) = thru ps r (i + 1) from cp (i + 1)]
  rw [lefts_sum g r N, ← cs]
  unfold wt
  rw [dels_sum _ _ (by rw [tks_len, tks_len]; exact psum.symm), tks_sum, tks_sum]
  show _ = wsum p 0 - wsum r 0
  omega
theorem sum_ints (xs : List Int) (h : H) : fSum [.tup (xs.map D.int)] h = .ok (.int xs.sum) h := by
  unfold fSum intsOf seqOf
  dsimp only
  rw [numsI]
theorem fair_ok {ps : List (Nat × Nat)} (g : Good ps) {r : List Nat} (hz : r.length ≤ 100) (hb : r.sum ≤ 60) {o : Nat} {h : H} (q : Lim ps h o) : ∃ h', m__law_fair [.ref o, tupR r] h = .ok (.bl true) h' ∧ Ex h h' := by
  obtain ⟨N, n1, n2, n3, n4⟩ := some_last g r
  obtain ⟨h1, e1, x1⟩ := passed_ok g r (by omega) hb q N n1 n2 n3 n4
  have P := psd g hb n1 n2 n3 n4
  let p := outs ps r N
  have pb : p.sum ≤ 60 := by have := P.sum; show (outs ps r N).sum ≤ 60; omega
  have pz : p.length ≤ 1300 := by have := P.len; show (outs ps r N).length ≤ 1300; omega
  let l0 : Loc := [some (.ref o), some (tupR r), none]
  let l1 : Loc := [some (.ref o), some (tupR r), some (tupR p)]
  have v0 : ∀ h, eVar 0 l1 h = .ok (.ref o) h := fun h => var_eq rfl
  have v1 : ∀ h, eVar 1 l1 h = .ok (tupR r) h := fun h => var_eq rfl
  have v2 : ∀ h, eVar 2 l1 h = .ok (tupR p) h := fun h => var_eq rfl
  have s1 : sAsg (eCall m_passed (aCons (eVar 0) (aCons (eVar 1) (aNil)))) (gName 2) l0 h = .nx l1 h1 := asg_eq ((call2_eq (var_eq rfl) (var_eq rfl)).trans e1)
  have q1 : Lim ps h1 o := q.same (x1.at' _ q.lt)
  -- told keeps the limits
  obtain ⟨h2, x2, b2, i2, _, t2⟩ := verd_eq pb (by omega) q1 (v0 h1) (v2 h1)
  have : b2 = true := i2.mpr P.keeps
  subst this
  have t3 : tVal (eBin vNe (eCall fSum (aCons (eVar 2) (aNil))) (eCall fSum (aCons (eVar 1) (aNil)))) l1 h2 = .ok false h2 := by
    refine tval_eq ((bin_eq ((call1_eq (v2 h2)).trans (fsum_nm p h2)) ((call1_eq (v1 h2)).trans (fsum_nm r h2))).trans ?_)
    rw [show p.sum = r.sum from P.sum]
    show Res.ok (D.bl (!decide (((r.sum : Nat) : Int) = ((r.sum : Nat) : Int)))) h2 = _
    simp
  obtain ⟨h3, e3, x3⟩ := behind_ok (a := p) (b := r) (by omega) (by omega) (fun n => by rw [show came p n = thru ps r n from P.cm n]; exact thru_came g.one g.ne r n) h2
  have t4 : tNot (tTruth (eCall m__law_behind (aCons (eVar 2) (aCons (eVar 1) (aNil))))) l1 h2 = .ok false h3 := tnot_eq (c := true) (ttruth_eq ((call2_eq (v2 h2) (v1 h2)).trans e3) rfl)
  have i1 := if_f (s := sRet (eC (.bl false))) (s2 := sNext) ((tor_f (tval_eq t2)).trans ((tor_f t3).trans t4))
  -- passed again
  have q3 : Lim ps h3 o := q1.same ((x2.trans x3).at' _ q1.lt)
  obtain ⟨p2, h4, e4, x4, P2⟩ := pass_ok g (r := p) (by omega) pb q3
  have ep := P2.self P.keeps
  subst ep
  have t5 : tVal (eBin vNe (eCall m_passed (aCons (eVar 0) (aCons (eVar 2) (aNil)))) (eVar 2)) l1 h3 = .ok false h4 := by
    refine tval_eq ((bin_eq (f := vNe) ((call2_eq (v0 h3) (v2 h3)).trans e4) (v2 h4)).trans ?_)
    show eqD true (tupR p) (tupR p) h4 = _
    rw [eq_tup pb pb]
    simp
  have q4 : Lim ps h4 o := q3.same (x4.at' _ q3.lt)
  obtain ⟨h5, x5, b5, i5, t6, _⟩ := verd_eq hb (by omega) q4 (v0 h4) (v1 h4)
  have t7 : eBin vEq (eVar 2) (eVar 1) l1 h5 = .ok (.bl (decide (p = r))) h5 := by
    refine (bin_eq (f := vEq) (v2 h5) (v1 h5)).trans ?_
    show eqD false (tupR p) (tupR r) h5 = _
    rw [eq_tup pb hb, Bool.false_bne]
  have eb : b5 = decide (p = r) := by
    rw [Bool.eq_iff_iff, i5, decide_eq_true_iff]
    exact ⟨P.self, fun e => e ▸ P.keeps⟩
  have t8 : tVal (eBin vNe (eBin vEq (eCall m_verdict (aCons (eVar 0) (aCons (eVar 1) (aNil)))) (eTup (aCons (eC (.str [107, 101, 112, 116])) (aNil)))) (eBin vEq (eVar 2) (eVar 1))) l1 h4 = .ok false h5 := by
    refine tval_eq ((bin_eq (f := vNe) t6 t7).trans ?_)
    show eqD true (.bl b5) (.bl _) h5 = _
    rw [eq_bl, eb]
    simp
  have i2 := if_f (s := sRet (eC (.bl false))) (s2 := sNext) ((tor_f t5).trans t8)
  -- the waiting
  have q5 : Lim ps h5 o := q4.same (x5.at' _ q4.lt)
  obtain ⟨h6, e6, x6⟩ := waiting_ok g r (by omega) hb q5 N n1 n2 n3 n4
  let h7 : H := h6 ++ [.lst ((lefts ps r N).map nm)]
  have x7 : Ex h5 h7 := x6.trans (Ex.add h6 _)
  have e7 : eCall (lstG [] m_waiting) (aCons (eVar 0) (aCons (eVar 1) (aNil))) l1 h5 = .ok (.ref h6.length) h7 := by
    refine (call2_eq (v0 h5) (v1 h5)).trans ?_
    unfold lstG
    rw [e6]
    dsimp only
    rw [if_pos (by rw [List.length_map]; unfold lefts LIM; rw [List.length_map, List.length_range]; omega)]
    rfl
  have e8 := (call1_eq (k := fSum) e7).trans (sum_lst (xs := lefts ps r N) (a := h6.length) (by simp [h7]))
  have q7 : Lim ps h7 o := q5.same (x7.at' _ q5.lt)
  obtain ⟨h8, e9, x8⟩ := waits_ok g r (by omega) hb q7 N n1 n2 n3 n4
  have q8 : Lim ps h8 o := q7.same (x8.at' _ q7.lt)
  obtain ⟨h9, e10, x9⟩ := waits_ok g r (by omega) hb q8 N n1 n2 n3 n4
  have f1 : eBin vEq (eCall fSum (aCons (eCall (lstG [] m_waiting) (aCons (eVar 0) (aCons (eVar 1) (aNil)))) (aNil))) (eCall fSum (aCons (eCall m_waits (aCons (eVar 0) (aCons (eVar 1) (aNil)))) (aNil))) l1 h5 = .ok (.bl true) h8 := by
    refine (bin_eq e8 ((call1_eq ((call2_eq (v0 h7) (v1 h7)).trans e9)).trans (sum_ints _ h8))).trans ?_
    show Res.ok (D.bl (decide ((((lefts ps r N).sum : Nat) : Int) = (wt ps r N).sum))) h8 = _
    rw [decide_eq_true (wait_sum g r n2 n3)]
  have f2 : eBin vEq (eCall fLen (aCons (eCall m_waits (aCons (eVar 0) (aCons (eVar 1) (aNil)))) (aNil))) (eCall fSum (aCons (eVar 1) (aNil))) l1 h8 = .ok (.bl true) h9 := by
    refine (bin_eq ((call1_eq ((call2_eq (v0 h8) (v1 h8)).trans e10)).trans (len_of (xs := (wt ps r N).map .int) rfl)) ((call1_eq (v1 h9)).trans (fsum_nm r h9))).trans ?_
    show Res.ok (D.bl (decide (((((wt ps r N).map D.int).length : Nat) : Int) = ((r.sum : Nat) : Int)))) h9 = _
    rw [List.length_map]
    unfold wt
    rw [dels_len' _ _ (by rw [tks_len, tks_len]; exact P.sum.symm), tks_len]
    simp
  refine ⟨h9, fn_rt (n := 3) (kk := 2) (xs := [.ref o, tupR r]) rfl ((seq_eq s1).trans ((seq_eq (i1.trans rfl)).trans ((seq_eq (i2.trans rfl)).trans (ret_eq ((and_t f1).trans f2))))), ?_⟩
  exact (((((((x1.trans x2).trans x3).trans x4).trans x5).trans x7).trans x8).trans x9)
end GT

end

section
set_option Elab.async false
set_option linter.all false
set_option maxRecDepth 100000
set_option maxHeartbeats 4000000
namespace GT
open FL
open PySem (PyData)
open PySem.SeqAt (shaped)
theorem passE {ps : List (Nat × Nat)} (g : Good ps) {r : List Nat} (hz : r.length ≤ 3000) (hb : r.sum ≤ 60) {o : Nat} {h h0 : H} {l : Loc} {e1 e2 : E} (q : Lim ps h o) (c1 : ∀ h, e1 l h = .ok (.ref o) h) (c2 : e2 l h0 = .ok (tupR r) h) : ∃ p h', eCall m_passed (aCons e1 (aCons e2 (aNil))) l h0 = .ok (tupR p) h' ∧ Ex h h' ∧ Psd ps r p := by
  obtain ⟨p, h', e, x, P⟩ := pass_ok g hz hb q
  exact ⟨p, h', (call2_eq (c1 h0) c2).trans e, x, P⟩
/-- not behind -/
def nb (e1 e2 : E) : T := tNot (tTruth (eCall m__law_behind (aCons e1 (aCons e2 (aNil)))))
theorem nb_ok {a b : List Nat} {l : Loc} {h h1 h2 : H} {e1 e2 : E} (c1 : e1 l h = .ok (tupR a) h1) (c2 : e2 l h1 = .ok (tupR b) h2) (ha : a.length ≤ 2600) (hb : b.length ≤ 2600) (le : ∀ n, came a n ≤ came b n) : ∃ h', nb e1 e2 l h = .ok false h' ∧ Ex h2 h' := by
  obtain ⟨h', e, x⟩ := behind_ok ha hb le h2
  exact ⟨h', tnot_eq (c := true) (ttruth_eq ((call2_eq c1 c2).trans e) rfl), x⟩
def ifR (t : T) : S := sIf t (sRet (eC (.bl false))) (sNext)
theorem ifR_ok {t : T} {l : Loc} {h h1 : H} (e : t l h = .ok false h1) : ifR t l h = .nx l h1 := (if_f e).trans rfl
def pE (i j : Nat) : E := eCall m_passed (aCons (eVar i) (aCons (eVar j) (aNil)))
def rb1 : S := ifR (tOr (tNot (tTruth (eCall m__law_fair (aCons (eVar 3) (aCons (eVar 2) (aNil)))))) (tNot (tTruth (eCall m__law_fair (aCons (eVar 1) (aCons (eVar 2) (aNil)))))))
def rb2 : S := sAsg (eCall m__law_bare (aCons (pE 1 2) (aNil))) (gName 5)
def rb3 : S := ifR (tOr (tVal (eBin vNe (eCall m__law_bare (aCons (eCall m_passed (aCons (eVar 3) (aCons (pE 4 2) (aNil)))) (aNil))) (eVar 5))) (tVal (eBin vNe (eCall m__law_bare (aCons (eCall m_passed (aCons (eVar 4) (aCons (pE 3 2) (aNil)))) (aNil))) (eVar 5))))
def rb4 : S := ifR (tAnd (tVal (eBin vEq (eCall m_verdict (aCons (eVar 3) (aCons (eVar 2) (aNil)))) (eTup (aCons (eC (.str [107, 101, 112, 116])) (aNil))))) (tVal (eBin vNe (eCall m_verdict (aCons (eVar 3) (aCons (pE 4 2) (aNil)))) (eTup (aCons (eC (.str [107, 101, 112, 116])) (aNil))))))
def rb5 : S := ifR (nb (eCall m_passed (aCons (eVar 3) (aCons (eBin vAdd (eTup (aCons (eC (.int 0)) (aNil))) (eVar 2)) (aNil)))) (pE 3 2))
def fwE : E := eBin vSub (eVar 7) (eCall m__law_draw (aCons (eVar 0) (aCons (eBin vAdd (eVar 7) (eC (.int 1))) (aNil))))
def rb6 : S := sAsg (eCall fTuple (aCons (eComp (wSeq (eVar 2)) (gName 7) (tYes) fwE [7]) (aNil))) (gName 6)
def rb7 : S := ifR (nb (pE 3 6) (pE 3 2))
def rb8 : S := ifR (nb (pE 1 2) (pE 3 2))
def jbody : S := sSeq rb1 (sSeq rb2 (sSeq rb3 (sSeq rb4 (sSeq rb5 (sSeq rb6 (sSeq rb7 rb8))))))
theorem both_mem (a b : List (Nat × Nat)) (x : Nat × Nat) : x ∈ both a b ↔ x ∈ a ∨ x ∈ b := by
  unfold both
  simp only [List.mem_append, List.mem_filter, decide_eq_true_eq]
  by_cases c : x ∈ a <;> simp [c]
theorem fewer_go {p : Nat} {l : Loc} (hl : l.length = 8) (v0 : l[0]? = some (some (.ref p))) : ∀ (r : List Nat) (c : Nat) (acc : List D) (h : H), (∀ x ∈ r, x ≤ 60) → acc.length + r.length < 1000 → Pen (c + r.length) h p → ∃ (f : List Nat) (h' : H), lcS (gName 7) (tYes) fwE l (r.map nm) acc h = .ok (acc ++ f.map nm) h' ∧ f.length = r.length ∧ (∀ n, came f n ≤ came r n) ∧ Pen c h' p ∧ Kp p h h'
  | [], c, acc, h, hr, hz, q => ⟨[], h, by simp [lcS], rfl, fun n => Nat.le_refl _, q, Kp.refl p h⟩
  | x :: r, c, acc, h, hr, hz, q => by
    have hx := hr x List.mem_cons_self
    let l1 : Loc := l.set 7 (some (nm x))
    have v7 : l1[7]? = some (some (nm x)) := List.getElem?_set_self (by omega)
    have v0' : l1[0]? = some (some (.ref p)) := by rw [List.getElem?_set_ne (by decide)]; exact v0
    obtain ⟨k, t, hk, e1, q1⟩ := draw1 (c + r.length) p (x + 1) (l := l1) (h := h) v0' (e := eBin vAdd (eVar 7) (eC (.int 1))) ((bin_eq (var_eq v7) (b := eC (.int 1)) (y := .int 1) (h2 := h) rfl).trans rfl) (by omega) (by omega) (q.less (by simp only [List.length_cons]; omega))
    let h1 : H := h.set p t
    have ey : fwE l1 h = .ok (nm (x - k)) h1 := by
      refine (bin_eq (var_eq v7) e1).trans ?_
      show Res.ok (D.int (((x : Nat) : Int) - ((k : Nat) : Int))) h1 = _
      rw [show ((x : Nat) : Int) - ((k : Nat) : Int) = ((x - k : Nat) : Int) by omega]
      rfl
    have tn : lcTurn (gName 7) (tYes) fwE l (nm x) acc h = .ok (acc ++ (some (nm (x - k))).toList) h1 := turn_yes (g := gName 7) (l := l) (l1 := l1) (d := nm x) (acc := acc) (h1 := h) (h2 := h) rfl rfl ey (by unfold LIM; simp only [List.length_cons] at hz; omega)
    obtain ⟨f, h', e2, f1, f2, q2, k2⟩ := fewer_go hl v0 r c (acc ++ [nm (x - k)]) h1 (fun y hy => hr y (List.mem_cons_of_mem _ hy)) (by simp only [List.length_append, List.length_cons, List.length_nil] at hz ⊢; omega) q1
    refine ⟨(x - k) :: f, h', ?_, by simp [f1], fun n => ?_, q2, (Kp.set p h t).trans k2⟩
    · show (match lcTurn (gName 7) (tYes) fwE l (nm x) acc h with
        | .ok acc' h' => lcS (gName 7) (tYes) fwE l (r.map nm) acc' h'
        | _ => .bad) = _
      rw [tn]
      show lcS (gName 7) (tYes) fwE l (r.map nm) (acc ++ [nm (x - k)]) h1 = _
      rw [e2, List.append_assoc]
      rfl
    · cases n with
      | zero => exact Nat.le_refl _
      | succ n =>
        have := f2 n
        unfold came at this ⊢
        simp only [List.take_succ_cons, List.sum_cons]
        omega
end GT

end

section
set_option Elab.async false
set_option linter.all false
set_option maxRecDepth 100000
set_option maxHeartbeats 4000000
namespace GT
open FL
open PySem (PyData)
open PySem.SeqAt (shaped)
theorem exkp (p : Nat) {h h' : H} (x : Ex h h') : Kp p h h' := ⟨x.le, fun a ha _ => x.at' a ha⟩
theorem bareE {r : List Nat} (hb : r.sum ≤ 60) (hz : r.length ≤ 4000) {l : Loc} {h h1 : H} {e : E} (c : e l h = .ok (tupR r) h1) : ∃ a h', eCall m__law_bare (aCons e (aNil)) l h = .ok (.ref a) h' ∧ h'[a]? = some (.lst ((bare r).map nm)) ∧ Ex h1 h' := by
  obtain ⟨a, h', e1, q, x⟩ := bare_ok hb hz h1
  exact ⟨a, h', (call1_eq c).trans e1, q, x⟩
theorem jstep (c p o1 o3 o4 : Nat) {qs as bs : List (Nat × Nat)} (gz : Good qs) (ga : Good as) (gb : Good bs) (mem : ∀ x, x ∈ qs ↔ x ∈ as ∨ x ∈ bs) {r : List Nat} (hz : r.length ≤ 16) (hb : r.sum ≤ 60) {h : H} (Q1 : Lim qs h o1) (Q3 : Lim as h o3) (Q4 : Lim bs h o4) (pe : Pen (c + 16) h p) (w5 w6 w7 : Option D) : ∃ l' h', jbody [some (.ref p), some (.ref o1), some (tupR r), some (.ref o3), some (.ref o4), w5, w6, w7] h = .nx l' h' ∧ (∃ u5 u6 u7, l' = [some (.ref p), some (.ref o1), some (tupR r), some (.ref o3), some (.ref o4), u5, u6, u7]) ∧ Pen c h' p ∧ Kp p h h' := by
  let l0 : Loc := [some (.ref p), some (.ref o1), some (tupR r), some (.ref o3), some (.ref o4), w5, w6, w7]
  -- fair
  obtain ⟨h1, e1, x1⟩ := fair_ok ga (by omega) hb Q3
  obtain ⟨h2, e2, x2'⟩ := fair_ok gz (by omega) hb (Q1.same (x1.at' _ Q1.lt))
  have x2 : Ex h h2 := x1.trans x2'
  have s1 : rb1 l0 h = .nx l0 h2 := ifR_ok ((tor_f (tnot_eq (c := true) (ttruth_eq ((call2_eq (var_eq (i := 3) (l := l0) rfl) (var_eq (i := 2) (l := l0) rfl)).trans e1) rfl))).trans (tnot_eq (c := true) (ttruth_eq ((call2_eq (var_eq (i := 1) (l := l0) rfl) (var_eq (i := 2) (l := l0) rfl)).trans e2) rfl)))
  -- due
  have L1 : ∀ {h'}, Ex h h' → Lim qs h' o1 := fun x => Q1.same (x.at' _ Q1.lt)
  have L3 : ∀ {h'}, Ex h h' → Lim as h' o3 := fun x => Q3.same (x.at' _ Q3.lt)
  have L4 : ∀ {h'}, Ex h h' → Lim bs h' o4 := fun x => Q4.same (x.at' _ Q4.lt)
  obtain ⟨z, h3, e3, x3', Z⟩ := passE gz (l := l0) (h0 := h2) (e1 := eVar 1) (e2 := eVar 2) (by omega) hb (L1 x2) (fun _ => var_eq rfl) (var_eq rfl)
  have zs : z.sum ≤ 60 := by rw [Z.sum]; exact hb
  have zl : z.length ≤ 1300 := by have := Z.len; omega
  obtain ⟨a5, h4, e4, d5, x4'⟩ := bareE zs (by omega) e3
  have x4 : Ex h h4 := (x2.trans x3').trans x4'
  let l1 : Loc := [some (.ref p), some (.ref o1), some (tupR r), some (.ref o3), some (.ref o4), some (.ref a5), w6, w7]
  have s2 : rb2 l0 h2 = .nx l1 h4 := asg_eq e4
  -- one behind the other
  have v1 : ∀ h, eVar 1 l1 h = .ok (.ref o1) h := fun _ => var_eq rfl
  have v2 : ∀ h, eVar 2 l1 h = .ok (tupR r) h := fun _ => var_eq rfl
  have v3 : ∀ h, eVar 3 l1 h = .ok (.ref o3) h := fun _ => var_eq rfl
  have v4 : ∀ h, eVar 4 l1 h = .ok (.ref o4) h := fun _ => var_eq rfl
  have v5 : ∀ h, eVar 5 l1 h = .ok (.ref a5) h := fun _ => var_eq rfl
  obtain ⟨q, h5, e5, x5', B⟩ := passE gb (l := l1) (h0 := h4) (e1 := eVar 4) (e2 := eVar 2) (by omega) hb (L4 x4) v4 (v2 h4)
  have bs' : q.sum ≤ 60 := by rw [B.sum]; exact hb
  have bl : q.length ≤ 1300 := by have := B.len; omega
  have x5 := x4.trans x5'
  obtain ⟨q2, h6, e6, x6', B2⟩ := passE ga (l := l1) (h0 := h4) (e1 := eVar 3) (e2 := eCall m_passed (aCons (eVar 4) (aCons (eVar 2) (aNil)))) (by omega) bs' (L3 x5) v3 e5
  have b2s : q2.sum ≤ 60 := by rw [B2.sum]; exact bs'
  have b2l : q2.length ≤ 2600 := by have := B2.len; omega
  have two1 : ∀ n, thru qs r n = thru as q n := thru_two gz ga gb mem B.cm
  obtain ⟨a6, h7, e7, d6, x7'⟩ := bareE b2s (by omega) e6
  have x7 := (x5.trans x6').trans x7'
  have d5' : h7[a5]? = some (.lst ((bare z).map nm)) := (((x5'.trans x6').trans x7')).get d5
  have eq1 : bare q2 = bare z := bare_eq fun n => by rw [B2.cm, Z.cm, two1]
  have t1 : tVal (eBin vNe (eCall m__law_bare (aCons (eCall m_passed (aCons (eVar 3) (aCons (pE 4 2) (aNil)))) (aNil))) (eVar 5)) l1 h4 = .ok false h7 := by
    refine tval_eq ((bin_eq (f := vNe) e7 (v5 h7)).trans ?_)
    show eqD true (.ref a6) (.ref a5) h7 = _
    rw [eq_lst (by have := bare_sum q2; omega) (by have := bare_sum z; omega) d6 d5', eq1]
    simp
  obtain ⟨w, h8, e8, x8', A⟩ := passE ga (l := l1) (h0 := h7) (e1 := eVar 3) (e2 := eVar 2) (by omega) hb (L3 x7) v3 (v2 h7)
  have as' : w.sum ≤ 60 := by rw [A.sum]; exact hb
  have al : w.length ≤ 1300 := by have := A.len; omega
  have x8 := x7.trans x8'
  obtain ⟨w2, h9, e9, x9', A2⟩ := passE gb (l := l1) (h0 := h7) (e1 := eVar 4) (e2 := eCall m_passed (aCons (eVar 3) (aCons (eVar 2) (aNil)))) (by omega) as' (L4 x8) v4 e8
  have a2s : w2.sum ≤ 60 := by rw [A2.sum]; exact as'
  have a2l : w2.length ≤ 2600 := by have := A2.len; omega
  have two2 : ∀ n, thru qs r n = thru bs w n := thru_two gz gb ga (fun x => by rw [mem, or_comm]) A.cm
  obtain ⟨a7, h10, e10, d7, x10'⟩ := bareE a2s (by omega) e9
  have x10 := (x8.trans x9').trans x10'
  have d5'' : h10[a5]? = some (.lst ((bare z).map nm)) := (((x8'.trans x9').trans x10')).get d5'
  have eq2 : bare w2 = bare z := bare_eq fun n => by rw [A2.cm, Z.cm, two2]
  have t2 : tVal (eBin vNe (eCall m__law_bare (aCons (eCall m_passed (aCons (eVar 4) (aCons (pE 3 2) (aNil)))) (aNil))) (eVar 5)) l1 h7 = .ok false h10 := by
    refine tval_eq ((bin_eq (f := vNe) e10 (v5 h10)).trans ?_)
    show eqD true (.ref a7) (.ref a5) h10 = _
    rw [eq_lst (by have := bare_sum w2; omega) (by have := bare_sum z; omega) d7 d5'', eq2]
    simp
  have s3 : rb3 l1 h4 = .nx l1 h10 := ifR_ok ((tor_f t1).trans t2)
  -- what is kept stays kept
  obtain ⟨h11, x11', b, ib, t3, _⟩ := verd_eq (l := l1) (h0 := h10) (e1 := eVar 3) (e2 := eVar 2) hb (by omega) (L3 x10) (v3 h10) (v2 h10)
  have x11 := x10.trans x11'
  obtain ⟨h12, s4, x12⟩ : ∃ h12, rb4 l1 h10 = .nx l1 h12 ∧ Ex h h12 := by
    cases b with
    | false => exact ⟨h11, ifR_ok (tand_f (tval_eq t3)), x11⟩
    | true =>
      have ka := of_keeps ga (ib.mp rfl)
      obtain ⟨q', h12, e12, x12', B'⟩ := passE gb (l := l1) (h0 := h11) (e1 := eVar 4) (e2 := eVar 2) (by omega) hb (L4 x11) v4 (v2 h11)
      have bs2 : q'.sum ≤ 60 := by rw [B'.sum]; exact hb
      have bl2 : q'.length ≤ 1300 := by have := B'.len; omega
      obtain ⟨h13, x13', b', ib', _, t4⟩ := verd_eq (l := l1) (h0 := h11) (e1 := eVar 3) (e2 := eCall m_passed (aCons (eVar 4) (aCons (eVar 2) (aNil)))) bs2 (by omega) (L3 (x11.trans x12')) (v3 h11) e12
      have kq : keepsP as q' := keeps_of ga fun n => by
        rw [← thru_two gz ga gb mem B'.cm, thru_two gz gb ga (fun x => by rw [mem, or_comm]) (p := r) (fun n => (ka n).symm), B'.cm]
      have : b' = true := ib'.mpr kq
      subst this
      exact ⟨h13, ifR_ok ((tand_t (tval_eq t3)).trans (tval_eq t4)), (x11.trans x12').trans x13'⟩
  -- one tick later
  have ad : eBin vAdd (eTup (aCons (eC (.int 0)) (aNil))) (eVar 2) l1 h12 = .ok (tupR (0 :: r)) h12 := (bin_eq (tup_eq (xs := [nm 0]) (cons_eq (h1 := h12) rfl nil_eq) (by unfold LIM; simp)) (v2 h12)).trans (tup_add (xs := [0]) (ys := r) (by unfold LIM; simp only [List.length_cons, List.length_nil]; omega))
  obtain ⟨y, h13, e13, x13', Y⟩ := passE ga (l := l1) (h0 := h12) (e1 := eVar 3) (r := 0 :: r) (by simp only [List.length_cons]; omega) (by simpa using hb) (L3 x12) v3 ad
  have yl : y.length ≤ 1300 := by have := Y.len; simp only [List.length_cons] at this; omega
  have x13 := x12.trans x13'
  obtain ⟨w3, h14, e14, x14', A3⟩ := passE ga (l := l1) (h0 := h13) (e1 := eVar 3) (e2 := eVar 2) (by omega) hb (L3 x13) v3 (v2 h13)
  have a3l : w3.length ≤ 1300 := by have := A3.len; omega
  obtain ⟨h15, t5, x15'⟩ := nb_ok e13 e14 (by omega) (by omega) (fun n => by rw [Y.cm, A3.cm]; exact thru_mono ga (came_shift r) n)
  have x15 := (x13.trans x14').trans x15'
  have s5 : rb5 l1 h12 = .nx l1 h15 := ifR_ok t5
  -- fewer
  have pe15 : Pen (c + 16) h15 p := pe.same (x15.at' _ pe.lt)
  obtain ⟨f, h16, e16, f1, f2, pe16, k16⟩ := fewer_go (p := p) (l := wipe l1 [7]) rfl rfl r c [] h15 (fun x hx => by have := mem_sum hx; omega) (by simp only [List.length_nil]; omega) (pe15.less (by omega))
  rw [List.nil_append] at e16
  let h17 : H := h16 ++ [.lst (f.map nm)]
  have cm := comp_snap (vs := [7]) (seq_tup (v2 h15) : wSeq (eVar 2) l1 h15 = .ok (.snap (r.map nm)) h15) e16
  have tu : eCall fTuple (aCons (eComp (wSeq (eVar 2)) (gName 7) (tYes) fwE [7]) (aNil)) l1 h15 = .ok (tupR f) h17 := by
    refine (call1_eq cm).trans ?_
    show (match seqOf (.ref h16.length) h17 with
      | some xs => Res.ok (D.tup xs) h17
      | none => .bad) = _
    rw [sqRef (gNew (h := h16))]
    rfl
  let l2 : Loc := [some (.ref p), some (.ref o1), some (tupR r), some (.ref o3), some (.ref o4), some (.ref a5), some (tupR f), w7]
  have s6 : rb6 l1 h15 = .nx l2 h17 := asg_eq tu
  have pe17 : Pen c h17 p := pe16.add _
  have k17 : Kp p h h17 := (exkp p x15).trans (k16.trans (Kp.add p h16 _))
  have M1 : Lim qs h17 o1 := Q1.same (k17.at' _ Q1.lt (pen_no pe Q1))
  have M3 : Lim as h17 o3 := Q3.same (k17.at' _ Q3.lt (pen_no pe Q3))
  have fs : f.sum ≤ 60 := by
    have := f2 16
    rw [came_all f 16 (by omega), came_all r 16 (by omega)] at this
    omega
  have u1 : ∀ h, eVar 1 l2 h = .ok (.ref o1) h := fun _ => var_eq rfl
  have u2 : ∀ h, eVar 2 l2 h = .ok (tupR r) h := fun _ => var_eq rfl
  have u3 : ∀ h, eVar 3 l2 h = .ok (.ref o3) h := fun _ => var_eq rfl
  have u6 : ∀ h, eVar 6 l2 h = .ok (tupR f) h := fun _ => var_eq rfl
  obtain ⟨y1, i1, e18, y18, Y1⟩ := passE ga (l := l2) (h0 := h17) (e1 := eVar 3) (e2 := eVar 6) (by omega) fs M3 u3 (u6 h17)
  have y1l : y1.length ≤ 1300 := by have := Y1.len; omega
  obtain ⟨y2, i2, e19, y19, Y2⟩ := passE ga (l := l2) (h0 := i1) (e1 := eVar 3) (e2 := eVar 2) (by omega) hb (M3.same (y18.at' _ M3.lt)) u3 (u2 i1)
  have y2l : y2.length ≤ 1300 := by have := Y2.len; omega
  obtain ⟨i3, t7, y20⟩ := nb_ok e18 e19 (by omega) (by omega) (fun n => by rw [Y1.cm, Y2.cm]; exact thru_mono ga f2 n)
  have s7 : rb7 l2 h17 = .nx l2 i3 := ifR_ok t7
  have y3 := (y18.trans y19).trans y20
  obtain ⟨y4, i4, e21, y21, Y4⟩ := passE gz (l := l2) (h0 := i3) (e1 := eVar 1) (e2 := eVar 2) (by omega) hb (M1.same (y3.at' _ M1.lt)) u1 (u2 i3)
  have y4l : y4.length ≤ 1300 := by have := Y4.len; omega
  have y5 := y3.trans y21
  obtain ⟨y6, i5, e22, y22, Y6⟩ := passE ga (l := l2) (h0 := i4) (e1 := eVar 3) (e2 := eVar 2) (by omega) hb (M3.same (y5.at' _ M3.lt)) u3 (u2 i4)
  have y6l : y6.length ≤ 1300 := by have := Y6.len; omega
  obtain ⟨i6, t8, y23⟩ := nb_ok e21 e22 (by omega) (by omega) (fun n => by rw [Y4.cm, Y6.cm]; exact thru_less gz ga (fun x hx => (mem x).mpr (.inl hx)) r n)
  have s8 : rb8 l2 i3 = .nx l2 i6 := ifR_ok t8
  have yy := (y5.trans y22).trans y23
  refine ⟨l2, i6, ?_, ⟨_, _, _, rfl⟩, pe17.same (yy.at' _ pe17.lt), k17.trans (exkp p yy)⟩
  exact (seq_eq s1).trans ((seq_eq s2).trans ((seq_eq s3).trans ((seq_eq s4).trans ((seq_eq s5).trans ((seq_eq s6).trans ((seq_eq s7).trans s8))))))
def rowsA : A := aCons (eCall m__law_row (aCons (eVar 0) (aCons (eC (.int 14)) (aNil)))) (aCons (eCall m__law_row (aCons (eVar 0) (aCons (eC (.int 14)) (aNil)))) (aCons (eBin vAdd (eBin vRep (eTup (aCons (eC (.int 0)) (aNil))) (eCall m__law_draw (aCons (eVar 0) (aCons (eC (.int 3)) (aNil))))) (eTup (aCons (eCall m__law_draw (aCons (eVar 0) (aCons (eC (.int 61)) (aNil)))) (aNil)))) (aNil)))
theorem zeros : ∀ u : Nat, (List.replicate u [0]).flatten.length = u ∧ (List.replicate u [0]).flatten.sum = 0
  | 0 => ⟨rfl, rfl⟩
  | u + 1 => by
    rw [List.replicate_succ, List.flatten_cons, List.length_append, List.sum_append, (zeros u).1, (zeros u).2]
    exact ⟨by simp only [List.length_cons, List.length_nil]; omega, rfl⟩
theorem right_ok (ca c p : Nat) (h : H) (pe : Pen (c + 500) h p) : ∃ h', m__law_right ca [.ref p] h = .ok (.bl true) h' ∧ Pen c h' p ∧ Kp p h h' := by
  let l0 : Loc := [some (.ref p), none, none, none, none, none, none, none]
  obtain ⟨as, a3, h1, e1, d1, _, ga, za, pe1, k1⟩ := pairs_ok (c + 475) p 3 ⟨by omega, by omega⟩ h pe
  obtain ⟨o3, h2, e2, Q3, x2⟩ := limits_ok ca ga d1
  have k2 : Kp p h h2 := k1.trans (exkp p x2)
  have pe2 : Pen (c + 475) h2 p := pe1.same (x2.at' _ pe1.lt)
  obtain ⟨bs, a4, h3, e3, d3, _, gb, zb, pe3, k3⟩ := pairs_ok (c + 450) p 3 ⟨by omega, by omega⟩ h2 pe2
  obtain ⟨o4, h4, e4, Q4, x4⟩ := limits_ok ca gb d3
  have k4' : Kp p h2 h4 := k3.trans (exkp p x4)
  have pe4 : Pen (c + 450) h4 p := pe3.same (x4.at' _ pe3.lt)
  have Q3' : Lim as h4 o3 := Q3.same (k4'.at' _ Q3.lt (pen_no pe2 Q3))
  have lz : (both as bs).length ≤ 6 := by
    unfold both
    rw [List.length_append]
    have := List.length_filter_le (fun q => decide (q ∉ as)) bs
    omega
  have gz : Good (both as bs) := good_both ga gb lz
  obtain ⟨o1, h5, e5, Q1, x5⟩ := add_ok ga gb lz Q3' Q4
  have pe5 : Pen (c + 450) h5 p := pe4.same (x5.at' _ pe4.lt)
  have k5 : Kp p h h5 := (k2.trans k4').trans (exkp p x5)
  have Q35 : Lim as h5 o3 := Q3'.same (x5.at' _ Q3'.lt)
  have Q45 : Lim bs h5 o4 := Q4.same (x5.at' _ Q4.lt)
  let l1 : Loc := [some (.ref p), none, none, some (.ref o3), some (.ref o4), none, none, none]
  let l2 : Loc := [some (.ref p), some (.ref o1), none, some (.ref o3), some (.ref o4), none, none, none]
  have lm : ∀ {h h1 h2 : H} {ps : List (Nat × Nat)} {a o : Nat}, m__law_pairs [.ref p, .int (3 : Nat)] h = .ok (.ref a) h1 → m__law_limits ca [.ref a] h1 = .ok (.ref o) h2 → eCall (m__law_limits ca) (aCons (eCall m__law_pairs (aCons (eVar 0) (aCons (eC (.int 3)) (aNil)))) (aNil)) l0 h = .ok (.ref o) h2 := fun {h _ _ _ _ _} a b => (call1_eq ((call2_eq (var_eq (i := 0) (l := l0) rfl) (b := eC (.int 3)) (y := .int (3 : Nat)) (h2 := h) rfl).trans a)).trans b
  have s1 : sPar 3 4 (aCons (eCall (m__law_limits ca) (aCons (eCall m__law_pairs (aCons (eVar 0) (aCons (eC (.int 3)) (aNil)))) (aNil))) (aCons (eCall (m__law_limits ca) (aCons (eCall m__law_pairs (aCons (eVar 0) (aCons (eC (.int 3)) (aNil)))) (aNil))) (aNil))) l0 h = .nx l1 h4 := par_eq (cons_eq (lm (ps := as) e1 e2) (cons_eq (lm (ps := bs) e3 e4) nil_eq))
  have s2 : sAsg (eBin (vAddO (one 0 m_Limits___add__)) (eVar 3) (eVar 4)) (gName 1) l1 h4 = .nx l2 h5 := asg_eq ((bin_eq (var_eq rfl) (var_eq rfl)).trans e5)
  -- the rows
  have v0 : ∀ h, eVar 0 l2 h = .ok (.ref p) h := fun _ => var_eq rfl
  obtain ⟨r1, h6, e6, z1, b1, pe6, k6⟩ := row_ok (c + 350) p 14 (by omega) h5 pe5
  obtain ⟨r2, h7, e7, z2, b2, pe7, k7⟩ := row_ok (c + 250) p 14 (by omega) h6 pe6
  obtain ⟨u, t1, hu, e8, pe8⟩ := draw1 (c + 249) p 3 (l := l2) (h := h7) rfl (e := eC (.int 3)) (h1 := h7) rfl (by omega) (by omega) (pe7.less (by omega))
  let h8 : H := h7.set p t1
  obtain ⟨w, t2, hw, e9, pe9⟩ := draw1 (c + 248) p 61 (l := l2) (h := h8) rfl (e := eC (.int 61)) (h1 := h8) rfl (by omega) (by omega) (pe8.less (by omega))
  let h9 : H := h8.set p t2
  let r3 : List Nat := (List.replicate u [0]).flatten ++ [w]
  have z3 : r3.length ≤ 14 := by
    show ((List.replicate u [0]).flatten ++ [w]).length ≤ 14
    rw [List.length_append, (zeros u).1]
    simp only [List.length_cons, List.length_nil]
    omega
  have b3 : r3.sum ≤ 60 := by
    show ((List.replicate u [0]).flatten ++ [w]).sum ≤ 60
    rw [List.sum_append, (zeros u).2]
    simp only [List.sum_cons, List.sum_nil]
    omega
  have one0 : ∀ h, eTup (aCons (eC (.int 0)) (aNil)) l2 h = .ok (tupR [0]) h := fun h => tup_eq (xs := [nm 0]) (cons_eq (h1 := h) rfl nil_eq) (by unfold LIM; simp)
  have er3 : eBin vAdd (eBin vRep (eTup (aCons (eC (.int 0)) (aNil))) (eCall m__law_draw (aCons (eVar 0) (aCons (eC (.int 3)) (aNil))))) (eTup (aCons (eCall m__law_draw (aCons (eVar 0) (aCons (eC (.int 61)) (aNil)))) (aNil))) l2 h7 = .ok (tupR r3) h9 := by
    have a := (bin_eq (f := vRep) (one0 h7) e8).trans (rep_ok (xs := [0]) (k := u) (h := h8) (by simp) (by simp) (by omega) (by unfold LIM; simp only [List.length_cons, List.length_nil]; omega))
    have b : eTup (aCons (eCall m__law_draw (aCons (eVar 0) (aCons (eC (.int 61)) (aNil)))) (aNil)) l2 h8 = .ok (tupR [w]) h9 := tup_eq (xs := [nm w]) (cons_eq e9 nil_eq) (by unfold LIM; simp)
    refine (bin_eq a b).trans (tup_add ?_)
    have := z3
    simp only [r3, List.length_append] at this
    unfold LIM
    omega
  let rs : List D := [tupR r1, tupR r2, tupR r3]
  have rowE : ∀ {h h' : H} {r : List Nat}, m__law_row [.ref p, .int (14 : Nat)] h = .ok (tupR r) h' → eCall m__law_row (aCons (eVar 0) (aCons (eC (.int 14)) (aNil))) l2 h = .ok (tupR r) h' := fun {h _ _} a => (call2_eq (v0 h) (b := eC (.int 14)) (y := .int (14 : Nat)) (h2 := h) rfl).trans a
  have el := lst_eq (xs := rs) (cons_eq (rowE e6) (cons_eq (rowE e7) (cons_eq er3 nil_eq))) (by unfold LIM; simp [rs])
  let h10 : H := h9 ++ [.lst rs]
  have pe10 : Pen (c + 48) h10 p := (pe9.add _).less (by omega)
  have k10' : Kp p h5 h10 := ((k6.trans k7).trans ((Kp.set p h7 t1).trans (Kp.set p h8 t2))).trans (Kp.add p h9 _)
  have k10 : Kp p h h10 := k5.trans k10'
  have oks : ∀ d ∈ rs, ∃ r : List Nat, d = tupR r ∧ r.length ≤ 16 ∧ r.sum ≤ 60 := fun d hd => by
    simp only [rs, List.mem_cons, List.not_mem_nil, or_false] at hd
    rcases hd with rfl | rfl | rfl
    · exact ⟨r1, rfl, by omega, b1⟩
    · exact ⟨r2, rfl, by omega, b2⟩
    · exact ⟨r3, rfl, by omega, b3⟩
  have nP : h9.length ≠ p := by have : p < h9.length := pe9.lt; omega
  let I : Nat → Loc → H → Prop := fun i l h' => (∃ w2 w5 w6 w7, l = [some (.ref p), some (.ref o1), w2, some (.ref o3), some (.ref o4), w5, w6, w7]) ∧ Pen (c + 16 * (3 - i)) h' p ∧ Kp p h10 h'
  obtain ⟨l3, h11, e11, ⟨⟨w2, w5, w6, w7, el3⟩, pe11, k11⟩⟩ := loopL_all (g := gName 2) (b := jbody) (n := h9.length) (xs := rs) I (fun i l h' ⟨_, _, kk⟩ => by
    rw [kk.at' _ (by simp [h10]) nP]
    exact gNew) (fun i d l h' ⟨⟨w2, w5, w6, w7, ell⟩, pe', kk⟩ ed => by
    subst ell
    have hi : i < 3 := (List.getElem?_eq_some_iff.mp ed).1
    obtain ⟨r, rfl, rz, rb⟩ := oks d (List.mem_of_getElem? ed)
    have k' : Kp p h5 h' := k10'.trans kk
    have ML : ∀ {ps o}, Lim ps h5 o → Lim ps h' o := fun q => q.same (k'.at' _ q.lt (pen_no pe5 q))
    obtain ⟨l', h'', e', el', pe'', k''⟩ := jstep (c + 16 * (3 - (i + 1))) p o1 o3 o4 gz ga gb (both_mem as bs) rz rb (ML Q1) (ML Q35) (ML Q45) (pe'.less (by omega)) w5 w6 w7
    obtain ⟨u5, u6, u7, rfl⟩ := el'
    exact ⟨_, h'', e', ⟨_, _, _, _, rfl⟩, pe'', kk.trans k''⟩) (rs.length + 1) 0 l2 h10 (by omega) (by omega) ⟨⟨_, _, _, _, rfl⟩, pe10, Kp.refl p h10⟩
  subst el3
  have s3 : sFor (wSeq (eLst rowsA)) (gName 2) jbody l2 h5 = .nx [some (.ref p), some (.ref o1), w2, some (.ref o3), some (.ref o4), w5, w6, w7] h11 := (for_live (seq_live el (gNew (h := h9)))).trans (by rw [lenAt_eq (gNew (h := h9) (t := .lst rs))]; exact e11)
  refine ⟨h11, ?_, pe11.less (by omega), k10.trans k11⟩
  exact fn_rt (n := 8) (kk := 1) (xs := [.ref p]) rfl ((seq_eq s1).trans ((seq_eq s2).trans ((seq_eq s3).trans rfl)))
theorem law_ok (ca : Nat) (ns : List Int) : ∃ h', m_law ca [.scr ns] [] = .ok (.bl true) h' := by
  let l0 : Loc := [some (.scr ns), none, none, none]
  let J : List D → Loc → H → Prop := fun ds l h => (∃ v1 v2 v3, l = [some (.scr ns), v1, v2, v3]) ∧ ∀ d ∈ ds, ∃ k : Nat, d = .int (k : Nat)
  let body : S := sSeq (sAsg (eCall m__law_pen (aCons (eCall m__law_cell (aCons (eVar 0) (aCons (eVar 1) (aNil)))) (aNil))) (gName 2)) (sFor (wRng1 (aCons (eC (.int 3)) (aNil))) (gName 3) (sIf (tNot (tTruth (eCall (m__law_right ca) (aCons (eVar 2) (aNil))))) (sRet (eC (.bl false))) (sNext)))
  have step : ∀ d ds l h, J (d :: ds) l h → ∃ l' h', turnS (gName 1) body d l h = .nx l' h' ∧ J ds l' h' := fun d ds l h ⟨⟨v1, v2, v3, el⟩, hd⟩ => by
    subst el
    obtain ⟨k, rfl⟩ := hd d List.mem_cons_self
    let l1 : Loc := [some (.scr ns), some (.int (k : Nat)), v2, v3]
    obtain ⟨t, e1, q1⟩ := pen (ns.getD k 0) h
    let h1 : H := h ++ [t]
    have s1 := asg_eq (i := 2) ((call1_eq ((call2_eq (var_eq (i := 0) (l := l1) rfl) (var_eq (i := 1) (l := l1) rfl)).trans (cell_at ns k h))).trans e1)
    let l2 : Loc := [some (.scr ns), some (.int (k : Nat)), some (.ref h.length), v3]
    let K : List D → Loc → H → Prop := fun ds l h' => (∃ v3, l = [some (.scr ns), some (.int (k : Nat)), some (.ref h.length), v3]) ∧ Pen (0 + 1000 * ds.length) h' h.length
    obtain ⟨l3, h3, e3, ⟨u3, el3⟩, q3⟩ := loopS_all (g := gName 3) (b := sIf (tNot (tTruth (eCall (m__law_right ca) (aCons (eVar 2) (aNil))))) (sRet (eC (.bl false))) (sNext)) K (fun d ds l h' ⟨⟨v3, el⟩, q⟩ => by
      subst el
      rw [List.length_cons] at q
      obtain ⟨h4, e4, q4, _⟩ := right_ok ca (0 + 1000 * ds.length) h.length h' (q.less (by omega))
      exact ⟨_, h4, (if_f (tnot_eq (ttruth_eq ((call1_eq (var_eq (i := 2) (l := [some (.scr ns), some (.int (k : Nat)), some (.ref h.length), some d]) rfl)).trans e4) rfl))).trans rfl, ⟨_, rfl⟩, q4⟩) (rng 0 3) l2 h1 ⟨⟨_, rfl⟩, q1.less (by rw [rng_len]; simp)⟩
    subst el3
    have f3 := (for_snap (g := gName 3) (s := sIf (tNot (tTruth (eCall (m__law_right ca) (aCons (eVar 2) (aNil))))) (sRet (eC (.bl false))) (sNext)) (rng1_eq (a := eC (.int 3)) (l := l2) (h := h1) (j := 3) rfl (by unfold LIM; omega))).trans e3
    exact ⟨_, h3, (seq_eq s1).trans f3, ⟨_, _, _, rfl⟩, fun d hd' => hd d (List.mem_cons_of_mem _ hd')⟩
  let n : Nat := max 1 (min ns.length 3)
  obtain ⟨l1, h1, e1, _⟩ := loopS_all (g := gName 1) (b := body) J step (rng 0 (n : Int)) l0 [] ⟨⟨_, _, _, rfl⟩, fun d hd => by
    rw [rng_nat] at hd
    obtain ⟨k, _, rfl⟩ := List.mem_map.mp hd
    exact ⟨k, rfl⟩⟩
  have ln : eCall fLen (aCons (eVar 0) (aNil)) l0 [] = .ok (.int (ns.length : Nat)) [] := (call1_eq (var_eq rfl)).trans ((len_of (xs := ns.map .int) rfl).trans (by rw [List.length_map]))
  have mx : eCall fMax (aCons (eC (.int 1)) (aCons (eCall fMin (aCons (eCall fLen (aCons (eVar 0) (aNil))) (aCons (eC (.int 3)) (aNil)))) (aNil))) l0 [] = .ok (.int (n : Int)) [] := by
    refine (call2_eq (a := eC (.int 1)) (h1 := []) rfl ((call2_eq ln (b := eC (.int 3)) (h2 := []) rfl).trans (minInt _ _ _))).trans ?_
    show fMax [nm 1, .int (min ((ns.length : Nat) : Int) 3)] [] = _
    rw [show min ((ns.length : Nat) : Int) 3 = ((min ns.length 3 : Nat) : Int) by omega]
    exact max_nm 1 _ _
  have f := (for_snap (g := gName 1) (s := body) (rng1_eq mx (by have : n ≤ 3 := by { show max 1 (min _ 3) ≤ 3; omega }; unfold LIM; omega))).trans e1
  exact ⟨h1, fn_rt (s := sSeq _ _) rfl ((seq_eq f).trans rfl)⟩
end GT

end

set_option maxRecDepth 100000 in
theorem PySem.Challenge.cw_burstlimits_k45_whole_gates_one_behind_t_holds : PySem.Challenge.rw_burstlimits_k45_whole_gates_one_behind_t.Holds := by
  exact holds_of fun ca ns _ => GT.law_ok ca ns
