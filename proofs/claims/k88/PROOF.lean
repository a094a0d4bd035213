import PyProof.Rows.All
import Wide.All
import OpenK.AllK
import Wide.FinOn
import KE.GoesEnum
import HandS.ForMost
import HandS.Walk
import HandS.Codes
import HandS.IsInst
import HandS.SortInts
import HandS.Strs
import HandS.SetFor
import HandS.Property
import HandS.TupMul
import HandS.TupAny
import HandS.Style
import HandS.Lambda
import HandS.Words
import HandS.Dict
import KE.KDictKeyed
import KE.KDictWalk
import HandS.Deep
import KE.DataEq
import HandS.Zip
import HandS.Zip0
import PyProof.ZipIter
import HandS.Rev
import HandS.EndTab
import HandS.Gcd
import HandS.Exc
import HandS.ExcOwn
import HandS.TryOnly
import HandS.WordsExc
import HandS.Conv
import HandS.Star
import HandS.Iter
import HandS.DictComp
import KE.KDictList
import PyProof.Rows.TupDisplay
import KE.KDictCopyH
import KE.KDictSum
import PyProof.DictTruth
import HandS.SortRule
import KE.DataMinMax
import KE.DataFind
import PyProof.MeetsIn
import KE.KRevSl
import KE.KDictOf
import HandS.ExcInit
import HandS.FStr
import HandS.Nested
import KE.KExcSuper
import KE.KSuperObj
import PyProof.FString2
import PyProof.FitsInt
import PySem.Challenge.RW_routeweb_k88_whole_visits
import KE.SortData
import HandS.DictTup
import HandS.ExcValue
import HandS.SortKw
import KE.SortKeyHeap
import HandS.ExcField
import HandS.ExcIs
import KE.KExcIs
import KE.GoesEnumKw
import PyProof.Rows.CallKwBuiltin
import HandS.OwnEq
import KE.KMinKey
set_option Elab.async false
set_option linter.all false
set_option maxRecDepth 100000
set_option maxHeartbeats 8000000
/-! what stays, data, rules of our own -/
namespace Rw
open PySem PySem.Spec PyProof.Rows L2
/-! ### what stays -/
/-- an object that nobody changes -/
def Fixed : HO → Prop
  | .tup _ => True
  | .frz _ _ => True
  | .ins _ _ _ => True
  | _ => False
def Stay (H H' : Hp) : Prop := ∀ a o, Fixed o → H a = some o → H' a = some o
theorem Stay.refl (H : Hp) : Stay H H := fun _ _ _ h => h
theorem Stay.trans {H H1 H2 : Hp} (p : Stay H H1) (q : Stay H1 H2) : Stay H H2 := fun a o f h => q a o f (p a o f h)
theorem Stay.new {H : Hp} {p : Addr} {o : HO} (h : H p = none) : Stay H (upd H p o) := fun a u _ e => by
  rw [upd_ne (ne_of_none e h)]
  exact e
theorem Stay.put {H : Hp} {p : Addr} {u o : HO} (h : H p = some u) (n : ¬ Fixed u) : Stay H (upd H p o) := fun a v f e => by
  have : a ≠ p := fun z => by
    rw [z, h] at e
    cases e
    exact n f
  rw [upd_ne this]
  exact e
theorem Same.new {H : Hp} {p : Addr} {o : HO} (h : H p = none) : Same H (upd H p o) := fun a u e => by
  rw [upd_ne (ne_of_none e h)]
  exact e
/-- all but what stands at r -/
def Ext (r : Addr) (H H' : Hp) : Prop := ∀ a o, a ≠ r → H a = some o → H' a = some o
theorem Ext.refl (r : Addr) (H : Hp) : Ext r H H := fun _ _ _ h => h
theorem Ext.trans {r : Addr} {H H1 H2 : Hp} (p : Ext r H H1) (q : Ext r H1 H2) : Ext r H H2 := fun a o n h => q a o n (p a o n h)
theorem Ext.put {r : Addr} {H : Hp} {o : HO} : Ext r H (upd H r o) := fun a u n e => by
  rw [upd_ne n]
  exact e
theorem Ext.free {r p : Addr} {H H' : Hp} (x : Ext r H H') (n : p ≠ r) (h : H' p = none) : H p = none := by
  cases q : H p with
  | none => rfl
  | some o =>
    rw [x p o n q] at h
    cases h
/-! ### data -/
theorem DpAll.length {K : PySem.W.Frag} {H : Hp} : ∀ {vs : List V} {ds : List PyData}, DpAll K H vs ds → vs.length = ds.length
  | _, _, .nil => rfl
  | _, _, .cons _ k => by rw [List.length_cons, List.length_cons, DpAll.length k]
theorem DpAll.get {K : PySem.W.Frag} {H : Hp} : ∀ {vs : List V} {ds : List PyData} {i : Nat} {d : PyData}, DpAll K H vs ds → ds[i]? = some d → ∃ v, vs[i]? = some v ∧ Dp K H v d
  | _, _, _, _, .nil, e => by simp at e
  | _, _, 0, _, .cons h _, e => by simp at e; subst e; exact ⟨_, rfl, h⟩
  | _, _, i + 1, _, .cons _ k, e => by
    obtain ⟨v, e1, e2⟩ := DpAll.get (i := i) k (by simpa using e)
    exact ⟨v, by simpa using e1, e2⟩
theorem DpAll.getV {K : PySem.W.Frag} {H : Hp} : ∀ {vs : List V} {ds : List PyData} {i : Nat} {v : V}, DpAll K H vs ds → vs[i]? = some v → ∃ d, ds[i]? = some d ∧ Dp K H v d
  | _, _, _, _, .nil, e => by simp at e
  | _, _, 0, _, .cons h _, e => by simp at e; subst e; exact ⟨_, rfl, h⟩
  | _, _, i + 1, _, .cons _ k, e => by
    obtain ⟨d, e1, e2⟩ := DpAll.getV (i := i) k (by simpa using e)
    exact ⟨d, by simpa using e1, e2⟩
theorem DpAll.app {K : PySem.W.Frag} {H : Hp} : ∀ {vs ws : List V} {ds es : List PyData}, DpAll K H vs ds → DpAll K H ws es → DpAll K H (vs ++ ws) (ds ++ es)
  | _, _, _, _, .nil, q => q
  | _, _, _, _, .cons h k, q => .cons h (DpAll.app k q)
theorem Dp.tupE {K : PySem.W.Frag} {H : Hp} {v : V} {ds : List PyData} (h : Dp K H v (.tuple ds)) : ∃ a xs, v = .ref a ∧ SqT K H a xs ∧ DpAll K H xs ds := by
  cases h with
  | tup h k => exact ⟨_, _, rfl, h, k⟩
theorem Dp.lstE {K : PySem.W.Frag} {H : Hp} {v : V} {ds : List PyData} (h : Dp K H v (.list ds)) : ∃ a xs, v = .ref a ∧ SqL K H a xs ∧ DpAll K H xs ds := by
  cases h with
  | lst h k => exact ⟨_, _, rfl, h, k⟩
/-! ### isinstance -/
/-! ### the checks' answers -/
/-! ### readings, opened -/
theorem ex_bl {b : Bool} {p : Bool → Prop} : (∃ c, V.bl b = V.bl c ∧ p c) ↔ p b := ⟨fun ⟨_, e, h⟩ => by cases e; exact h, fun h => ⟨b, rfl, h⟩⟩
/-! ### comprehensions whose elements are data, nothing else changes -/
section
variable {K : PySem.W.Frag} {J : It} {n : Nat} {G : Hp → Prop} {Y : Nat → Hp → V → Hp → Prop} {g : TG} {tt : TT} {te : TE} {vs : List Nat} {σ : L2.St} {H : Hp} {Q : VK}
theorem DpAll.snoc {H : Hp} {acc : List V} {ds : List PyData} {k : Nat} {v : V} {d : PyData} (h : DpAll K H acc (ds.take k)) (e : ds[k]? = some d) (hv : Dp K H v d) : DpAll K H (acc ++ [v]) (ds.take (k + 1)) := by
  rw [List.take_succ, e]
  exact DpAll.app h (.cons hv .nil)
end
def small : PyData → Prop
  | .tuple ds => ds.length ≤ 4000
  | .list ds => ds.length ≤ 4000
  | _ => True
/-! ### the rules, the written part told by name (so that a reading does not hang on the block's context) -/
end Rw
/-! a lambda with parameters that captures nothing: made, handed on, called -/
namespace Rw
open PySem PySem.Spec PyProof.Rows L2
open LamX (Tabs TabS TabB ExtN CodeO codeO_ne inv_table among_app)
/-- the object of the lambda at f is o -/
def LamO (f : Addr) (o : Obj) : HO := .ext fun h => h.get? f = some o
end Rw
/-! data without addresses, what a heap holds of it, states -/
namespace Fx
open PySem PySem.Spec PyProof.Rows L2
open LamX (Tabs TabS TabB ExtN CodeO codeO_ne)
/-- a value without the heap -/
inductive D where
  | non | bl (b : Bool) | int (i : Int) | str (s : Str) | ty (n : String)
  | tup (ds : List D) | lst (ds : List D) | ins (c : String) (ds : List D) | dct (ks vs : List D) | dcq (ks vs : List D) | scr (ns : List Int) | fn (k : Nat) | xo (a : Addr) (o : Unit → HO) | exc | rng (lo hi : Int) | fu
/-- what a name holds: a value that stays, or a cell that this def alone may change (b: its place, where it is an argument's) -/
inductive S where
  | d (x : D) | o (b : Option Nat) (x : D)
  /-- a dict whose values are lists that this def alone may change -/
  | q (ks : List D) (dss : List (List D))
structure Err where
  cls : String
  fs : List D
abbrev En := List (Option S)
inductive Out (α : Type) where
  | ok (a : α) (ρ : En) | err (e : Err) (ρ : En) | stuck
def M (α : Type) := En → Out α
def Out.then {α β : Type} : Out α → (α → En → Out β) → Out β
  | .ok a ρ, f => f a ρ
  | .err e ρ, _ => .err e ρ
  | .stuck, _ => .stuck
@[reducible] def M.bind {α β : Type} (m : M α) (f : α → M β) : M β := fun ρ => (m ρ).then f
instance : Monad M where
  pure a := fun ρ => .ok a ρ
  bind := M.bind
/-- a lambda of the text: its full name, its parameters, body and scope -/
structure LamS where
  q : Str
  params : Arguments
  body : Expr
  scope : Scope
/-- the exception that a suite holds: its place, its dict, the fields -/
structure ExcI where
  a : Addr
  d : Option Addr
  fs : List (Str × V)
/-- what a law's context knows: the written part, the classes, their fields, the tables of code objects -/
structure Cfg where
  K : PySem.W.Frag
  cls : String → Addr
  flds : String → List Str
  T : List (Addr × Str)
  err : Err → Value → Option Addr → Hp → Prop
  fns : Nat → LamS
  w : World
  exc : Option ExcI
  kn : Hp
/-- a tuple of numbers alone -/
def isIntD : D → Bool
  | .int _ => true
  | _ => false
def pairy : D → Bool
  | .tup ds => ds.all isIntD
  | _ => false
/-- tuples of numbers, one at least: such a tuple is known to carry no attributes, so its methods can be called -/
def fullT : D → Bool
  | .tup (_ :: _) => true
  | _ => false
def arcy : List D → Bool
  | [] => false
  | d :: ds => pairy d && ds.all pairy && (d :: ds).any fullT
/-- a tuple's object that carries no attributes -/
def SqN (G : Hp) (a : Addr) (vs : List V) : Prop := ∃ o : Obj, G a = some (.frz o (.tup vs)) ∧ o.dict = none
/-- the key of a datum -/
def keyD : Key → D
  | .inl i => .int i
  | .inr x => .str x
mutual
def nkD : D → Option NestedKey
  | .non => some .none
  | .int i => some (.num i)
  | .str x => some (.text x)
  | .tup ds => match nkDs ds with
    | some ks => some (.tup ks)
    | none => none
  | .bl _ => none
  | .ty _ => none
  | .lst _ => none
  | .ins _ _ => none
  | .dct _ _ => none
  | .dcq _ _ => none
  | .scr _ => none
  | .fn _ => none
  | .xo _ _ => none
  | .exc => none
  | .rng _ _ => none
  | .fu => none
def nkDs : List D → Option (List NestedKey)
  | [] => some []
  | d :: ds => match nkD d, nkDs ds with
    | some k, some ks => some (k :: ks)
    | _, _ => none
end
/-- a dict whose object is known -/
def xdO (a : Addr) (o : Obj) : HO := .ext fun h => h.get? a = some o
def MixObj (w : World) (o : Obj) (kvs : List (Key × Value)) : Prop := ∀ (P : Program) (h : Heap) (a : Addr), h.get? a = some o → h.DictOf (mixKind P w) a kvs
def NkObj (w : World) (o : Obj) (xs : List (NestedKey × Addr × Value)) : Prop := ∀ (P : Program) (h : Heap) (a : Addr), h.get? a = some o → (∀ x ∈ xs, (nestedKind P w).is h x.1 x.2.1) → h.DictOfH (nestedKind P w) a xs
/-- the object o is a dict with the keys ks: ints and texts, or tuples; kv, us: its keys and values -/
inductive DcO (w : World) (a : Addr) (o : Obj) : List D → List V → List V → Prop
  | mix {kvs : List (Key × Value)} {us : List V} : (a == sysModules) = false → o.ExactDict → (∃ es ep, o.data = .dict es ep) → MixObj w o kvs → kvs.length ≤ sizeLine → Vals us (kvs.map (·.2)) → DcO w a o (kvs.map fun p => keyD p.1) (kvs.map fun p => kV p.1) us
  | nk {xs : List (NestedKey × Addr × Value)} {us : List V} {ks : List D} : (a == sysModules) = false → o.ExactDict → (∃ es ep, o.data = .dict es ep) → NkObj w o xs → xs.length ≤ sizeLine → Vals us (xs.map (·.2.2)) → ks.map nkD = xs.map (fun x => some x.1) → (∀ x ∈ xs, x.1.depth ≤ 8) → DcO w a o ks (xs.map fun x => V.ref x.2.1) us
mutual
inductive Rp (c : Cfg) (G : Hp) : V → D → Prop
  | non : Rp c G .non .non
  | bl (b : Bool) : Rp c G (.bl b) (.bl b)
  | int (i : Int) : Rp c G (.int i) (.int i)
  | str (s : Str) : Rp c G (.str s) (.str s)
  | ty (n : String) : Rp c G (.ty n) (.ty n)
  | tup {a : Addr} {vs : List V} {ds : List D} : SqT c.K G a vs → RpAll c G vs ds → (arcy ds = true → SqN G a vs) → Rp c G (.ref a) (.tup ds)
  | lst {a : Addr} {vs : List V} {ds : List D} : G a = some (.lst vs) → RpAll c G vs ds → Rp c G (.ref a) (.lst ds)
  | scr {a : Addr} {ns : List Int} : SqL c.K G a (ns.map V.int) → Rp c G (.ref a) (.scr ns)
  | ins {a dx : Addr} {n : String} {fs : List (Str × V)} {ds : List D} : G a = some (.ins (c.cls n) dx fs) → fs.map (·.1) = (c.flds n).take ds.length → RpAll c G (fs.map (·.2)) ds → Rp c G (.ref a) (.ins n ds)
  | dct {a : Addr} {kvs : List (Key × V)} {vs : List D} : G a = some (.dK kvs) → RpAll c G (kvs.map (·.2)) vs → Rp c G (.ref a) (.dcq (kvs.map fun p => keyD p.1) vs)
  | dcx {a : Addr} {o : Obj} {kv us : List V} {ks ds : List D} : G a = some (xdO a o) → DcO c.w a o ks kv us → RpAll c G kv ks → RpAll c G us ds → Rp c G (.ref a) (.dct ks ds)
  | xo {a : Addr} {o : Unit → HO} : G a = some (o ()) → Rp c G (.ref a) (.xo a o)
  | exc {x : ExcI} : c.exc = some x → (∀ dd, x.d = some dd → G dd = some (.xd x.fs)) → (∀ a o, c.kn a = some o → G a = some o) → Rp c G (.ref x.a) .exc
  | rng {a : Addr} {lo hi : Int} : G a = some (.rng lo hi) → Rp c G (.ref a) (.rng lo hi)
  | fu {a : Addr} {u : HO} : G a = some u → Rp c G (.ref a) .fu
  | fn {f c' : Addr} {k : Nat} {pm ctv : Value} : G f = some (Rw.LamO f (PySem.W.kla_obj "<lambda>" (c.fns k).q (c.fns k).params (c.fns k).body (c.fns k).scope [] pm c' ctv)) → G c' = some (CodeO c' (c.fns k).q) → Rp c G (.ref f) (.fn k)
inductive RpAll (c : Cfg) (G : Hp) : List V → List D → Prop
  | nil : RpAll c G [] []
  | cons {v : V} {d : D} {vs : List V} {ds : List D} : Rp c G v d → RpAll c G vs ds → RpAll c G (v :: vs) (d :: ds)
end
/-- a cell that is no table and no code object is written -/
inductive isCell : HO → Prop
  | lst (xs : List V) : isCell (.lst xs)
  | ins (C dx : Addr) (fs : List (Str × V)) : isCell (.ins C dx fs)
  | dK (kvs : List (Key × V)) : isCell (.dK kvs)
  | xd (a : Addr) (o : Obj) (es : Array DictEntry) (ep : Nat) : o.data = .dict es ep → isCell (xdO a o)
  | frz (o : Obj) (vs : List V) : isCell (.frz o (.tup vs))
/-- what stands at a changing cell -/
def Cell (c : Cfg) (G H : Hp) (a : Addr) : D → Prop
  | .lst ds => ∃ vs, H a = some (.lst vs) ∧ RpAll c G vs ds
  | .ins n ds => ∃ dx fs, H a = some (.ins (c.cls n) dx fs) ∧ fs.map (·.1) = (c.flds n).take ds.length ∧ RpAll c G (fs.map (·.2)) ds
  | .dct ks ds => ∃ o kv us, H a = some (xdO a o) ∧ DcO c.w a o ks kv us ∧ RpAll c G kv ks ∧ RpAll c G us ds
  | .xo b o => b = a ∧ H a = some (o ()) ∧ isCell (o ())
  | .tup ds => ∃ vs o, H a = some (.frz o (.tup vs)) ∧ o.dict = none ∧ RpAll c G vs ds
  | _ => False
abbrev Owns := List Addr
/-- lists that may be changed, at their places -/
inductive LsAll (c : Cfg) (G H : Hp) : List Addr → List (List D) → Prop
  | nil : LsAll c G H [] []
  | cons {b : Addr} {us : List V} {ds : List D} {bs : List Addr} {dss : List (List D)} : H b = some (.lst us) → RpAll c G us ds → LsAll c G H bs dss → LsAll c G H (b :: bs) (ds :: dss)
/-- where the cells of a def's arguments stand; what stays whatever a def does -/
structure Base where
  at_ : Nat → Option Addr
  pin : Hp
/-- a dict of such lists at a; os: all that is owned -/
def QDct (c : Cfg) (G H : Hp) (a : Addr) (ks : List D) (dss : List (List D)) (os : Owns) : Prop :=
  ∃ (kvs : List (Key × V)) (bs : List Addr), os = a :: bs ∧ H a = some (.dK kvs) ∧ ks = kvs.map (fun p => keyD p.1) ∧ kvs.map (·.2) = bs.map V.ref ∧ LsAll c G H bs dss
def plD : Option Nat → D
  | none => .tup []
  | some j => .tup [.int j]
/-- an instance whose last field is a dict that is owned too -/
def QIns (c : Cfg) (B : Base) (G H : Hp) (a : Addr) (ks : List D) (dss : List (List D)) (os : Owns) : Prop :=
  ∃ (n : String) (ds : List D) (p : Option Nat) (dk dv : List D) (dx : Addr) (fs : List (Str × V)) (b : Addr) (o : Obj) (kv us vs : List V), ks = [.ins n ds, plD p] ∧ dss = [dk, dv] ∧ os = [a, b] ∧ H a = some (.ins (c.cls n) dx fs) ∧ fs.map (·.1) = (c.flds n).take (ds.length + 1) ∧ fs.map (·.2) = vs ++ [V.ref b] ∧ RpAll c G vs ds ∧ H b = some (xdO b o) ∧ DcO c.w b o dk kv us ∧ RpAll c G kv dk ∧ RpAll c G us dv ∧ ∀ j : Nat, p = some j → B.at_ j = some a
/-- a dict of such lists whose object is known: keys of any kind -/
def QDcx (c : Cfg) (G H : Hp) (a : Addr) (ks : List D) (dss : List (List D)) (os : Owns) : Prop :=
  ∃ (ks' : List D) (o : Obj) (kv : List V) (bs : List Addr), ks = [.tup ks'] ∧ os = a :: bs ∧ H a = some (xdO a o) ∧ DcO c.w a o ks' kv (bs.map V.ref) ∧ RpAll c G kv ks' ∧ LsAll c G H bs dss
def QCell (c : Cfg) (B : Base) (G H : Hp) (a : Addr) (ks : List D) (dss : List (List D)) (os : Owns) : Prop := QDct c G H a ks dss os ∨ QIns c B G H a ks dss os ∨ QDcx c G H a ks dss os
inductive Sl (c : Cfg) (B : Base) (G H : Hp) : En → List (Option V) → Owns → Prop
  | nil : Sl c B G H [] [] []
  | skip {v : Option V} {es : En} {vs : List (Option V)} {own : Owns} : Sl c B G H es vs own → Sl c B G H (none :: es) (v :: vs) own
  | d {v : V} {x : D} {es : En} {vs : List (Option V)} {own : Owns} : Rp c G v x → Sl c B G H es vs own → Sl c B G H (some (.d x) :: es) (some v :: vs) own
  | o {a : Addr} {b : Option Nat} {x : D} {es : En} {vs : List (Option V)} {own : Owns} : Cell c G H a x → (∀ p, b = some p → B.at_ p = some a) → Sl c B G H es vs own → Sl c B G H (some (.o b x) :: es) (some (.ref a) :: vs) (a :: own)
  | q {a : Addr} {ks : List D} {dss : List (List D)} {es : En} {vs : List (Option V)} {os own : Owns} : QCell c B G H a ks dss os → Sl c B G H es vs own → Sl c B G H (some (.q ks dss) :: es) (some (.ref a) :: vs) (os ++ own)
def isTbl : HO → Bool
  | .tbl _ => true
  | _ => false
structure OkB (c : Cfg) (B : Base) (G H : Hp) (own : Owns) : Prop where
  sub : ∀ a o, G a = some o → H a = some o
  notbl : ∀ a o, G a = some o → isTbl o = false
  nd : own.Nodup
  out : ∀ p ∈ own, G p = none ∧ H p ≠ none
  tabs : Tabs c.T H
  pint : ∀ a o, B.pin a = some o → isTbl o = false
  pin : ∀ a o, B.pin a = some o → H a = some o ∧ a ∉ own
def Rep (c : Cfg) (B : Base) (ts : En) (vs : List (Option V)) (ρ : En) (σ : L2.St) (H : Hp) : Prop :=
  ∃ G o1 o2, OkB c B G H (o1 ++ o2) ∧ Sl c B G H ts vs o1 ∧ Sl c B G H ρ σ o2
section
variable {c : Cfg} {B : Base} {G G' H H' : Hp}
mutual
theorem Rp.mono (s : ∀ a o, G a = some o → G' a = some o) : ∀ {v : V} {d : D}, Rp c G v d → Rp c G' v d
  | _, _, .non => .non
  | _, _, .bl b => .bl b
  | _, _, .int i => .int i
  | _, _, .str x => .str x
  | _, _, .ty n => .ty n
  | _, _, .tup h k n => .tup (by
      rcases h with (h | ⟨o, h⟩) | h
      · exact .inl (.inl (s _ _ h))
      · exact .inl (.inr ⟨o, s _ _ h⟩)
      · exact .inr h) (RpAll.mono s k) (fun e => let ⟨o, h1, h2⟩ := n e; ⟨o, s _ _ h1, h2⟩)
  | _, _, .lst h k => .lst (s _ _ h) (RpAll.mono s k)
  | _, _, .scr h => .scr (Same.seq s h)
  | _, _, .ins h n k => .ins (s _ _ h) n (RpAll.mono s k)
  | _, _, .dct h k => .dct (s _ _ h) (RpAll.mono s k)
  | _, _, .dcx h o k1 k2 => .dcx (s _ _ h) o (RpAll.mono s k1) (RpAll.mono s k2)
  | _, _, .xo h => .xo (s _ _ h)
  | _, _, .exc h k n => .exc h (fun dd e => s _ _ (k dd e)) fun a o e => s _ _ (n a o e)
  | _, _, .rng h => .rng (s _ _ h)
  | _, _, .fu h => .fu (s _ _ h)
  | _, _, .fn h k => .fn (s _ _ h) (s _ _ k)
termination_by structural _ _ h => h
theorem RpAll.mono (s : ∀ a o, G a = some o → G' a = some o) : ∀ {vs : List V} {ds : List D}, RpAll c G vs ds → RpAll c G' vs ds
  | _, _, .nil => .nil
  | _, _, .cons h k => .cons (Rp.mono s h) (RpAll.mono s k)
termination_by structural _ _ h => h
end
theorem RpAll.length : ∀ {vs : List V} {ds : List D}, RpAll c G vs ds → vs.length = ds.length
  | _, _, .nil => rfl
  | _, _, .cons _ k => by rw [List.length_cons, List.length_cons, RpAll.length k]
theorem RpAll.get : ∀ {vs : List V} {ds : List D} {i : Nat} {d : D}, RpAll c G vs ds → ds[i]? = some d → ∃ v, vs[i]? = some v ∧ Rp c G v d
  | _, _, _, _, .nil, e => by simp at e
  | _, _, 0, _, .cons h _, e => by simp at e; subst e; exact ⟨_, rfl, h⟩
  | _, _, i + 1, _, .cons _ k, e => by
    obtain ⟨v, e1, e2⟩ := RpAll.get (i := i) k (by simpa using e)
    exact ⟨v, by simpa using e1, e2⟩
theorem RpAll.getV : ∀ {vs : List V} {ds : List D} {i : Nat} {v : V}, RpAll c G vs ds → vs[i]? = some v → ∃ d, ds[i]? = some d ∧ Rp c G v d
  | _, _, _, _, .nil, e => by simp at e
  | _, _, 0, _, .cons h _, e => by simp at e; subst e; exact ⟨_, rfl, h⟩
  | _, _, i + 1, _, .cons _ k, e => by
    obtain ⟨d, e1, e2⟩ := RpAll.getV (i := i) k (by simpa using e)
    exact ⟨d, by simpa using e1, e2⟩
theorem RpAll.app : ∀ {vs ws : List V} {ds es : List D}, RpAll c G vs ds → RpAll c G ws es → RpAll c G (vs ++ ws) (ds ++ es)
  | _, _, _, _, .nil, q => q
  | _, _, _, _, .cons h k, q => .cons h (RpAll.app k q)
theorem RpAll.take : ∀ {vs : List V} {ds : List D} (n : Nat), RpAll c G vs ds → RpAll c G (vs.take n) (ds.take n)
  | _, _, 0, _ => by simp only [List.take_zero]; exact .nil
  | _, _, _ + 1, .nil => .nil
  | _, _, n + 1, .cons h k => .cons h (RpAll.take n k)
theorem RpAll.drop : ∀ {vs : List V} {ds : List D} (n : Nat), RpAll c G vs ds → RpAll c G (vs.drop n) (ds.drop n)
  | _, _, 0, h => h
  | _, _, _ + 1, .nil => .nil
  | _, _, n + 1, .cons _ k => RpAll.drop n k
theorem RpAll.set : ∀ {vs : List V} {ds : List D} (i : Nat) {v : V} {d : D}, RpAll c G vs ds → Rp c G v d → RpAll c G (vs.set i v) (ds.set i d)
  | _, _, _, _, _, .nil, _ => .nil
  | _, _, 0, _, _, .cons _ k, q => .cons q k
  | _, _, i + 1, _, _, .cons h k, q => .cons h (RpAll.set i k q)
theorem RpAll.snoc {vs : List V} {ds : List D} {v : V} {d : D} (h : RpAll c G vs ds) (q : Rp c G v d) : RpAll c G (vs ++ [v]) (ds ++ [d]) := h.app (.cons q .nil)
theorem RpAll.of : ∀ {vs : List V} {ds : List D}, vs.length = ds.length → (∀ (i : Nat) (v : V), vs[i]? = some v → ∃ d, ds[i]? = some d ∧ Rp c G v d) → RpAll c G vs ds
  | [], [], _, _ => .nil
  | [], _ :: _, e, _ => by simp at e
  | _ :: _, [], e, _ => by simp at e
  | v :: vs, d :: ds, e, h => by
    obtain ⟨d', e1, h1⟩ := h 0 v rfl
    cases e1
    exact .cons h1 (RpAll.of (by simpa using e) fun i w hw => h (i + 1) w hw)
theorem RpAll.rev {vs : List V} {ds : List D} (h : RpAll c G vs ds) : RpAll c G vs.reverse ds.reverse := by
  refine .of (by simp [h.length]) fun i v e => ?_
  have hi : i < vs.length := by
    have := (List.getElem?_eq_some_iff.mp e).1
    simpa using this
  rw [List.getElem?_reverse hi] at e
  obtain ⟨d, e1, e2⟩ := h.getV e
  refine ⟨d, ?_, e2⟩
  rw [List.getElem?_reverse (by rw [← h.length]; exact hi), ← h.length]
  exact e1
theorem Cell.mono (s : ∀ a o, G a = some o → G' a = some o) {a : Addr} (e : H' a = H a) {x : D} (h : Cell c G H a x) : Cell c G' H' a x := by
  cases x with
  | lst ds =>
    obtain ⟨vs, h, k⟩ := h
    exact ⟨vs, e.trans h, k.mono s⟩
  | ins n ds =>
    obtain ⟨dx, fs, h, hn, k⟩ := h
    exact ⟨dx, fs, e.trans h, hn, k.mono s⟩
  | dct ks ds =>
    obtain ⟨o, kv, us, h, d, k1, k2⟩ := h
    exact ⟨o, kv, us, e.trans h, d, k1.mono s, k2.mono s⟩
  | xo b o =>
    obtain ⟨h1, h2, h3⟩ := h
    exact ⟨h1, e.trans h2, h3⟩
  | tup ds =>
    obtain ⟨vs, o, h, d, k⟩ := h
    exact ⟨vs, o, e.trans h, d, k.mono s⟩
  | _ => exact h.elim
theorem LsAll.mono (s : ∀ a o, G a = some o → G' a = some o) : ∀ {bs : List Addr} {dss : List (List D)}, (∀ p ∈ bs, H' p = H p) → LsAll c G H bs dss → LsAll c G' H' bs dss
  | _, _, _, .nil => .nil
  | _, _, e, .cons h k l => .cons ((e _ List.mem_cons_self).trans h) (k.mono s) (LsAll.mono s (fun p hp => e p (List.mem_cons_of_mem _ hp)) l)
theorem QCell.mono (s : ∀ a o, G a = some o → G' a = some o) {a : Addr} {ks : List D} {dss : List (List D)} {os : Owns} (e : ∀ p ∈ os, H' p = H p) (h : QCell c B G H a ks dss os) : QCell c B G' H' a ks dss os := by
  rcases h with ⟨kvs, bs, rfl, h1, h2, h3, h4⟩ | ⟨n, ds, p, dk, dv, dx, fs, b, o, kv, us, vs, rfl, rfl, rfl, h1, h2, h3, h4, h5, h6, h7, h8, h9⟩ | ⟨ks', o, kv, bs, rfl, rfl, h1, h2, h3, h4⟩
  · exact .inl ⟨kvs, bs, rfl, (e _ List.mem_cons_self).trans h1, h2, h3, h4.mono s fun p hp => e p (List.mem_cons_of_mem _ hp)⟩
  · exact .inr (.inl ⟨n, ds, p, dk, dv, dx, fs, b, o, kv, us, vs, rfl, rfl, rfl, (e _ List.mem_cons_self).trans h1, h2, h3, h4.mono s, (e _ (List.mem_cons_of_mem _ List.mem_cons_self)).trans h5, h6, h7.mono s, h8.mono s, h9⟩)
  · exact .inr (.inr ⟨ks', o, kv, bs, rfl, rfl, (e _ List.mem_cons_self).trans h1, h2, h3.mono s, h4.mono s fun p hp => e p (List.mem_cons_of_mem _ hp)⟩)
theorem nodup_sub {os own own' : Owns} (nd : (os ++ own).Nodup) (h : ∀ p ∈ own', p ∈ own) (n : own'.Nodup) : (os ++ own').Nodup := by
  rw [List.nodup_append] at nd ⊢
  exact ⟨nd.1, n, fun x hx y hy => nd.2.2 x hx y (h y hy)⟩
theorem Sl.mono (s : ∀ a o, G a = some o → G' a = some o) : ∀ {es : En} {vs : List (Option V)} {own : Owns}, (∀ p ∈ own, H' p = H p) → Sl c B G H es vs own → Sl c B G' H' es vs own
  | _, _, _, _, .nil => .nil
  | _, _, _, e, .skip k => .skip (Sl.mono s e k)
  | _, _, _, e, .d h k => .d (h.mono s) (Sl.mono s e k)
  | _, _, _, e, .o h hb k => .o (h.mono s (e _ List.mem_cons_self)) hb (Sl.mono s (fun p hp => e p (List.mem_cons_of_mem _ hp)) k)
  | _, _, _, e, .q h k => .q (h.mono s fun p hp => e p (List.mem_append_left _ hp)) (Sl.mono s (fun p hp => e p (List.mem_append_right _ hp)) k)
theorem Sl.length : ∀ {es : En} {vs : List (Option V)} {own : Owns}, Sl c B G H es vs own → es.length = vs.length
  | _, _, _, .nil => rfl
  | _, _, _, .skip k => by rw [List.length_cons, List.length_cons, Sl.length k]
  | _, _, _, .d _ k => by rw [List.length_cons, List.length_cons, Sl.length k]
  | _, _, _, .o _ _ k => by rw [List.length_cons, List.length_cons, Sl.length k]
  | _, _, _, .q _ k => by rw [List.length_cons, List.length_cons, Sl.length k]
theorem Sl.getD : ∀ {es : En} {vs : List (Option V)} {own : Owns} {i : Nat} {x : D}, Sl c B G H es vs own → es[i]? = some (some (.d x)) → ∃ v, vs[i]? = some (some v) ∧ Rp c G v x
  | _, _, _, _, _, .nil, e => by simp at e
  | _, _, _, 0, _, .skip k, e => by simp at e
  | _, _, _, 0, _, .d h k, e => by simp at e; subst e; exact ⟨_, rfl, h⟩
  | _, _, _, 0, _, .o h _ k, e => by simp at e
  | _, _, _, i + 1, _, .skip k, e => Sl.getD (i := i) k (by simpa using e)
  | _, _, _, i + 1, _, .d h k, e => Sl.getD (i := i) k (by simpa using e)
  | _, _, _, i + 1, _, .o h _ k, e => Sl.getD (i := i) k (by simpa using e)
  | _, _, _, 0, _, .q h k, e => by simp at e
  | _, _, _, i + 1, _, .q _ k, e => Sl.getD (i := i) k (by simpa using e)
theorem Sl.getO : ∀ {es : En} {vs : List (Option V)} {own : Owns} {i : Nat} {b : Option Nat} {x : D}, Sl c B G H es vs own → es[i]? = some (some (.o b x)) → ∃ a, vs[i]? = some (some (.ref a)) ∧ Cell c G H a x ∧ a ∈ own ∧ ∀ p, b = some p → B.at_ p = some a
  | _, _, _, _, _, _, .nil, e => by simp at e
  | _, _, _, 0, _, _, .skip k, e => by simp at e
  | _, _, _, 0, _, _, .d h k, e => by simp at e
  | _, _, _, 0, _, _, .o h hb k, e => by simp at e; obtain ⟨rfl, rfl⟩ := e; exact ⟨_, rfl, h, List.mem_cons_self, hb⟩
  | _, _, _, i + 1, _, _, .skip k, e => Sl.getO (i := i) k (by simpa using e)
  | _, _, _, i + 1, _, _, .d h k, e => Sl.getO (i := i) k (by simpa using e)
  | _, _, _, i + 1, _, _, .o h _ k, e => by
    obtain ⟨a, h1, h2, h3, h4⟩ := Sl.getO (i := i) k (by simpa using e)
    exact ⟨a, h1, h2, List.mem_cons_of_mem _ h3, h4⟩
  | _, _, _, 0, _, _, .q h k, e => by simp at e
  | _, _, _, i + 1, _, _, .q _ k, e => by
    obtain ⟨a, h1, h2, h3, h4⟩ := Sl.getO (i := i) k (by simpa using e)
    exact ⟨a, h1, h2, List.mem_append_right _ h3, h4⟩
/-- one entry: its owned cell, if it has one -/
inductive En1 (c : Cfg) (B : Base) (G H : Hp) : S → V → Owns → Prop
  | d {v : V} {x : D} : Rp c G v x → En1 c B G H (.d x) v []
  | o {a : Addr} {b : Option Nat} {x : D} : Cell c G H a x → (∀ p, b = some p → B.at_ p = some a) → En1 c B G H (.o b x) (.ref a) [a]
  | q {a : Addr} {ks : List D} {dss : List (List D)} {os : Owns} : QCell c B G H a ks dss os → En1 c B G H (.q ks dss) (.ref a) os
theorem Sl.one {s : S} {v : V} {os : Owns} {es : En} {vs : List (Option V)} {own : Owns} (h : En1 c B G H s v os) (k : Sl c B G H es vs own) : Sl c B G H (some s :: es) (some v :: vs) (os ++ own) := by
  cases h with
  | d h => exact .d h k
  | o h hb => exact .o h hb k
  | q h => exact .q h k
theorem Sl.unone {s : S} {v : Option V} {es : En} {vs : List (Option V)} {own : Owns} (k : Sl c B G H (some s :: es) (v :: vs) own) : ∃ w os own', v = some w ∧ En1 c B G H s w os ∧ own = os ++ own' ∧ Sl c B G H es vs own' := by
  cases k with
  | d h k => exact ⟨_, [], _, rfl, .d h, rfl, k⟩
  | o h hb k => exact ⟨_, [_], _, rfl, .o h hb, rfl, k⟩
  | q h k => exact ⟨_, _, _, rfl, .q h, rfl, k⟩
/-- a slot is set to an entry -/
theorem Sl.set : ∀ {es : En} {vs : List (Option V)} {own : Owns} (i : Nat) {s : S} {v : V} {os : Owns}, Sl c B G H es vs own → En1 c B G H s v os →
    ∃ own', Sl c B G H (es.set i (some s)) (vs.set i (some v)) own' ∧ (∀ p ∈ own', p ∈ os ∨ p ∈ own) ∧ ((os ++ own).Nodup → own'.Nodup)
  | _, _, _, _, _, _, os, .nil, _ => ⟨[], .nil, fun _ h => by simp at h, fun _ => by simp⟩
  | _, _, own, 0, _, _, os, .skip k, e => ⟨os ++ own, Sl.one e k, fun p hp => List.mem_append.mp hp, id⟩
  | _, _, own, 0, _, _, os, .d _ k, e => ⟨os ++ own, Sl.one e k, fun p hp => List.mem_append.mp hp, id⟩
  | _, _, a :: own, 0, _, _, os, .o _ _ k, e => ⟨os ++ own, Sl.one e k, fun p hp => (List.mem_append.mp hp).imp id (List.mem_cons_of_mem _), fun nd => nd.sublist (List.Sublist.append_left (List.sublist_cons_self _ _) _)⟩
  | _, _, _, i + 1, _, _, os, .skip k, e => by
    obtain ⟨own', h1, h2, h3⟩ := Sl.set i k e
    exact ⟨own', .skip h1, h2, h3⟩
  | _, _, _, i + 1, _, _, os, .d h k, e => by
    obtain ⟨own', h1, h2, h3⟩ := Sl.set i k e
    exact ⟨own', .d h h1, h2, h3⟩
  | _, _, a :: own, i + 1, _, _, os, .o h hb k, e => by
    obtain ⟨own', h1, h2, h3⟩ := Sl.set i k e
    refine ⟨a :: own', .o h hb h1, fun p hp => ?_, fun nd => ?_⟩
    · rcases List.mem_cons.mp hp with rfl | hp
      · exact .inr List.mem_cons_self
      · exact (h2 p hp).imp id (List.mem_cons_of_mem _)
    · rw [List.nodup_append] at nd
      obtain ⟨n1, n2, n3⟩ := nd
      obtain ⟨n4, n5⟩ := List.nodup_cons.mp n2
      rw [List.nodup_cons]
      refine ⟨fun hm => ?_, h3 ?_⟩
      · rcases h2 a hm with q | q
        · exact n3 a q a List.mem_cons_self rfl
        · exact n4 q
      · rw [List.nodup_append]
        exact ⟨n1, n5, fun x hx y hy => n3 x hx y (List.mem_cons_of_mem _ hy)⟩
  | _, _, _, 0, _, _, os, @Sl.q _ _ _ _ _ _ _ _ _ qs own _ k, e => ⟨os ++ own, Sl.one e k, fun p hp => (List.mem_append.mp hp).imp id (List.mem_append_right _), fun nd => nd.sublist (List.Sublist.append_left (List.sublist_append_right _ _) _)⟩
  | _, _, _, i + 1, _, _, os, @Sl.q _ _ _ _ _ _ _ _ _ qs own h k, e => by
    obtain ⟨own', h1, h2, h3⟩ := Sl.set i k e
    refine ⟨qs ++ own', .q h h1, fun p hp => ?_, fun nd => ?_⟩
    · rcases List.mem_append.mp hp with hp | hp
      · exact .inr (List.mem_append_left _ hp)
      · exact (h2 p hp).imp id (List.mem_append_right _)
    · rw [List.nodup_append] at nd
      obtain ⟨n1, n2, n3⟩ := nd
      rw [List.nodup_append] at n2 ⊢
      obtain ⟨n4, n5, n6⟩ := n2
      refine ⟨n4, h3 ?_, fun x hx y hy => ?_⟩
      · rw [List.nodup_append]
        exact ⟨n1, n5, fun x hx y hy => n3 x hx y (List.mem_append_right _ hy)⟩
      · rcases h2 y hy with z | z
        · exact fun e => n3 y z x (List.mem_append_left _ hx) e.symm
        · exact n6 x hx y z
/-- a slot is forgotten -/
theorem Sl.forget : ∀ {es : En} {vs : List (Option V)} {own : Owns} (i : Nat) (w : Option V), Sl c B G H es vs own →
    ∃ own', Sl c B G H (es.set i none) (vs.set i w) own' ∧ (∀ p ∈ own', p ∈ own) ∧ (own.Nodup → own'.Nodup)
  | _, _, _, _, _, .nil => ⟨[], .nil, fun _ h => h, id⟩
  | _, _, own, 0, _, .skip k => ⟨own, .skip k, fun _ h => h, id⟩
  | _, _, own, 0, _, .d _ k => ⟨own, .skip k, fun _ h => h, id⟩
  | _, _, a :: own, 0, _, .o _ _ k => ⟨own, .skip k, fun p hp => List.mem_cons_of_mem _ hp, fun nd => (List.nodup_cons.mp nd).2⟩
  | _, _, _, i + 1, w, .skip k => by
    obtain ⟨own', h1, h2, h3⟩ := Sl.forget i w k
    exact ⟨own', .skip h1, h2, h3⟩
  | _, _, _, i + 1, w, .d h k => by
    obtain ⟨own', h1, h2, h3⟩ := Sl.forget i w k
    exact ⟨own', .d h h1, h2, h3⟩
  | _, _, a :: own, i + 1, w, .o h hb k => by
    obtain ⟨own', h1, h2, h3⟩ := Sl.forget i w k
    refine ⟨a :: own', .o h hb h1, fun p hp => ?_, fun nd => ?_⟩
    · rcases List.mem_cons.mp hp with rfl | hp
      · exact List.mem_cons_self
      · exact List.mem_cons_of_mem _ (h2 p hp)
    · rw [List.nodup_cons] at nd ⊢
      exact ⟨fun hm => nd.1 (h2 a hm), h3 nd.2⟩
  | _, _, _, 0, _, @Sl.q _ _ _ _ _ _ _ _ _ qs own _ k => ⟨own, .skip k, fun p hp => List.mem_append_right _ hp, fun nd => (List.nodup_append.mp nd).2.1⟩
  | _, _, _, i + 1, w, @Sl.q _ _ _ _ _ _ _ _ _ qs own h k => by
    obtain ⟨own', h1, h2, h3⟩ := Sl.forget i w k
    refine ⟨qs ++ own', .q h h1, fun p hp => ?_, fun nd => nodup_sub nd h2 (h3 (List.nodup_append.mp nd).2.1)⟩
    rcases List.mem_append.mp hp with hp | hp
    · exact List.mem_append_left _ hp
    · exact List.mem_append_right _ (h2 p hp)
end
section
variable {c : Cfg} {B : Base} {G H H' : Hp} {own own' : Owns} {ts : En} {vs : List (Option V)} {ρ : En} {σ : L2.St}
theorem OkB.subO (k : OkB c B G H own) (h1 : ∀ p ∈ own', p ∈ own) (h2 : own'.Nodup) : OkB c B G H own' := ⟨k.sub, k.notbl, h2, fun p hp => k.out p (h1 p hp), k.tabs, k.pint, fun a o e => ⟨(k.pin a o e).1, fun hm => (k.pin a o e).2 (h1 a hm)⟩⟩
theorem tabs_new {T : List (Addr × Str)} {p : Addr} {o : HO} (t : Tabs T H) (hp : H p = none) : Tabs T (upd H p o) := fun q hq => by
  obtain ⟨ps, h1, h2, h3⟩ := t q hq
  refine ⟨ps, by rw [upd_ne (ne_of_none h1 hp)]; exact h1, h2, fun pos cv e => ?_⟩
  obtain ⟨cc, e1, e2⟩ := h3 pos cv e
  exact ⟨cc, e1, by rw [upd_ne (ne_of_none e2 hp)]; exact e2⟩
theorem rep_get (o : Obj) (n : Nat) (h : ∃ es ep, o.data = .dict es ep) (b : Nat) (hb : b < n) : ({ objs := Array.replicate n o } : Heap).get? b = some o := by
  obtain ⟨cl, di, da, sl⟩ := o
  obtain ⟨es, ep, h⟩ := h
  cases h
  unfold Heap.get?
  simp only [Array.getElem?_replicate, hb, if_true]
theorem xdO_code {a q : Addr} {o : Obj} {es : Array DictEntry} {ep : Nat} {x : Str} (h : o.data = .dict es ep) : xdO a o ≠ CodeO q x := fun z => by
  unfold xdO CodeO at z
  injection z with z
  have g1 := rep_get o (a + q + 1) ⟨es, ep, h⟩ a (by omega)
  have g2 := rep_get o (a + q + 1) ⟨es, ep, h⟩ q (by omega)
  have z1 := congrFun z ({ objs := Array.replicate (a + q + 1) o } : Heap)
  have g3 := z1.mp g1
  obtain ⟨oc, vs, t, e1, e2, _⟩ := g3
  rw [g2] at e1
  cases e1
  rw [h] at e2
  cases e2
theorem isCell_tbl {u : HO} (h : isCell u) (ps : Array Value) : u ≠ .tbl ps := fun z => by
  cases h <;> cases z
theorem isCell_code {u : HO} {a : Addr} {q : Str} (h : isCell u) : u ≠ CodeO a q := fun z => by
  cases h with
  | xd a o es ep h => exact xdO_code h z
  | lst => unfold CodeO at z; cases z
  | ins => unfold CodeO at z; cases z
  | dK => unfold CodeO at z; cases z
  | frz => unfold CodeO at z; cases z
theorem tabs_put {T : List (Addr × Str)} {p : Addr} {u o : HO} (t : Tabs T H) (hp : H p = some u) (n : isCell u) : Tabs T (upd H p o) := fun q hq => by
  obtain ⟨ps, h1, h2, h3⟩ := t q hq
  refine ⟨ps, ?_, h2, fun pos cv e => ?_⟩
  · have : q.1 ≠ p := fun z => by
      rw [z, hp] at h1
      exact isCell_tbl n ps (Option.some.inj h1)
    rw [upd_ne this]
    exact h1
  · obtain ⟨cc, e1, e2⟩ := h3 pos cv e
    refine ⟨cc, e1, ?_⟩
    have : cc ≠ p := fun z => by
      rw [z, hp] at e2
      exact isCell_code n (Option.some.inj e2)
    rw [upd_ne this]
    exact e2
theorem OkB.gnone (k : OkB c B G H own) {p : Addr} (hp : H p = none) : G p = none := by
  cases e : G p with
  | none => rfl
  | some o =>
    rw [k.sub p o e] at hp
    cases hp
theorem OkB.alloc (k : OkB c B G H own) {p : Addr} {o : HO} (hp : H p = none) (ho : isTbl o = false) : OkB c B (upd G p o) (upd H p o) own := by
  have gp := k.gnone hp
  refine ⟨fun a u e => ?_, fun a u e => ?_, k.nd, fun q hq => ?_, tabs_new k.tabs hp, k.pint, fun a u e => ⟨by rw [upd_ne (ne_of_none (k.pin a u e).1 hp)]; exact (k.pin a u e).1, (k.pin a u e).2⟩⟩
  · by_cases ha : a = p
    · subst ha
      rw [upd_same] at e ⊢
      exact e
    · rw [upd_ne ha] at e ⊢
      exact k.sub a u e
  · by_cases ha : a = p
    · subst ha
      rw [upd_same] at e
      cases e
      exact ho
    · rw [upd_ne ha] at e
      exact k.notbl a u e
  · obtain ⟨h1, h2⟩ := k.out q hq
    have ha : q ≠ p := fun z => h2 (by rw [z]; exact hp)
    rw [upd_ne ha, upd_ne ha]
    exact ⟨h1, h2⟩
/-- a new cell that may be changed -/
theorem OkB.allocO (k : OkB c B G H own) {p : Addr} {o : HO} (hp : H p = none) : OkB c B G (upd H p o) (p :: own) := by
  have gp := k.gnone hp
  refine ⟨fun a u e => ?_, k.notbl, ?_, fun q hq => ?_, tabs_new k.tabs hp, k.pint, fun a u e => ⟨by rw [upd_ne (ne_of_none (k.pin a u e).1 hp)]; exact (k.pin a u e).1, fun hm => ?_⟩⟩
  · have ha : a ≠ p := fun z => by rw [z, gp] at e; cases e
    rw [upd_ne ha]
    exact k.sub a u e
  · rw [List.nodup_cons]
    exact ⟨fun hm => (k.out p hm).2 hp, k.nd⟩
  · rcases List.mem_cons.mp hq with rfl | hq
    · exact ⟨gp, by rw [upd_same]; simp⟩
    · obtain ⟨h1, h2⟩ := k.out q hq
      have ha : q ≠ p := fun z => h2 (by rw [z]; exact hp)
      rw [upd_ne ha]
      exact ⟨h1, h2⟩
  · rcases List.mem_cons.mp hm with rfl | hm
    · rw [(k.pin _ u e).1] at hp
      cases hp
    · exact (k.pin a u e).2 hm
/-- an owned cell stays from here on -/
theorem OkB.freeze {p : Addr} {o : HO} (k : OkB c B G H own) (hp : p ∈ own) (e : H p = some o) (ho : isTbl o = false) (h1 : ∀ q ∈ own', q ∈ own ∧ q ≠ p) (h2 : own'.Nodup) : OkB c B (upd G p o) H own' := by
  obtain ⟨gp, _⟩ := k.out _ hp
  refine ⟨fun a u e' => ?_, fun a u e' => ?_, h2, fun q hq => ?_, k.tabs, k.pint, fun a u e => ⟨(k.pin a u e).1, fun hm => (k.pin a u e).2 (h1 a hm).1⟩⟩
  · by_cases ha : a = p
    · subst ha
      rw [upd_same] at e'
      rw [e, ← e']
    · rw [upd_ne ha] at e'
      exact k.sub a u e'
  · by_cases ha : a = p
    · subst ha
      rw [upd_same] at e'
      cases e'
      exact ho
    · rw [upd_ne ha] at e'
      exact k.notbl a u e'
  · obtain ⟨m, ne⟩ := h1 q hq
    obtain ⟨h1, h2⟩ := k.out q m
    rw [upd_ne ne]
    exact ⟨h1, h2⟩
/-- an owned cell is written -/
theorem OkB.write {p : Addr} {u o : HO} (k : OkB c B G H own) (hp : p ∈ own) (e : H p = some u) (hu : isCell u) : OkB c B G (upd H p o) own := by
  obtain ⟨gp, _⟩ := k.out _ hp
  refine ⟨fun a u' e' => ?_, k.notbl, k.nd, fun q hq => ?_, tabs_put k.tabs e hu, k.pint, fun a u' e' => ⟨by rw [upd_ne fun z : a = p => (k.pin a u' e').2 (z ▸ hp)]; exact (k.pin a u' e').1, (k.pin a u' e').2⟩⟩
  · have ha : a ≠ p := fun z => by rw [z, gp] at e'; cases e'
    rw [upd_ne ha]
    exact k.sub a u' e'
  · obtain ⟨h1, h2⟩ := k.out q hq
    refine ⟨h1, ?_⟩
    by_cases ha : q = p
    · rw [ha, upd_same]
      simp
    · rw [upd_ne ha]
      exact h2
end
end Fx
/-! what a reading makes of a state -/
namespace Fx
open PySem PySem.Spec PyProof.Rows L2
open LamX (Tabs TabS TabB ExtN CodeO codeO_ne)
/-- data that wait, the last one first -/
abbrev tmp (ds : List D) : En := ds.reverse.map fun x => some (S.d x)
abbrev tmv (us : List V) : List (Option V) := us.reverse.map some
section
variable {c : Cfg} {B : Base} {G H H' : Hp} {own own' : Owns} {ts : En} {vs : List (Option V)} {ρ : En} {σ : L2.St}
theorem Sl.tmpR : ∀ {ds : List D} {us : List V} {own : Owns}, us.length = ds.length → Sl c B G H (ds.map (fun x => some (S.d x)) ++ ts) (us.map some ++ vs) own → RpAll c G us ds ∧ Sl c B G H ts vs own
  | [], [], _, _, h => ⟨.nil, h⟩
  | [], _ :: _, _, e, _ => by simp at e
  | _ :: _, [], _, e, _ => by simp at e
  | x :: ds, u :: us, _, e, h => by
    cases h with
    | d h k =>
      obtain ⟨h1, h2⟩ := Sl.tmpR (by simpa using e) k
      exact ⟨.cons h h1, h2⟩
theorem Sl.tmp {ds : List D} {us : List V} (e : us.length = ds.length) (h : Sl c B G H (tmp ds ++ ts) (tmv us ++ vs) own) : RpAll c G us ds ∧ Sl c B G H ts vs own := by
  obtain ⟨h1, h2⟩ := Sl.tmpR (by simpa using e) h
  refine ⟨?_, h2⟩
  have := h1.rev
  simpa using this
theorem upd_sub {p : Addr} {o : HO} (h : G p = none) : ∀ a u, G a = some u → upd G p o a = some u := fun a u e => by
  rw [upd_ne (ne_of_none e h)]
  exact e
/-- the owned cells stay behind a new object -/
theorem own_new {p : Addr} {o : HO} (k : OkB c B G H own) (hp : H p = none) : ∀ q ∈ own, upd H p o q = H q := fun q hq => by
  have ha : q ≠ p := fun z => (k.out q hq).2 (by rw [z]; exact hp)
  rw [upd_ne ha]
/-- a new object of what waits -/
theorem Rep.new {ds : List D} {us : List V} {p : Addr} {o : HO} {x : D} (r : Rep c B (tmp ds ++ ts) (tmv us ++ vs) ρ σ H) (hl : us.length = ds.length) (hp : H p = none) (ho : isTbl o = false) (hx : ∀ G', G' p = some o → RpAll c G' us ds → Rp c G' (.ref p) x) :
    Rep c B (some (.d x) :: ts) (some (.ref p) :: vs) ρ σ (upd H p o) := by
  obtain ⟨G, o1, o2, k, h1, h2⟩ := r
  obtain ⟨a1, a2⟩ := h1.tmp hl
  have gp := k.gnone hp
  have ow := own_new (o := o) k hp
  exact ⟨upd G p o, o1, o2, k.alloc hp ho, .d (hx _ upd_same (a1.mono (upd_sub gp))) (a2.mono (upd_sub gp) fun q hq => ow q (List.mem_append_left _ hq)), h2.mono (upd_sub gp) fun q hq => ow q (List.mem_append_right _ hq)⟩
theorem Rep.newO {ds : List D} {us : List V} {p : Addr} {o : HO} {x : D} (r : Rep c B (tmp ds ++ ts) (tmv us ++ vs) ρ σ H) (hl : us.length = ds.length) (hp : H p = none) (hx : ∀ G H', H' p = some o → RpAll c G us ds → Cell c G H' p x) :
    Rep c B (some (.o none x) :: ts) (some (.ref p) :: vs) ρ σ (upd H p o) := by
  obtain ⟨G, o1, o2, k, h1, h2⟩ := r
  obtain ⟨a1, a2⟩ := h1.tmp hl
  have ow := own_new (o := o) k hp
  refine ⟨G, p :: o1, o2, k.allocO hp, .o (hx _ _ upd_same a1) (fun _ e => nomatch e) (a2.mono (fun _ _ e => e) fun q hq => ow q (List.mem_append_left _ hq)), h2.mono (fun _ _ e => e) fun q hq => ow q (List.mem_append_right _ hq)⟩
/-- what waits gives a value, the heap as it is -/
theorem Rep.repl {ds : List D} {us : List V} {v : V} {x : D} (r : Rep c B (tmp ds ++ ts) (tmv us ++ vs) ρ σ H) (hl : us.length = ds.length) (hx : ∀ G, RpAll c G us ds → Rp c G v x) : Rep c B (some (.d x) :: ts) (some v :: vs) ρ σ H := by
  obtain ⟨G, o1, o2, k, h1, h2⟩ := r
  obtain ⟨a1, a2⟩ := h1.tmp hl
  exact ⟨G, o1, o2, k, .d (hx _ a1) a2, h2⟩
theorem Rep.drop {s : Option S} {v : Option V} (r : Rep c B (s :: ts) (v :: vs) ρ σ H) : Rep c B ts vs ρ σ H := by
  obtain ⟨G, o1, o2, k, h1, h2⟩ := r
  cases h1 with
  | skip h => exact ⟨G, _, o2, k, h, h2⟩
  | d _ h => exact ⟨G, _, o2, k, h, h2⟩
  | o _ _ h =>
    refine ⟨G, _, o2, k.subO (fun p hp => List.mem_cons_of_mem _ hp) ?_, h, h2⟩
    have := k.nd
    rw [List.cons_append, List.nodup_cons] at this
    exact this.2
  | q _ h =>
    refine ⟨G, _, o2, k.subO (fun p hp => ?_) ?_, h, h2⟩
    · rw [List.append_assoc]
      exact List.mem_append_right _ hp
    · have := k.nd
      rw [List.append_assoc] at this
      exact (List.nodup_append.mp this).2.1
theorem Rep.dropN {ds : List D} {us : List V} (hl : us.length = ds.length) (r : Rep c B (tmp ds ++ ts) (tmv us ++ vs) ρ σ H) : Rep c B ts vs ρ σ H := by
  obtain ⟨G, o1, o2, k, h1, h2⟩ := r
  exact ⟨G, o1, o2, k, (h1.tmp hl).2, h2⟩
def canFz : D → Bool
  | .lst _ => true
  | .dct _ _ => true
  | _ => false
theorem Cell.fz {a : Addr} {x : D} (hx : canFz x = true) (hc : Cell c G H a x) : ∃ o, H a = some o ∧ isTbl o = false ∧ ∀ G', (∀ b u, G b = some u → G' b = some u) → G' a = some o → Rp c G' (.ref a) x := by
  cases x with
  | lst ds =>
    obtain ⟨vs, h, k⟩ := hc
    exact ⟨_, h, rfl, fun G' s e => .lst e (k.mono s)⟩
  | dct ks ds =>
    obtain ⟨o, kv, us, h, d, k1, k2⟩ := hc
    exact ⟨_, h, rfl, fun G' s e => .dcx e d (k1.mono s) (k2.mono s)⟩
  | _ => cases hx
/-- a new cell stays from here on -/
theorem Rep.fz {x : D} {v : V} (hx : canFz x = true) (r : Rep c B (some (.o none x) :: ts) (some v :: vs) ρ σ H) : Rep c B (some (.d x) :: ts) (some v :: vs) ρ σ H := by
  obtain ⟨G, o1, o2, k, h1, h2⟩ := r
  cases h1 with
  | @o a _ _ _ _ own hc hb h =>
    obtain ⟨o, e, ho, f⟩ := hc.fz hx
    have nd := k.nd
    rw [List.cons_append, List.nodup_cons] at nd
    have gp := (k.out _ (List.mem_append_left _ List.mem_cons_self)).1
    exact ⟨upd G a o, own, o2, k.freeze (List.mem_append_left _ List.mem_cons_self) e ho (fun q hq => ⟨List.mem_cons_of_mem _ hq, fun z => nd.1 (z ▸ hq)⟩) nd.2, .d (f _ (upd_sub gp) upd_same) (h.mono (upd_sub gp) fun _ _ => rfl), h2.mono (upd_sub gp) fun _ _ => rfl⟩
/-- a name's cell stays from here on -/
theorem Sl.fzAt : ∀ {es : En} {vs : List (Option V)} {own : Owns} {i : Nat} {b : Option Nat} {x : D} {a : Addr}, own.Nodup → Sl c B G H es vs own → es[i]? = some (some (.o b x)) → vs[i]? = some (some (.ref a)) → Rp c G (.ref a) x →
    ∃ own', Sl c B G H (es.set i (some (.d x))) vs own' ∧ (∀ q ∈ own', q ∈ own ∧ q ≠ a) ∧ own'.Nodup := by
  intro es
  induction es with
  | nil => intro vs own i b x a _ _ e; simp at e
  | cons s es ih =>
    intro vs own i b x a nd h e ev hr
    cases h with
    | skip k =>
      cases i with
      | zero => simp at e
      | succ i =>
        obtain ⟨own', h1, h2, h3⟩ := ih nd k (by simpa using e) (by simpa using ev) hr
        exact ⟨own', .skip h1, h2, h3⟩
    | d hh k =>
      cases i with
      | zero => simp at e
      | succ i =>
        obtain ⟨own', h1, h2, h3⟩ := ih nd k (by simpa using e) (by simpa using ev) hr
        exact ⟨own', .d hh h1, h2, h3⟩
    | @o a' b' x' _ _ own hh hb k =>
      rw [List.nodup_cons] at nd
      cases i with
      | zero =>
        simp at e ev
        obtain ⟨rfl, rfl⟩ := e
        subst ev
        exact ⟨own, .d hr k, fun q hq => ⟨List.mem_cons_of_mem _ hq, fun z => nd.1 (z ▸ hq)⟩, nd.2⟩
      | succ i =>
        have e' : es[i]? = some (some (.o b x)) := by simpa using e
        obtain ⟨a2, e2, _, m2, _⟩ := k.getO e'
        obtain ⟨own', h1, h2, h3⟩ := ih nd.2 k e' (by simpa using ev) hr
        have ea : a2 = a := by
          have : _ = some (some (V.ref a)) := (by simpa using ev)
          rw [this] at e2
          cases e2
          rfl
        subst ea
        refine ⟨a' :: own', .o hh hb h1, fun q hq => ?_, ?_⟩
        · rcases List.mem_cons.mp hq with rfl | hq
          · exact ⟨List.mem_cons_self, fun z => nd.1 (z ▸ m2)⟩
          · exact ⟨List.mem_cons_of_mem _ (h2 q hq).1, (h2 q hq).2⟩
        · rw [List.nodup_cons]
          exact ⟨fun hm => nd.1 (h2 a' hm).1, h3⟩
    | @q a' ks' dss' _ _ qs own hh k =>
      cases i with
      | zero => simp at e
      | succ i =>
        have e' : es[i]? = some (some (.o b x)) := by simpa using e
        obtain ⟨a2, e2, _, m2, _⟩ := k.getO e'
        have n2 := (List.nodup_append.mp nd)
        obtain ⟨own', h1, h2, h3⟩ := ih n2.2.1 k e' (by simpa using ev) hr
        have ea : a2 = a := by
          have : _ = some (some (V.ref a)) := (by simpa using ev)
          rw [this] at e2
          cases e2
          rfl
        subst ea
        refine ⟨qs ++ own', .q hh h1, fun q hq => ?_, nodup_sub nd (fun p hp => (h2 p hp).1) h3⟩
        rcases List.mem_append.mp hq with hq | hq
        · exact ⟨List.mem_append_left _ hq, fun z => n2.2.2 q hq a2 m2 z⟩
        · exact ⟨List.mem_append_right _ (h2 q hq).1, (h2 q hq).2⟩
theorem Rep.fzAt {i : Nat} {b : Option Nat} {x : D} (hx : canFz x = true) (e : ρ[i]? = some (some (.o b x))) (r : Rep c B ts vs ρ σ H) : Rep c B ts vs (ρ.set i (some (.d x))) σ H := by
  obtain ⟨G, o1, o2, k, h1, h2⟩ := r
  obtain ⟨a, ev, hc, hm, _⟩ := h2.getO e
  obtain ⟨o, eo, ho, f⟩ := hc.fz hx
  have gp := (k.out _ (List.mem_append_right _ hm)).1
  have nd := k.nd
  rw [List.nodup_append] at nd
  obtain ⟨n1, n2, n3⟩ := nd
  obtain ⟨own', g1, g2, g3⟩ := (h2.mono (upd_sub (o := o) gp) (fun _ _ => rfl) (H' := H)).fzAt n2 e ev (f _ (upd_sub gp) upd_same)
  refine ⟨upd G a o, o1, own', k.freeze (List.mem_append_right _ hm) eo ho (fun q hq => ?_) ?_, h1.mono (upd_sub gp) fun _ _ => rfl, g1⟩
  · rcases List.mem_append.mp hq with hq | hq
    · exact ⟨List.mem_append_left _ hq, fun z => n3 q hq a hm z⟩
    · exact ⟨List.mem_append_right _ (g2 q hq).1, (g2 q hq).2⟩
  · rw [List.nodup_append]
    exact ⟨n1, g3, fun x hx y hy => n3 x hx y (g2 y hy).1⟩
theorem Rep.var {i : Nat} {x : D} (e : ρ[i]? = some (some (.d x))) (r : Rep c B ts vs ρ σ H) : ∃ v, σ[i]? = some (some v) ∧ Rep c B (some (.d x) :: ts) (some v :: vs) ρ σ H := by
  obtain ⟨G, o1, o2, k, h1, h2⟩ := r
  obtain ⟨v, e1, hr⟩ := h2.getD e
  exact ⟨v, e1, G, o1, o2, k, .d hr h1, h2⟩
theorem Rep.varO {i : Nat} {b : Option Nat} {x : D} (e : ρ[i]? = some (some (.o b x))) (r : Rep c B ts vs ρ σ H) : ∃ a, σ[i]? = some (some (.ref a)) ∧ ∃ G, (∀ a o, G a = some o → H a = some o) ∧ Cell c G H a x := by
  obtain ⟨G, o1, o2, k, h1, h2⟩ := r
  obtain ⟨a, e1, hr, _⟩ := h2.getO e
  exact ⟨a, e1, G, k.sub, hr⟩
/-- a value is stored -/
theorem Rep.set {i : Nat} {s : S} {v : V} (r : Rep c B (some s :: ts) (some v :: vs) ρ σ H) : Rep c B ts vs (ρ.set i (some s)) (σ.set i (some v)) H := by
  obtain ⟨G, o1, o2, k, h1, h2⟩ := r
  obtain ⟨w, os, o1', ew, e1, rfl, h1'⟩ := h1.unone
  cases ew
  obtain ⟨own', g1, g2, g3⟩ := h2.set i e1
  have nd := k.nd
  rw [List.append_assoc, List.nodup_append, List.nodup_append] at nd
  obtain ⟨n1, ⟨n2, n4, n5⟩, n3⟩ := nd
  refine ⟨G, o1', own', k.subO (fun p hp => ?_) ?_, h1', g1⟩
  · rcases List.mem_append.mp hp with hp | hp
    · exact List.mem_append_left _ (List.mem_append_right _ hp)
    · rcases g2 p hp with q | q
      · exact List.mem_append_left _ (List.mem_append_left _ q)
      · exact List.mem_append_right _ q
  · rw [List.nodup_append]
    refine ⟨n2, g3 ?_, fun x hx y hy z => ?_⟩
    · rw [List.nodup_append]
      exact ⟨n1, n4, fun x hx y hy => n3 x hx y (List.mem_append_right _ hy)⟩
    · rcases g2 y hy with hq | hq
      · exact n3 y hq x (List.mem_append_left _ hx) z.symm
      · exact n5 x hx y hq z
theorem Rep.forget {i : Nat} (w : Option V) (r : Rep c B ts vs ρ σ H) : Rep c B ts vs (ρ.set i none) (σ.set i w) H := by
  obtain ⟨G, o1, o2, k, h1, h2⟩ := r
  obtain ⟨own', g1, g2, g3⟩ := h2.forget i w
  have nd := k.nd
  rw [List.nodup_append] at nd
  refine ⟨G, o1, own', k.subO (fun p hp => (List.mem_append.mp hp).elim (List.mem_append_left _) fun h => List.mem_append_right _ (g2 p h)) ?_, h1, g1⟩
  rw [List.nodup_append]
  exact ⟨nd.1, g3 nd.2.1, fun x hx y hy => nd.2.2 x hx y (g2 y hy)⟩
/-- a name's cell is written -/
theorem Sl.write : ∀ {es : En} {vs : List (Option V)} {own : Owns} {i : Nat} {b : Option Nat} {x y : D} {a : Addr}, own.Nodup → Sl c B G H es vs own → es[i]? = some (some (.o b x)) → vs[i]? = some (some (.ref a)) → (∀ q, q ≠ a → H' q = H q) → Cell c G H' a y →
    Sl c B G H' (es.set i (some (.o b y))) vs own := by
  intro es
  induction es with
  | nil => intro vs own i b x y a _ _ e; simp at e
  | cons s es ih =>
    intro vs own i b x y a nd h e ev hh hc
    cases h with
    | skip k =>
      cases i with
      | zero => simp at e
      | succ i => exact .skip (ih nd k (by simpa using e) (by simpa using ev) hh hc)
    | d hr k =>
      cases i with
      | zero => simp at e
      | succ i => exact .d hr (ih nd k (by simpa using e) (by simpa using ev) hh hc)
    | @o a' b' x' _ _ own ho hb k =>
      rw [List.nodup_cons] at nd
      cases i with
      | zero =>
        simp at e ev
        obtain ⟨rfl, rfl⟩ := e
        subst ev
        exact .o hc hb (k.mono (fun _ _ e => e) fun q hq => hh _ fun z => nd.1 (z ▸ hq))
      | succ i =>
        have e' : es[i]? = some (some (.o b x)) := by simpa using e
        obtain ⟨a2, e2, _, m2, _⟩ := k.getO e'
        have ea : a2 = a := by
          have : _ = some (some (V.ref a)) := (by simpa using ev)
          rw [this] at e2
          cases e2
          rfl
        subst ea
        have na : a' ≠ a2 := fun z => nd.1 (z ▸ m2)
        exact .o (ho.mono (fun _ _ e => e) (hh _ na)) hb (ih nd.2 k e' (by simpa using ev) hh hc)
    | @q a' ks' dss' _ _ qs own ho k =>
      cases i with
      | zero => simp at e
      | succ i =>
        have e' : es[i]? = some (some (.o b x)) := by simpa using e
        obtain ⟨a2, e2, _, m2, _⟩ := k.getO e'
        have n2 := (List.nodup_append.mp nd)
        have ea : a2 = a := by
          have : _ = some (some (V.ref a)) := (by simpa using ev)
          rw [this] at e2
          cases e2
          rfl
        subst ea
        exact .q (ho.mono (fun _ _ e => e) fun p hp => hh _ fun z => n2.2.2 p hp a2 m2 z) (ih n2.2.1 k e' (by simpa using ev) hh hc)
theorem Rep.write {ds : List D} {us : List V} {i : Nat} {b : Option Nat} {x y : D} {a : Addr} {u o : HO} (e : ρ[i]? = some (some (.o b x))) (ev : σ[i]? = some (some (.ref a))) (hl : us.length = ds.length) (r : Rep c B (tmp ds ++ ts) (tmv us ++ vs) ρ σ H) (hu : H a = some u) (cu : isCell u)
    (hy : ∀ G H', H' a = some o → Cell c G H a x → RpAll c G us ds → Cell c G H' a y) : Rep c B ts vs (ρ.set i (some (.o b y))) σ (upd H a o) := by
  obtain ⟨G, o1, o2, k, h1, h2⟩ := r
  obtain ⟨a1, a2⟩ := h1.tmp hl
  obtain ⟨a', e1, hc, hm, _⟩ := h2.getO e
  rw [ev] at e1
  cases e1
  have nd := k.nd
  rw [List.nodup_append] at nd
  refine ⟨G, o1, o2, k.write (List.mem_append_right _ hm) hu cu, a2.mono (fun _ _ e => e) fun q hq => ?_, h2.write nd.2.1 e ev (fun q hq => upd_ne hq) (hy G _ upd_same hc a1)⟩
  exact upd_ne fun z => nd.2.2 q hq a hm z
end
/-! ### what a reading makes of a state -/
def Post {α : Type} (K : α → En → Prop) (E : Err → En → Prop) : Out α → Prop
  | .ok a ρ => K a ρ
  | .err e ρ => E e ρ
  | .stuck => False
theorem post_then {α β : Type} {K : β → En → Prop} {E : Err → En → Prop} {m : Out α} {f : α → En → Out β} : Post K E (m.then f) ↔ Post (fun a ρ => Post K E (f a ρ)) E m := by
  cases m <;> exact Iff.rfl
theorem Post.imp {α : Type} {K K' : α → En → Prop} {E E' : Err → En → Prop} {m : Out α} (h : Post K E m) (hk : ∀ a ρ, K a ρ → K' a ρ) (he : ∀ e ρ, E e ρ → E' e ρ) : Post K' E' m := by
  cases m with
  | ok a ρ => exact hk _ _ h
  | err e ρ => exact he _ _ h
  | stuck => exact h
theorem Post.imp1 {α : Type} {K K' : α → En → Prop} {E : Err → En → Prop} {m : Out α} (h : Post K E m) (hk : ∀ a ρ, K a ρ → K' a ρ) : Post K' E m := h.imp hk fun _ _ h => h
section
variable (c : Cfg) (W : WX)
/-- what is wanted of an exception -/
def ErrP (B : Base) (ts : En) (vs : List (Option V)) (σ : L2.St) (e : Err) (ρ : En) : Prop := ∀ k d H', c.err e k d H' → Rep c B ts vs ρ σ H' → W k d σ H'
def OkP (B : Base) (ts : En) (vs : List (Option V)) (σ : L2.St) (Q : VK) (s : S) (ρ : En) : Prop := ∀ v H', Rep c B (some s :: ts) (some v :: vs) ρ σ H' → Q v H'
def OkT (B : Base) (ts : En) (vs : List (Option V)) (σ : L2.St) (Q : Bool → Hp → Prop) (b : Bool) (ρ : En) : Prop := ∀ H', Rep c B ts vs ρ σ H' → Q b H'
def OkA (B : Base) (ts : En) (vs : List (Option V)) (σ : L2.St) (Q : List V → Hp → Prop) (ds : List D) (ρ : En) : Prop := ∀ us H', us.length = ds.length → Rep c B (tmp ds ++ ts) (tmv us ++ vs) ρ σ H' → Q us H'
def Den (te : TE) (f : M S) : Prop := ∀ B ts vs ρ σ H Q, Rep c B ts vs ρ σ H → Post (OkP c B ts vs σ Q) (ErrP c W B ts vs σ) (f ρ) → te σ H Q
def DenT (tt : TT) (f : M Bool) : Prop := ∀ B ts vs ρ σ H Q, Rep c B ts vs ρ σ H → Post (OkT c B ts vs σ Q) (ErrP c W B ts vs σ) (f ρ) → tt σ H Q
def DenA (ta : TA) (f : M (List D)) : Prop := ∀ B ts vs ρ σ H Q, Rep c B ts vs ρ σ H → Post (OkA c B ts vs σ Q) (ErrP c W B ts vs σ) (f ρ) → ta σ H Q
end
/-- a value that stays -/
def toD : S → Option D
  | .d x => some x
  | .o none x => if canFz x then some x else none
  | .o (some _) _ => none
  | .q _ _ => none
def dv (f : M S) : M D := fun ρ => (f ρ).then fun s ρ' => match toD s with
  | some x => .ok x ρ'
  | none => .stuck
section
variable {c : Cfg} {W : WX} {B : Base} {H : Hp} {ts : En} {vs : List (Option V)} {ρ : En} {σ : L2.St}
theorem ErrP.drop {s : Option S} {v : Option V} {e : Err} {ρ : En} (h : ErrP c W B ts vs σ e ρ) : ErrP c W B (s :: ts) (v :: vs) σ e ρ := fun k d H' he r => h k d H' he r.drop
theorem Rep.toD {s : S} {x : D} {v : V} (h : toD s = some x) (r : Rep c B (some s :: ts) (some v :: vs) ρ σ H) : Rep c B (some (.d x) :: ts) (some v :: vs) ρ σ H := by
  cases s with
  | d y => cases h; exact r
  | o b y =>
    cases b with
    | some _ => cases h
    | none =>
      have h : (if canFz y then some y else none) = some x := h
      split at h
      · rename_i hy
        cases h
        exact r.fz hy
      · cases h
  | q _ _ => cases h
theorem Den.dv {te : TE} {f : M S} {Q : VK} (h : Den c W te f) (r : Rep c B ts vs ρ σ H) (q : Post (fun x ρ' => ∀ v H', Rep c B (some (.d x) :: ts) (some v :: vs) ρ' σ H' → Q v H') (ErrP c W B ts vs σ) (dv f ρ)) : te σ H Q := by
  refine h B ts vs ρ σ H Q r ?_
  unfold Fx.dv at q
  rw [post_then] at q
  refine q.imp1 fun s ρ' p v H' r' => ?_
  split at p
  · rename_i x hx
    exact p v H' (r'.toD hx)
  · exact p.elim
end
def mVar (i : Nat) : M S := fun ρ => match ρ[i]? with
  | some (some (.d x)) => .ok (.d x) ρ
  | some (some (.o none x)) => if canFz x then .ok (.d x) (ρ.set i (some (.d x))) else .stuck
  | _ => .stuck
def mC (x : D) : M S := fun ρ => .ok (.d x) ρ
/-- a value of two, one, some -/
def mOp (g : D → D → Option S) (fa fb : M S) : M S := fun ρ => (dv fa ρ).then fun x ρ1 => (dv fb ρ1).then fun y ρ2 => match g x y with
  | some s => .ok s ρ2
  | none => .stuck
def mUn (g : D → Option S) (fa : M S) : M S := fun ρ => (dv fa ρ).then fun x ρ1 => match g x with
  | some s => .ok s ρ1
  | none => .stuck
def aNil : M (List D) := fun ρ => .ok [] ρ
def aCons (fa : M S) (fr : M (List D)) : M (List D) := fun ρ => (dv fa ρ).then fun x ρ1 => (fr ρ1).then fun ds ρ2 => .ok (x :: ds) ρ2
def mCB (g : List D → Option S) (fa : M (List D)) : M S := fun ρ => (fa ρ).then fun ds ρ1 => match g ds with
  | some s => .ok s ρ1
  | none => .stuck
/-- an operation on values does on data what g does -/
def OpDen (c : Cfg) (r : R2) (g : D → D → Option S) : Prop := ∀ (B : Base) (ts : En) (vs : List (Option V)) (ρ : En) (σ : L2.St) (H : Hp) (Q : VK) (x y : D) (v u : V) (s : S),
  Rep c B (some (.d y) :: some (.d x) :: ts) (some u :: some v :: vs) ρ σ H → g x y = some s → OkP c B ts vs σ Q s ρ → r v u H Q
def CbDen (c : Cfg) (r : List V → Hp → VK → Prop) (g : List D → Option S) : Prop := ∀ (B : Base) (ts : En) (vs : List (Option V)) (ρ : En) (σ : L2.St) (H : Hp) (Q : VK) (ds : List D) (us : List V) (s : S),
  us.length = ds.length → Rep c B (tmp ds ++ ts) (tmv us ++ vs) ρ σ H → g ds = some s → OkP c B ts vs σ Q s ρ → r us H Q
section
variable {c : Cfg} {W : WX} {ta tb tc : TE} {fa fb fc : M S} {tt tu : TT} {ft fu : M Bool}
theorem den_var {i : Nat} : Den c W (tVar i) (mVar i) := by
  intro B ts vs ρ σ H Q r h
  unfold mVar at h
  split at h
  · rename_i x e
    obtain ⟨v, e1, r1⟩ := r.var e
    exact ⟨v, e1, h v H r1⟩
  · rename_i x e
    split at h
    · rename_i hx
      have r1 := r.fzAt hx e
      have hlt := (List.getElem?_eq_some_iff.mp e).1
      have e2 : (ρ.set i (some (.d x)))[i]? = some (some (.d x)) := by rw [List.getElem?_set_self hlt]
      obtain ⟨v, e1, r2⟩ := r1.var e2
      exact ⟨v, e1, h v H r2⟩
    · exact h.elim
  · exact h.elim
theorem den_c {v : V} {x : D} (hx : ∀ G, Rp c G v x) : Den c W (tC v) (mC x) := fun B ts vs ρ σ H Q r h => h v H (Rep.repl (ds := []) (us := []) r rfl fun G _ => hx G)
theorem den_op {r : R2} {g : D → D → Option S} (ho : OpDen c r g) (ha : Den c W ta fa) (hb : Den c W tb fb) : Den c W (tOp r ta tb) (mOp g fa fb) := by
  intro B ts vs ρ σ H Q rp h
  unfold mOp at h
  rw [post_then] at h
  refine ha.dv rp (h.imp1 fun x ρ1 h v H1 r1 => ?_)
  rw [post_then] at h
  refine hb.dv r1 (h.imp (fun y ρ2 h u H2 r2 => ?_) fun _ _ h => h.drop)
  split at h
  · rename_i s hs
    exact ho B ts vs ρ2 σ H2 Q x y v u s r2 hs h
  · exact h.elim
theorem den_nil : DenA c W tNil aNil := fun B ts vs ρ σ H Q r h => h [] H rfl r
theorem den_cons {tr : TA} {fr : M (List D)} (ha : Den c W ta fa) (hr : DenA c W tr fr) : DenA c W (tCons ta tr) (aCons fa fr) := by
  intro B ts vs ρ σ H Q rp h
  unfold aCons at h
  rw [post_then] at h
  refine ha.dv rp (h.imp1 fun x ρ1 h v H1 r1 => ?_)
  rw [post_then] at h
  refine hr B _ _ ρ1 σ H1 _ r1 (h.imp (fun ds ρ2 h us H2 hl r2 => ?_) fun _ _ h => h.drop)
  refine h (v :: us) H2 (by simp [hl]) ?_
  unfold tmp tmv
  rw [List.reverse_cons, List.map_append, List.reverse_cons, List.map_append, List.append_assoc, List.append_assoc]
  exact r2
theorem den_cb {r : List V → Hp → VK → Prop} {g : List D → Option S} {tA : TA} {fA : M (List D)} (ho : CbDen c r g) (ha : DenA c W tA fA) : Den c W (tCB r tA) (mCB g fA) := by
  intro B ts vs ρ σ H Q rp h
  unfold mCB at h
  rw [post_then] at h
  refine ha B ts vs ρ σ H _ rp (h.imp1 fun ds ρ1 h us H1 hl r1 => ?_)
  split at h
  · rename_i s hs
    exact ho B ts vs ρ1 σ H1 Q ds us s hl r1 hs h
  · exact h.elim
end
end Fx
/-! tuples that a def makes, with their objects: no attributes -/
namespace Fx
open PySem PySem.Spec PyProof.Rows L2
section
variable {X : Cx} {es : List Expr} {pos : Pos} {t : TA}
/-- what a new tuple's place holds -/
def NewT (H : Hp) (xs : List V) (Q : VK) : Prop := ∀ (p : Addr) (o : Obj), H p = none → o.dict = none → Q (.ref p) (upd H p (.frz o (.tup xs)))
theorem newT_laid {pins : List (Addr × Obj)} {σ : L2.St} {H : Hp} {s : Shared} {xs : List V} {us : List Value} {Q : VK} (I : Inv X pins σ H s) (z : xs.length ≤ sizeLine) (r : Vals xs us) (q : NewT H xs Q) :
    EP X pins σ Q (.ref s.heap.objs.size) { s with heap := s.heap.push { cls := .type "tuple", data := .seq us.toArray } } := by
  have free : H s.heap.objs.size = none := I.hok.fresh (Nat.le_refl _)
  have isT : IsTup (s.heap.push { cls := .type "tuple", data := .seq us.toArray }) s.heap.objs.size us.toArray := IsTup.new _ _
  have got : (s.heap.push { cls := .type "tuple", data := .seq us.toArray }).get? s.heap.objs.size = some { cls := .type "tuple", data := .seq us.toArray } := Heap.get?_push_size _ rfl
  refine ⟨.ref s.heap.objs.size, _, I.laid (t' := s.toks) (o := .frz { cls := .type "tuple", data := .seq us.toArray } (.tup xs)) (fun _ _ e => Heap.get?_push_of_some _ e) (Nat.le_refl _) ⟨got, z, us, r, isT⟩, rfl, q _ _ free rfl⟩
def tTupN (t : TA) : TE := fun σ H Q => t σ H fun xs H1 => xs.length ≤ sizeLine ∧ NewT H1 xs Q
theorem pe_tupN {kk} (h : PA X es t) : PE X (.Tuple es kk pos) (tTupN t) :=
  ⟨fun pins s σ H Q I hq => wpAny_Tuple_spliced (thn (h.run pos pins s σ H _ I hq) fun us s1 ⟨xs, H1, I1, r, z, q⟩ => ⟨r.length ▸ z, newT_laid I1 z r q⟩)⟩
/-- tuple(x) -/
def rTupN (K : PySem.W.Frag) : List V → Hp → VK → Prop := fun xs H Q => ∃ p ys, xs = [.ref p] ∧ ((SqL K H p ys ∧ NewT H ys Q) ∨ (SqT K H p ys ∧ Q (.ref p) H))
theorem call_tupN : CallR X (.type "tuple") (rTupN X.K) := by
  rintro pins s σ H xs us Q I r ⟨p, ys, rfl, hh⟩
  obtain ⟨u, rfl, rx⟩ := vals1 r
  cases rx
  cases hh with
  | inl hh =>
    obtain ⟨its, r', pl, hz⟩ := I.list hh.1
    refine call_tuple_list pl.isList (fun h' kp => newT_laid (I.kept (t' := s.toks) kp) hz r' hh.2) ?_
    have := r'.length
    simp only [List.size_toArray]
    omega
  | inr hh =>
    obtain ⟨its, r', pl, _⟩ := I.tuple hh.1
    exact call_tuple_same pl ⟨.ref p, H, I, rfl, hh.2⟩
/-- t + u -/
def rCatN (K : PySem.W.Frag) : R2 := fun x y H Q => ∃ a b xs ys, x = .ref a ∧ y = .ref b ∧ SqT K H a xs ∧ SqT K H b ys ∧ xs.length + ys.length ≤ sizeLine ∧
  (xs = [] → Q (.ref b) H) ∧ (xs ≠ [] → ys = [] → Q (.ref a) H) ∧ (xs ≠ [] → ys ≠ [] → NewT H (xs ++ ys) Q)
theorem op_catN : OpR X (binaryOp .Add) (rCatN X.K) := by
  rintro pins s σ H x y v u Q I rx ry ⟨a, b, xs, ys, rfl, rfl, ha, hb, hz, q0, q1, q2⟩
  cases rx
  cases ry
  obtain ⟨us, r1, p1, _⟩ := I.tuple ha
  obtain ⟨ws, r2, p2, _⟩ := I.tuple hb
  by_cases hx : xs = []
  · subst hx
    cases r1
    exact cat_tup0 p1 p2 ⟨.ref b, H, I, rfl, q0 rfl⟩
  · refine HT.cat_tup p1 p2 (fun z => hx (r1.nil_iff.mp z)) (fun z => ⟨.ref a, H, I, rfl, q1 hx (r2.nil_iff.mp z)⟩) (fun z => ?_) (by rw [← r1.length, ← r2.length]; exact hz)
    exact newT_laid I (by rw [List.length_append]; exact hz) (r1.append r2) (q2 hx fun w => z (r2.nil_iff.mpr w))
/-- t[lo:hi] -/
def rSlN (K : PySem.W.Frag) : V → Option Int → Option Int → Hp → VK → Prop := fun x lo hi H Q => ∃ a xs, x = .ref a ∧ SqT K H a xs ∧
  (HT.sIx xs.length 0 lo = 0 ∧ HT.sIx xs.length xs.length hi = xs.length → Q (.ref a) H) ∧ (¬ (HT.sIx xs.length 0 lo = 0 ∧ HT.sIx xs.length xs.length hi = xs.length) → NewT H (cutV xs lo hi) Q)
theorem sl_tupN : SlR X (rSlN X.K) := by
  rintro pins s σ H x v vl vu lo hi sl Q I rx hs pl pu ⟨a, xs, rfl, hx, q1, q2⟩
  cases rx
  obtain ⟨us, r, ht, hz⟩ := I.tuple hx
  have n : us.toArray.size = xs.length := by rw [List.size_toArray, r.length]
  refine ⟨"tuple", _, PyProof.Rows.slot_tuple_getitem.lookup, ht.typeIs, ?_⟩
  by_cases hw : HT.sIx xs.length 0 lo = 0 ∧ HT.sIx xs.length xs.length hi = xs.length
  · exact getItem_tuple_whole ht hs pl pu (n.symm ▸ hw) ⟨.ref a, H, I, rfl, q1 hw⟩
  · refine HT.getItem_tuple_cut ht hs pl pu (n.symm ▸ hw) ?_ (n.symm ▸ hz)
    rw [n]
    exact newT_laid I (Nat.le_trans (cutV_length xs lo hi) hz) ((r.drop (HT.sIx xs.length 0 lo)).take (HT.sIx xs.length xs.length hi - HT.sIx xs.length 0 lo)) (q2 hw)
end
end Fx
/-! operations on data -/
namespace Fx
open PySem PySem.Spec PyProof.Rows L2
/-! ### data as the library has them -/
mutual
/-- plain, at most n deep -/
def pl : Nat → D → Bool
  | _, .non => true
  | _, .bl _ => true
  | _, .int _ => true
  | _, .str _ => true
  | n + 1, .tup ds => plA n ds
  | n + 1, .lst ds => plA n ds
  | _, _ => false
def plA : Nat → List D → Bool
  | _, [] => true
  | n, d :: ds => pl n d && plA n ds
end
mutual
def toP : D → PyData
  | .non => .none
  | .bl b => .bool b
  | .int i => .int i
  | .str s => .str s
  | .tup ds => .tuple (toPs ds)
  | .lst ds => .list (toPs ds)
  | _ => .none
def toPs : List D → List PyData
  | [] => []
  | d :: ds => toP d :: toPs ds
end
theorem toPs_map : ∀ ds : List D, toPs ds = ds.map toP
  | [] => by simp [toPs]
  | d :: ds => by simp [toPs, toPs_map ds]
mutual
theorem pl_plain : ∀ {n : Nat} {d : D}, pl n d = true → (toP d).plain = true ∧ (toP d).depth ≤ n
  | n, .non, h => by simp [toP, PyData.plain, PyData.depth]
  | n, .bl b, h => by simp [toP, PyData.plain, PyData.depth]
  | n, .int i, h => by simp [toP, PyData.plain, PyData.depth]
  | n, .str s, h => by simp [toP, PyData.plain, PyData.depth]
  | n + 1, .tup ds, h => by
    have h := plA_plain (n := n) (ds := ds) (by simpa [pl] using h)
    simp only [toP, PyData.plain, PyData.depth]
    exact ⟨h.1, by omega⟩
  | n + 1, .lst ds, h => by
    have h := plA_plain (n := n) (ds := ds) (by simpa [pl] using h)
    simp only [toP, PyData.plain, PyData.depth]
    exact ⟨h.1, by omega⟩
  | 0, .tup ds, h => by simp [pl] at h
  | 0, .lst ds, h => by simp [pl] at h
  | n, .ty _, h => by simp [pl] at h
  | n, .ins _ _, h => by simp [pl] at h
  | n, .dct _ _, h => by simp [pl] at h
  | n, .dcq _ _, h => by simp [pl] at h
  | n, .xo _ _, h => by simp [pl] at h
  | n, .exc, h => by simp [pl] at h
  | n, .rng _ _, h => by simp [pl] at h
  | n, .fu, h => by simp [pl] at h
  | n, .scr _, h => by simp [pl] at h
theorem plA_plain : ∀ {n : Nat} {ds : List D}, plA n ds = true → PyData.plainAll (toPs ds) = true ∧ PyData.depthAll (toPs ds) ≤ n
  | _, [], _ => by simp [toPs, PyData.plainAll, PyData.depthAll]
  | n, d :: ds, h => by
    simp only [plA, Bool.and_eq_true] at h
    have h1 := pl_plain h.1
    have h2 := plA_plain h.2
    simp only [toPs, PyData.plainAll, PyData.depthAll, Bool.and_eq_true]
    exact ⟨⟨h1.1, h2.1⟩, by omega⟩
end
theorem plA_all {n : Nat} : ∀ {ds : List D}, plA n ds = ds.all (pl n)
  | [] => by simp [plA]
  | d :: ds => by simp [plA, plA_all (ds := ds)]
mutual
theorem Rp.dp {c : Cfg} {G H : Hp} (s : ∀ a o, G a = some o → H a = some o) : ∀ {n : Nat} {v : V} {d : D}, pl n d = true → Rp c G v d → Dp c.K H v (toP d)
  | _, _, _, _, .non => by simp only [toP]; exact .non
  | _, _, _, _, .bl b => by simp only [toP]; exact .bl b
  | _, _, _, _, .int i => by simp only [toP]; exact .int i
  | _, _, _, _, .str x => by simp only [toP]; exact .str x
  | n + 1, _, _, h, .tup t k _ => by
    simp only [toP]
    refine .tup ?_ (RpAll.dp s (n := n) (by simpa [pl] using h) k)
    rcases t with (t | ⟨o, t⟩) | t
    · exact .inl (.inl (s _ _ t))
    · exact .inl (.inr ⟨o, s _ _ t⟩)
    · exact .inr t
  | n + 1, _, _, h, .lst t k => by
    simp only [toP]
    exact .lst (SqL.of (s _ _ t)) (RpAll.dp s (n := n) (by simpa [pl] using h) k)
  | 0, _, _, h, .tup _ _ _ => by simp [pl] at h
  | 0, _, _, h, .lst _ _ => by simp [pl] at h
  | _, _, _, h, .ty _ => by simp [pl] at h
  | _, _, _, h, .ins _ _ _ => by simp [pl] at h
  | _, _, _, h, .dct _ _ => by simp [pl] at h
  | _, _, _, h, .dcx _ _ _ _ => by simp [pl] at h
  | _, _, _, h, .xo _ => by simp [pl] at h
  | _, _, _, h, .exc _ _ _ => by simp [pl] at h
  | _, _, _, h, .rng _ => by simp [pl] at h
  | _, _, _, h, .fu _ => by simp [pl] at h
  | _, _, _, h, .scr _ => by simp [pl] at h
  | _, _, _, h, .fn _ _ => by simp [pl] at h
termination_by structural _ _ _ _ h => h
theorem RpAll.dp {c : Cfg} {G H : Hp} (s : ∀ a o, G a = some o → H a = some o) : ∀ {n : Nat} {vs : List V} {ds : List D}, plA n ds = true → RpAll c G vs ds → DpAll c.K H vs (toPs ds)
  | _, _, _, _, .nil => by simp only [toPs]; exact .nil
  | n, _, _, h, .cons t k => by
    simp only [plA, Bool.and_eq_true] at h
    simp only [toPs]
    exact .cons (Rp.dp s h.1 t) (RpAll.dp s h.2 k)
termination_by structural _ _ _ _ h => h
end
def eqD (x y : D) : Bool := PyData.eqv (toP x) (toP y)
def ok1 (x : D) : Option S := some (.d x)
/-! ### rules that take more than one kind -/
section
variable {X : Cx} {f : Value → Value → Sem Value} {r r' : R2}
theorem OpR.or (h : OpR X f r) (h' : OpR X f r') : OpR X f (fun x y H Q => r x y H Q ∨ r' x y H Q) := by
  intro pins s σ H x y v u Q I rx ry q
  rcases q with q | q
  · exact h pins s σ H x y v u Q I rx ry q
  · exact h' pins s σ H x y v u Q I rx ry q
/-- one of two, by what g does -/
def gOr (g g' : D → D → Option S) : D → D → Option S := fun x y => match g x y with
  | some s => some s
  | none => g' x y
theorem OpDen.or {c : Cfg} {g g' : D → D → Option S} (h : OpDen c r g) (h' : OpDen c r' g') : OpDen c (fun x y H Q => r x y H Q ∨ r' x y H Q) (gOr g g') := fun B ts vs ρ σ H Q x y v u s r1 e q => by
  unfold gOr at e
  split at e
  · rename_i s1 e1
    cases e
    exact .inl (h B ts vs ρ σ H Q x y v u s r1 e1 q)
  · exact .inr (h' B ts vs ρ σ H Q x y v u s r1 e q)
end
section
variable {c : Cfg} {B : Base} {ts : En} {vs : List (Option V)} {ρ : En} {σ : L2.St} {H : Hp}
/-- what waits, opened -/
structure Opn (c : Cfg) (B : Base) (ts : En) (vs : List (Option V)) (ρ : En) (σ : L2.St) (H G : Hp) : Prop where
  sub : ∀ a o, G a = some o → H a = some o
  val : ∀ {v : V} {x : D}, Rp c G v x → Rep c B (some (.d x) :: ts) (some v :: vs) ρ σ H
  new : ∀ {p : Addr} {o : HO} {x : D}, H p = none → isTbl o = false → (∀ G', (∀ a u, G a = some u → G' a = some u) → G' p = some o → Rp c G' (.ref p) x) → Rep c B (some (.d x) :: ts) (some (.ref p) :: vs) ρ σ (upd H p o)
  newO : ∀ {p : Addr} {o : HO} {x : D}, H p = none → (∀ H', H' p = some o → Cell c G H' p x) → Rep c B (some (.o none x) :: ts) (some (.ref p) :: vs) ρ σ (upd H p o)
theorem Rep.opn {ds : List D} {us : List V} (hl : us.length = ds.length) (r : Rep c B (tmp ds ++ ts) (tmv us ++ vs) ρ σ H) : ∃ G, Opn c B ts vs ρ σ H G ∧ RpAll c G us ds := by
  obtain ⟨G, o1, o2, k, h1, h2⟩ := r
  obtain ⟨a1, a2⟩ := h1.tmp hl
  refine ⟨G, ⟨k.sub, fun hv => ⟨G, o1, o2, k, .d hv a2, h2⟩, fun {p o x} hp ho hx => ?_, fun {p o x} hp hx => ?_⟩, a1⟩
  · have gp := k.gnone hp
    have ow := own_new (o := o) k hp
    exact ⟨upd G p o, o1, o2, k.alloc hp ho, .d (hx _ (upd_sub gp) upd_same) (a2.mono (upd_sub gp) fun q hq => ow q (List.mem_append_left _ hq)), h2.mono (upd_sub gp) fun q hq => ow q (List.mem_append_right _ hq)⟩
  · have ow := own_new (o := o) k hp
    exact ⟨G, p :: o1, o2, k.allocO hp, .o (hx _ upd_same) (fun _ e => nomatch e) (a2.mono (fun _ _ e => e) fun q hq => ow q (List.mem_append_left _ hq)), h2.mono (fun _ _ e => e) fun q hq => ow q (List.mem_append_right _ hq)⟩
theorem Rep.two {x y : D} {v u : V} (r : Rep c B (some (.d y) :: some (.d x) :: ts) (some u :: some v :: vs) ρ σ H) : ∃ G, Opn c B ts vs ρ σ H G ∧ Rp c G v x ∧ Rp c G u y := by
  obtain ⟨G, s, h⟩ := Rep.opn (ds := [x, y]) (us := [v, u]) rfl r
  cases h with
  | cons h1 h2 =>
    cases h2 with
    | cons h2 h3 => exact ⟨G, s, h1, h2⟩
theorem Rep.one {x : D} {v : V} (r : Rep c B (some (.d x) :: ts) (some v :: vs) ρ σ H) : ∃ G, Opn c B ts vs ρ σ H G ∧ Rp c G v x := by
  obtain ⟨G, s, h⟩ := Rep.opn (ds := [x]) (us := [v]) rfl r
  cases h with
  | cons h1 h2 => exact ⟨G, s, h1⟩
theorem SqT.up {K : PySem.W.Frag} {G H : Hp} {a : Addr} {xs : List V} (s : ∀ a o, G a = some o → H a = some o) (h : SqT K G a xs) : SqT K H a xs := by
  rcases h with (h | ⟨o, h⟩) | h
  · exact .inl (.inl (s _ _ h))
  · exact .inl (.inr ⟨o, s _ _ h⟩)
  · exact .inr h
end
theorem Rp.tupE {c : Cfg} {G : Hp} {v : V} {ds : List D} (h : Rp c G v (.tup ds)) : ∃ a xs, v = .ref a ∧ SqT c.K G a xs ∧ RpAll c G xs ds := by cases h with | tup h k n => exact ⟨_, _, rfl, h, k⟩
theorem Rp.tupN {c : Cfg} {G : Hp} {v : V} {ds : List D} (h : Rp c G v (.tup ds)) : ∃ a xs, v = .ref a ∧ SqT c.K G a xs ∧ RpAll c G xs ds ∧ (arcy ds = true → SqN G a xs) := by cases h with | tup h k n => exact ⟨_, _, rfl, h, k, n⟩
theorem Rp.lstE {c : Cfg} {G : Hp} {v : V} {ds : List D} (h : Rp c G v (.lst ds)) : ∃ a xs, v = .ref a ∧ G a = some (.lst xs) ∧ RpAll c G xs ds := by cases h with | lst h k => exact ⟨_, _, rfl, h, k⟩
theorem Rp.scrE {c : Cfg} {G : Hp} {v : V} {ns : List Int} (h : Rp c G v (.scr ns)) : ∃ a, v = .ref a ∧ SqL c.K G a (ns.map V.int) := by cases h with | scr h => exact ⟨_, rfl, h⟩
/-! ### + - * % // ** -/
def gII (f : Int → Int → Int) : D → D → Option S
  | .int i, .int j => ok1 (.int (f i j))
  | _, _ => none
def gIIc (C : Int → Int → Bool) (f : Int → Int → Int) : D → D → Option S
  | .int i, .int j => if C i j then ok1 (.int (f i j)) else none
  | _, _ => none
theorem od_II {c : Cfg} {f : Int → Int → Int} : OpDen c (rI0 fun i j => .int (f i j)) (gII f) := by
  intro B ts vs ρ σ H Q x y v u s r e q
  obtain ⟨G, O, h1, h2⟩ := r.two
  cases x <;> cases y <;> first | cases e | skip
  cases h1
  cases h2
  exact ⟨_, _, rfl, rfl, q _ _ (O.val (.int _))⟩
theorem od_IIc {c : Cfg} {C : Int → Int → Prop} {Cb : Int → Int → Bool} {f : Int → Int → Int} (hC : ∀ i j, Cb i j = true → C i j) : OpDen c (rI C fun i j => .int (f i j)) (gIIc Cb f) := by
  intro B ts vs ρ σ H Q x y v u s r e q
  obtain ⟨G, O, h1, h2⟩ := r.two
  cases x <;> cases y <;> first | cases e | skip
  rename_i i j
  have e : (if Cb i j then ok1 (.int (f i j)) else none) = some s := e
  split at e
  · rename_i hc
    cases e
    cases h1
    cases h2
    exact ⟨_, _, rfl, rfl, hC _ _ hc, q _ _ (O.val (.int _))⟩
  · cases e
def small (n : Nat) : Bool := decide (n ≤ 16777216)
theorem small_line {n : Nat} (h : small n = true) : n ≤ sizeLine := by
  rw [sizeLine_eq]
  exact of_decide_eq_true h
def gCatT : D → D → Option S
  | .tup xs, .tup ys => if small (xs.length + ys.length) then ok1 (.tup (xs ++ ys)) else none
  | _, _ => none
theorem od_catT {c : Cfg} : OpDen c (rCatN c.K) gCatT := by
  intro B ts vs ρ σ H Q x y v u s r e q
  obtain ⟨G, O, h1, h2⟩ := r.two
  cases x <;> cases y <;> first | cases e | skip
  rename_i xs ys
  have e : (if small (xs.length + ys.length) then ok1 (.tup (xs ++ ys)) else none) = some s := e
  split at e
  · rename_i hz
    cases e
    obtain ⟨a, us, rfl, ha, ka, na⟩ := h1.tupN
    obtain ⟨b, ws, rfl, hb, kb, nb⟩ := h2.tupN
    refine ⟨a, b, us, ws, rfl, rfl, SqT.up O.sub ha, SqT.up O.sub hb, by rw [ka.length, kb.length]; exact small_line hz, ?_⟩
    refine ⟨fun hx => ?_, fun hx hy => ?_, fun hx hy p o hp ho => ?_⟩
    · subst hx
      cases ka
      exact q _ _ (O.val (.tup hb kb nb))
    · subst hy
      cases kb
      rw [List.append_nil] at q
      exact q _ _ (O.val (.tup ha ka na))
    · exact q _ _ (O.new hp rfl fun G' m e => .tup (.inl (.inr ⟨o, e⟩)) ((ka.app kb).mono m) fun _ => ⟨o, e, ho⟩)
  · cases e
def gCatL : D → D → Option S
  | .lst xs, .lst ys => if small (xs.length + ys.length) then some (.o none (.lst (xs ++ ys))) else none
  | _, _ => none
theorem od_catL {c : Cfg} : OpDen c rCat gCatL := by
  intro B ts vs ρ σ H Q x y v u s r e q
  obtain ⟨G, O, h1, h2⟩ := r.two
  cases x <;> cases y <;> first | cases e | skip
  rename_i xs ys
  have e : (if small (xs.length + ys.length) then some (S.o none (.lst (xs ++ ys))) else none) = some s := e
  split at e
  · rename_i hz
    cases e
    obtain ⟨a, us, rfl, ha, ka⟩ := h1.lstE
    obtain ⟨b, ws, rfl, hb, kb⟩ := h2.lstE
    exact ⟨a, b, us, ws, rfl, rfl, O.sub _ _ ha, O.sub _ _ hb, by rw [ka.length, kb.length]; exact small_line hz, fun p hp => q _ _ (O.newO hp fun H' e => ⟨_, e, ka.app kb⟩)⟩
  · cases e
def gCatS : D → D → Option S
  | .str x, .str y => if small (x.length + y.length) then ok1 (.str (x ++ y)) else none
  | _, _ => none
theorem od_catS {c : Cfg} : OpDen c (fun x y H Q => ∃ i j, x = .str i ∧ y = .str j ∧ i.length + j.length ≤ sizeLine ∧ Q (.str (i ++ j)) H) gCatS := by
  intro B ts vs ρ σ H Q x y v u s r e q
  obtain ⟨G, O, h1, h2⟩ := r.two
  cases x <;> cases y <;> first | cases e | skip
  rename_i xs ys
  have e : (if small (xs.length + ys.length) then ok1 (.str (xs ++ ys)) else none) = some s := e
  split at e
  · rename_i hz
    cases e
    cases h1
    cases h2
    exact ⟨_, _, rfl, rfl, small_line hz, q _ _ (O.val (.str _))⟩
  · cases e
def rAddG (K : PySem.W.Frag) : R2 := fun x y H Q => rI0 (fun i j => .int (i + j)) x y H Q ∨ rCatN K x y H Q ∨ rCat x y H Q ∨ (∃ i j, x = .str i ∧ y = .str j ∧ i.length + j.length ≤ sizeLine ∧ Q (.str (i ++ j)) H)
theorem op_addG {X : Cx} : OpR X (binaryOp .Add) (rAddG X.K) := OpR.or op_add (OpR.or op_catN (OpR.or op_cat op_add_str))
def gAdd : D → D → Option S
  | .int i, .int j => ok1 (.int (i + j))
  | .tup xs, .tup ys => if small (xs.length + ys.length) then ok1 (.tup (xs ++ ys)) else none
  | .lst xs, .lst ys => if small (xs.length + ys.length) then some (.o none (.lst (xs ++ ys))) else none
  | .str x, .str y => if small (x.length + y.length) then ok1 (.str (x ++ y)) else none
  | _, _ => none
theorem od_add {c : Cfg} : OpDen c (rAddG c.K) gAdd := by
  intro B ts vs ρ σ H Q x y v u s r e q
  cases x <;> cases y <;> first | cases e | skip
  · exact .inl (od_II (f := (· + ·)) B ts vs ρ σ H Q _ _ v u _ r rfl q)
  · exact .inr (.inr (.inr (od_catS B ts vs ρ σ H Q _ _ v u s r e q)))
  · exact .inr (.inl (od_catT B ts vs ρ σ H Q _ _ v u s r e q))
  · exact .inr (.inr (.inl (od_catL B ts vs ρ σ H Q _ _ v u s r e q)))
end Fx
/-! more operations on data -/
namespace Fx
open PySem PySem.Spec PyProof.Rows L2
/-! ### - * % // ** -/
def gMinus : D → D → Option S := gII (· - ·)
theorem od_sub {c : Cfg} : OpDen c (rI0 fun i j => .int (i - j)) gMinus := od_II
def i64 (i : Int) : Bool := decide (-18446744073709551616 < i) && decide (i < 18446744073709551616)
theorem i64_iff {i : Int} : i64 i = true ↔ -(2 ^ 64) < i ∧ i < 2 ^ 64 := by
  unfold i64
  simp only [Bool.and_eq_true, decide_eq_true_eq]
  constructor <;> (intro h; constructor <;> omega)
def gMulI : D → D → Option S := gIIc (fun i j => i64 i || i64 j) (· * ·)
theorem od_mulI {c : Cfg} : OpDen c (rI CMul fun i j => .int (i * j)) gMulI := od_IIc fun i j h => by
  rw [Bool.or_eq_true, i64_iff, i64_iff] at h
  exact h
def gMod : D → D → Option S := gIIc (fun _ j => decide (0 < j)) (· % ·)
theorem od_mod {c : Cfg} : OpDen c (rI (fun _ j => 0 < j) fun i j => .int (i % j)) gMod := od_IIc fun i j h => of_decide_eq_true h
def gDiv : D → D → Option S := gIIc (fun _ j => decide (0 < j) && decide (j < 1073741824)) (· / ·)
theorem od_div {c : Cfg} : OpDen c (rI CDiv fun i j => .int (i / j)) gDiv := od_IIc fun i j h => by
  simp only [Bool.and_eq_true, decide_eq_true_eq] at h
  exact h
def gPow : D → D → Option S := gIIc (fun i j => decide (0 ≤ j) && decide (j ≤ 64) && decide (i.natAbs < 18446744073709551616)) (fun i j => i ^ j.toNat)
theorem od_pow {c : Cfg} : OpDen c (rI CPow fun i j => .int (i ^ j.toNat)) gPow := od_IIc fun i j h => by
  simp only [Bool.and_eq_true, decide_eq_true_eq] at h
  exact ⟨h.1.1, by omega, by have := h.2; omega⟩
/-- list * int -/
def gRepL : D → D → Option S
  | .lst xs, .int k => if small (xs.length * k.toNat) && decide (k < 1073741824) && decide (-1073741824 < k) then some (.o none (.lst (List.replicate k.toNat xs).flatten)) else none
  | _, _ => none
theorem RpAll.rep {c : Cfg} {G : Hp} {us : List V} {xs : List D} (h : RpAll c G us xs) : ∀ n : Nat, RpAll c G (List.replicate n us).flatten (List.replicate n xs).flatten
  | 0 => .nil
  | n + 1 => by
    rw [List.replicate_succ, List.replicate_succ, List.flatten_cons, List.flatten_cons]
    exact h.app (RpAll.rep h n)
theorem od_repL {c : Cfg} : OpDen c rRep gRepL := by
  intro B ts vs ρ σ H Q x y v u s r e q
  obtain ⟨G, O, h1, h2⟩ := r.two
  cases x <;> cases y <;> first | cases e | skip
  rename_i xs k
  have e : (if small (xs.length * k.toNat) && decide (k < 1073741824) && decide (-1073741824 < k) then some (S.o none (.lst (List.replicate k.toNat xs).flatten)) else none) = some s := e
  split at e
  · rename_i hz
    simp only [Bool.and_eq_true, decide_eq_true_eq] at hz
    cases e
    cases h2
    obtain ⟨a, us, rfl, ha, ka⟩ := h1.lstE
    exact ⟨a, k, us, rfl, rfl, O.sub _ _ ha, by omega, by omega, by rw [ka.length]; exact small_line hz.1.1, fun p hp => q _ _ (O.newO hp fun H' e => ⟨_, e, ka.rep _⟩)⟩
  · cases e
def rMulG : R2 := fun x y H Q => rI CMul (fun i j => .int (i * j)) x y H Q ∨ rRep x y H Q
theorem op_mulG {X : Cx} : OpR X (binaryOp .Mult) rMulG := OpR.or op_mul op_rep
def gMul : D → D → Option S
  | .int i, .int j => if i64 i || i64 j then ok1 (.int (i * j)) else none
  | .lst xs, .int k => if small (xs.length * k.toNat) && decide (k < 1073741824) && decide (-1073741824 < k) then some (.o none (.lst (List.replicate k.toNat xs).flatten)) else none
  | _, _ => none
theorem od_mul {c : Cfg} : OpDen c rMulG gMul := by
  intro B ts vs ρ σ H Q x y v u s r e q
  cases x <;> cases y <;> first | cases e | skip
  · exact .inl (od_mulI B ts vs ρ σ H Q _ _ v u _ r e q)
  · exact .inr (od_repL B ts vs ρ σ H Q _ _ v u s r e q)
/-! ### comparisons -/
def pl60 (d : D) : Bool := pl 60 d
theorem pl60_shaped {d : D} (h : pl60 d = true) : (toP d).plain = true ∧ (toP d).depth ≤ 60 := pl_plain h
def rEqP (K : PySem.W.Frag) (neg : Bool) : R2 := fun x y H Q => ∃ d e, Dp K H x d ∧ Dp K H y e ∧ d.plain = true ∧ e.plain = true ∧ d.depth ≤ 64 ∧ Q (.bl (if neg then !PyData.eqv d e else PyData.eqv d e)) H
section
variable {X : Cx}
theorem op_eqP (hu : X.A.units + 66 < cLine) : OpR X (compareOp .Eq) (rEqP X.K false) := by
  intro pins s σ H x y v u Q I rx ry h
  obtain ⟨d, e, hd, he, sd, se, dp, q⟩ := h
  obtain ⟨as, r1⟩ := Dp.reads I d x v hd rx
  obtain ⟨bs, r2⟩ := Dp.reads I e y u he ry
  exact SeqAt.eq_plain r1 r2 sd se (by omega) ⟨.bl _, H, I, rfl, q⟩
theorem op_neP (hu : X.A.units + 66 < cLine) : OpR X (compareOp .NotEq) (rEqP X.K true) := by
  intro pins s σ H x y v u Q I rx ry h
  obtain ⟨d, e, hd, he, sd, se, dp, q⟩ := h
  obtain ⟨as, r1⟩ := Dp.reads I d x v hd rx
  obtain ⟨bs, r2⟩ := Dp.reads I e y u he ry
  exact SeqAt.ne_plain r1 r2 sd se (by omega) ⟨.bl _, H, I, rfl, q⟩
def rInP (K : PySem.W.Frag) (neg : Bool) : R2 := fun x y H Q => ∃ d ds, Dp K H x d ∧ (Dp K H y (.list ds) ∨ Dp K H y (.tuple ds)) ∧ d.plain = true ∧ PyData.plainAll ds = true ∧ d.depth ≤ 64 ∧ Q (.bl (if neg then !(ds.any fun z => PyData.eqv z d) else ds.any fun z => PyData.eqv z d)) H
theorem op_ninP (hu : X.A.units + 66 < cLine) : OpR X (compareOp .NotIn) (rInP X.K true) := by
  intro pins s σ H x y v u Q I rx ry h
  obtain ⟨d, ds, hd, he, sd, se, dp, q⟩ := h
  obtain ⟨as, r1⟩ := Dp.reads I d x v hd rx
  rcases he with he | he
  · obtain ⟨bs, r2⟩ := Dp.reads I _ y u he ry
    exact SeqAt.notIn_list_data r2 r1 se sd (by omega) ⟨.bl _, H, I, rfl, q⟩
  · obtain ⟨bs, r2⟩ := Dp.reads I _ y u he ry
    exact SeqAt.notIn_tuple_data r2 r1 se sd (by omega) ⟨.bl _, H, I, rfl, q⟩
end
def gEq (x y : D) : Option S := if pl60 x && pl60 y then ok1 (.bl (eqD x y)) else none
def gNe (x y : D) : Option S := if pl60 x && pl60 y then ok1 (.bl (!eqD x y)) else none
theorem od_eqN {c : Cfg} (neg : Bool) {g : D → D → Option S} (hg : ∀ x y s, g x y = some s → pl60 x = true ∧ pl60 y = true ∧ s = .d (.bl (if neg then !eqD x y else eqD x y))) : OpDen c (rEqP c.K neg) g := by
  intro B ts vs ρ σ H Q x y v u s r e q
  obtain ⟨G, O, h1, h2⟩ := r.two
  obtain ⟨p1, p2, rfl⟩ := hg x y s e
  exact ⟨toP x, toP y, h1.dp O.sub p1, h2.dp O.sub p2, (pl60_shaped p1).1, (pl60_shaped p2).1, Nat.le_trans (pl60_shaped p1).2 (by decide), q _ _ (O.val (.bl _))⟩
theorem od_eq {c : Cfg} : OpDen c (rEqP c.K false) gEq := od_eqN false fun x y s e => by
  unfold gEq at e
  split at e
  · rename_i h
    rw [Bool.and_eq_true] at h
    cases e
    exact ⟨h.1, h.2, rfl⟩
  · cases e
theorem od_ne {c : Cfg} : OpDen c (rEqP c.K true) gNe := od_eqN true fun x y s e => by
  unfold gNe at e
  split at e
  · rename_i h
    rw [Bool.and_eq_true] at h
    cases e
    exact ⟨h.1, h.2, rfl⟩
  · cases e
/-- the items of a list, a tuple -/
def itemsD : D → Option (List D)
  | .tup ds => some ds
  | .lst ds => some ds
  | _ => none
def inD (x : D) (ds : List D) : Bool := ds.any fun z => eqD z x
def gInN (neg : Bool) (x y : D) : Option S := match itemsD y with
  | some ds => if pl60 x && plA 60 ds then ok1 (.bl (if neg then !inD x ds else inD x ds)) else none
  | none => none
def gNotIn : D → D → Option S := gInN true
def gBB (f : Int → Int → Bool) : D → D → Option S
  | .int i, .int j => ok1 (.bl (f i j))
  | _, _ => none
theorem od_BB {c : Cfg} {f : Int → Int → Bool} : OpDen c (rI0 fun i j => .bl (f i j)) (gBB f) := by
  intro B ts vs ρ σ H Q x y v u s r e q
  obtain ⟨G, O, h1, h2⟩ := r.two
  cases x <;> cases y <;> first | cases e | skip
  cases h1
  cases h2
  exact ⟨_, _, rfl, rfl, q _ _ (O.val (.bl _))⟩
def gLt : D → D → Option S := gBB fun i j => decide (i < j)
def gLe : D → D → Option S := gBB fun i j => decide (i ≤ j)
def gGt : D → D → Option S := gBB fun i j => decide (j < i)
def gGe : D → D → Option S := gBB fun i j => decide (j ≤ i)
def isN : D → Bool
  | .non => true
  | _ => false
def gIsN (x y : D) : Option S := if isN y then ok1 (.bl (isN x)) else none
def gNotN (x y : D) : Option S := if isN y then ok1 (.bl (!isN x)) else none
theorem Rp.isN {c : Cfg} {G : Hp} {v : V} {x : D} (h : Rp c G v x) : decide (v = .non) = isN x := by
  cases h <;> rfl
theorem od_isN {c : Cfg} : OpDen c (fun x y H Q => y = .non ∧ Q (.bl (decide (x = .non))) H) gIsN := by
  intro B ts vs ρ σ H Q x y v u s r e q
  obtain ⟨G, O, h1, h2⟩ := r.two
  unfold gIsN at e
  split at e
  · rename_i hy
    cases e
    have : u = .non := by
      rw [← h2.isN] at hy
      exact of_decide_eq_true hy
    exact ⟨this, by rw [h1.isN]; exact q _ _ (O.val (.bl _))⟩
  · cases e
theorem od_notN {c : Cfg} : OpDen c (fun x y H Q => y = .non ∧ Q (.bl (!decide (x = .non))) H) gNotN := by
  intro B ts vs ρ σ H Q x y v u s r e q
  obtain ⟨G, O, h1, h2⟩ := r.two
  unfold gNotN at e
  split at e
  · rename_i hy
    cases e
    have : u = .non := by
      rw [← h2.isN] at hy
      exact of_decide_eq_true hy
    exact ⟨this, by rw [h1.isN]; exact q _ _ (O.val (.bl _))⟩
  · cases e
/-! ### subscripts -/
def gIx : D → D → Option S
  | .tup xs, .int i => (atI xs i).bind ok1
  | .lst xs, .int i => (atI xs i).bind ok1
  | .scr ns, .int i => (atI ns i).bind fun n => ok1 (.int n)
  | .str z, .int i => if small z.length then (atI z.cps.toList i).bind fun k => ok1 (.str ⟨#[k]⟩) else none
  | _, _ => none
theorem RpAll.atI {c : Cfg} {G : Hp} {us : List V} {xs : List D} {i : Int} {d : D} (h : RpAll c G us xs) (e : atI xs i = some d) : ∃ v, atI us i = some v ∧ Rp c G v d := by
  unfold L2.atI at e ⊢
  rw [h.length]
  cases e1 : ixN xs.length i with
  | none => rw [e1] at e; cases e
  | some j =>
    rw [e1] at e
    exact h.get e
theorem atI_map {α β : Type} {f : α → β} {xs : List α} {i : Int} : atI (xs.map f) i = (atI xs i).map f := by
  unfold atI
  rw [List.length_map]
  cases ixN xs.length i with
  | none => rfl
  | some j => exact List.getElem?_map
theorem od_ix {c : Cfg} : OpDen c (rIx c.K) gIx := by
  intro B ts vs ρ σ H Q x y v u s r e q
  obtain ⟨G, O, h1, h2⟩ := r.two
  cases x <;> cases y <;> first | cases e | skip
  · rename_i z i
    have e : (if small z.length then (atI z.cps.toList i).bind fun k => ok1 (.str ⟨#[k]⟩) else none) = some s := e
    split at e
    · rename_i hz
      cases h1
      cases h2
      cases e1 : atI z.cps.toList i with
      | none => rw [e1] at e; cases e
      | some k =>
        rw [e1] at e
        cases e
        exact .inr (.inr ⟨z, i, k, rfl, rfl, small_line hz, e1, q _ _ (O.val (.str _))⟩)
    · cases e
  · rename_i xs i
    have e : (atI xs i).bind ok1 = some s := e
    cases e1 : atI xs i with
    | none => rw [e1] at e; cases e
    | some d =>
      rw [e1] at e
      cases e
      cases h2
      obtain ⟨a, us, rfl, ha, ka⟩ := h1.tupE
      obtain ⟨w, e2, hw⟩ := ka.atI e1
      exact .inr (.inl ⟨a, us, i, w, rfl, rfl, SqT.up O.sub ha, e2, q _ _ (O.val hw)⟩)
  · rename_i xs i
    have e : (atI xs i).bind ok1 = some s := e
    cases e1 : atI xs i with
    | none => rw [e1] at e; cases e
    | some d =>
      rw [e1] at e
      cases e
      cases h2
      obtain ⟨a, us, rfl, ha, ka⟩ := h1.lstE
      obtain ⟨w, e2, hw⟩ := ka.atI e1
      exact .inl ⟨a, us, i, w, rfl, rfl, SqL.of (O.sub _ _ ha), e2, q _ _ (O.val hw)⟩
  · rename_i ns i
    have e : (atI ns i).bind (fun n => ok1 (.int n)) = some s := e
    cases e1 : atI ns i with
    | none => rw [e1] at e; cases e
    | some n =>
      rw [e1] at e
      cases e
      cases h2
      obtain ⟨a, rfl, ha⟩ := h1.scrE
      exact .inl ⟨a, _, i, _, rfl, rfl, Same.seq O.sub ha, by rw [atI_map, e1]; rfl, q _ _ (O.val (.int _))⟩
/-! ### displays -/
def mTup (fa : M (List D)) : M S := fun ρ => (fa ρ).then fun ds ρ1 => if small ds.length then .ok (.d (.tup ds)) ρ1 else .stuck
def mLst (fa : M (List D)) : M S := fun ρ => (fa ρ).then fun ds ρ1 => if small ds.length then .ok (.o none (.lst ds)) ρ1 else .stuck
section
variable {c : Cfg} {W : WX} {tA : TA} {fA : M (List D)}
theorem den_tup (ha : DenA c W tA fA) : Den c W (tTupN tA) (mTup fA) := by
  intro B ts vs ρ σ H Q rp h
  unfold mTup at h
  rw [post_then] at h
  refine ha B ts vs ρ σ H _ rp (h.imp1 fun ds ρ1 h us H1 hl r1 => ?_)
  split at h
  · rename_i hz
    obtain ⟨G, O, k⟩ := r1.opn hl
    exact ⟨by rw [hl]; exact small_line hz, fun p o hp ho => h _ _ (O.new hp rfl fun G' m e => .tup (.inl (.inr ⟨o, e⟩)) (k.mono m) fun _ => ⟨o, e, ho⟩)⟩
  · exact h.elim
theorem den_lst (ha : DenA c W tA fA) : Den c W (tLst tA) (mLst fA) := by
  intro B ts vs ρ σ H Q rp h
  unfold mLst at h
  rw [post_then] at h
  refine ha B ts vs ρ σ H _ rp (h.imp1 fun ds ρ1 h us H1 hl r1 => ?_)
  split at h
  · rename_i hz
    obtain ⟨G, O, k⟩ := r1.opn hl
    exact ⟨by rw [hl]; exact small_line hz, fun p hp => h _ _ (O.newO hp fun H' e => ⟨_, e, k⟩)⟩
  · exact h.elim
end
/-! ### calls of built-ins -/
theorem Rep.one' {c : Cfg} {B : Base} {ts : En} {vs : List (Option V)} {ρ : En} {σ : L2.St} {H : Hp} {x : D} {us : List V} (hl : us.length = [x].length) (r : Rep c B (tmp [x] ++ ts) (tmv us ++ vs) ρ σ H) : ∃ v, us = [v] ∧ ∃ G, Opn c B ts vs ρ σ H G ∧ Rp c G v x := by
  obtain ⟨G, O, k⟩ := r.opn hl
  cases k with
  | cons h k =>
    cases k
    exact ⟨_, rfl, G, O, h⟩
theorem Rep.two' {c : Cfg} {B : Base} {ts : En} {vs : List (Option V)} {ρ : En} {σ : L2.St} {H : Hp} {x y : D} {us : List V} (hl : us.length = [x, y].length) (r : Rep c B (tmp [x, y] ++ ts) (tmv us ++ vs) ρ σ H) : ∃ v w, us = [v, w] ∧ ∃ G, Opn c B ts vs ρ σ H G ∧ Rp c G v x ∧ Rp c G w y := by
  obtain ⟨G, O, k⟩ := r.opn hl
  cases k with
  | cons h k =>
    cases k with
    | cons h' k =>
      cases k
      exact ⟨_, _, rfl, G, O, h, h'⟩
def rLenG (K : PySem.W.Frag) : List V → Hp → VK → Prop := fun xs H Q => (∃ p ys, xs = [.ref p] ∧ (SqL K H p ys ∨ SqT K H p ys) ∧ Q (.int ys.length) H) ∨ (∃ z, xs = [.str z] ∧ z.length ≤ sizeLine ∧ Q (.int z.length) H)
theorem cr_lenG {X : Cx} : CallR X (.builtin "len") (rLenG X.K) := CallR.or call_len_seq call_len_str
def lenD : D → Option Nat
  | .tup ds => some ds.length
  | .lst ds => some ds.length
  | .scr ns => some ns.length
  | .str z => if small z.length then some z.length else none
  | _ => none
def gLen : List D → Option S
  | [x] => (lenD x).bind fun n => ok1 (.int n)
  | _ => none
theorem cd_len {c : Cfg} : CbDen c (rLenG c.K) gLen := by
  intro B ts vs ρ σ H Q ds us s hl r e q
  match ds, hl, r, e with
  | [x], hl, r, e =>
    obtain ⟨v, rfl, G, O, h⟩ := r.one' hl
    have e : (lenD x).bind (fun n => ok1 (.int n)) = some s := e
    cases x with
    | str z =>
      have e : ((if small z.length then some z.length else none).bind fun n => ok1 (.int n)) = some s := e
      split at e
      · rename_i hz
        cases e
        cases h
        exact .inr ⟨z, rfl, small_line hz, q _ _ (O.val (.int _))⟩
      · cases e
    | tup ds =>
      cases e
      obtain ⟨a, xs, rfl, ha, ka⟩ := h.tupE
      exact .inl ⟨a, xs, rfl, .inr (SqT.up O.sub ha), by rw [ka.length]; exact q _ _ (O.val (.int _))⟩
    | lst ds =>
      cases e
      obtain ⟨a, xs, rfl, ha, ka⟩ := h.lstE
      exact .inl ⟨a, xs, rfl, .inl (SqL.of (O.sub _ _ ha)), by rw [ka.length]; exact q _ _ (O.val (.int _))⟩
    | scr ns =>
      cases e
      obtain ⟨a, rfl, ha⟩ := h.scrE
      exact .inl ⟨a, _, rfl, .inl (Same.seq O.sub ha), by rw [List.length_map]; exact q _ _ (O.val (.int _))⟩
    | _ => cases e
  | [], _, _, e => cases e
  | _ :: _ :: _, _, _, e => cases e
/-- tuple(x), list(x) of a list, a tuple -/
def gTuple : List D → Option S
  | [.tup ds] => ok1 (.tup ds)
  | [.lst ds] => ok1 (.tup ds)
  | _ => none
theorem cd_tuple {c : Cfg} : CbDen c (rTupN c.K) gTuple := by
  intro B ts vs ρ σ H Q ds us s hl r e q
  match ds, hl, r, e with
  | [.tup ds], hl, r, e =>
    cases e
    obtain ⟨v, rfl, G, O, h⟩ := r.one' hl
    obtain ⟨a, xs, rfl, ha, ka, na⟩ := h.tupN
    exact ⟨a, xs, rfl, .inr ⟨SqT.up O.sub ha, q _ _ (O.val (.tup ha ka na))⟩⟩
  | [.lst ds], hl, r, e =>
    cases e
    obtain ⟨v, rfl, G, O, h⟩ := r.one' hl
    obtain ⟨a, xs, rfl, ha, ka⟩ := h.lstE
    exact ⟨a, xs, rfl, .inl ⟨SqL.of (O.sub _ _ ha), fun p o hp ho => q _ _ (O.new hp rfl fun G' m e => .tup (.inl (.inr ⟨o, e⟩)) (ka.mono m) fun _ => ⟨o, e, ho⟩)⟩⟩
def gList : List D → Option S
  | [.tup ds] => some (.o none (.lst ds))
  | [.lst ds] => some (.o none (.lst ds))
  | _ => none
theorem cd_list {c : Cfg} : CbDen c (fun xs H Q => ∃ p ys, xs = [.ref p] ∧ (SqL c.K H p ys ∨ SqT c.K H p ys) ∧ ∀ l, H l = none → Q (.ref l) (upd H l (.lst ys))) gList := by
  intro B ts vs ρ σ H Q ds us s hl r e q
  match ds, hl, r, e with
  | [.tup ds], hl, r, e =>
    cases e
    obtain ⟨v, rfl, G, O, h⟩ := r.one' hl
    obtain ⟨a, xs, rfl, ha, ka⟩ := h.tupE
    exact ⟨a, xs, rfl, .inr (SqT.up O.sub ha), fun p hp => q _ _ (O.newO hp fun H' e => ⟨_, e, ka⟩)⟩
  | [.lst ds], hl, r, e =>
    cases e
    obtain ⟨v, rfl, G, O, h⟩ := r.one' hl
    obtain ⟨a, xs, rfl, ha, ka⟩ := h.lstE
    exact ⟨a, xs, rfl, .inl (SqL.of (O.sub _ _ ha)), fun p hp => q _ _ (O.newO hp fun H' e => ⟨_, e, ka⟩)⟩
/-- all, any of a list of bools -/
def blsD : List D → Option (List Bool)
  | [] => some []
  | .bl b :: ds => (blsD ds).map (b :: ·)
  | _ => none
theorem RpAll.bls {c : Cfg} {G : Hp} : ∀ {us : List V} {ds : List D} {bs : List Bool}, blsD ds = some bs → RpAll c G us ds → us = bs.map V.bl
  | _, [], _, e, h => by cases e; cases h; rfl
  | _, d :: ds, bs, e, h => by
    cases d <;> first | cases e | skip
    rename_i b
    have e : (blsD ds).map (b :: ·) = some bs := e
    cases e1 : blsD ds with
    | none => rw [e1] at e; cases e
    | some bs' =>
      rw [e1] at e
      cases e
      cases h with
      | cons h k =>
        cases h
        rw [k.bls e1]
        rfl
def gAll : List D → Option S
  | [.lst ds] => (blsD ds).bind fun bs => ok1 (.bl (bs.all id))
  | _ => none
theorem cd_all {c : Cfg} : CbDen c (rAll c.K) gAll := by
  intro B ts vs ρ σ H Q ds us s hl r e q
  match ds, hl, r, e with
  | [.lst ds], hl, r, e =>
    obtain ⟨v, rfl, G, O, h⟩ := r.one' hl
    obtain ⟨a, xs, rfl, ha, ka⟩ := h.lstE
    have e : (blsD ds).bind (fun bs => ok1 (.bl (bs.all id))) = some s := e
    cases e1 : blsD ds with
    | none => rw [e1] at e; cases e
    | some bs =>
      rw [e1] at e
      cases e
      have := ka.bls e1
      subst this
      exact ⟨a, bs, rfl, SqL.of (O.sub _ _ ha), q _ _ (O.val (.bl _))⟩
end Fx
/-! tests, statements, targets, loops, comprehensions -/
namespace Fx
open PySem PySem.Spec PyProof.Rows L2
theorem RpAll.sl {c : Cfg} {B : Base} {G H : Hp} {ts : En} {vs : List (Option V)} {own : Owns} : ∀ {us : List V} {ds : List D}, RpAll c G us ds → Sl c B G H ts vs own → Sl c B G H ((ds.map fun x => some (S.d x)) ++ ts) (us.map some ++ vs) own
  | _, _, .nil, h => h
  | _, _, .cons a k, h => .d a (RpAll.sl k h)
/-! ### tests -/
def mTest (f : M S) : M Bool := fun ρ => (dv f ρ).then fun x ρ' => match x with
  | .bl b => .ok b ρ'
  | _ => .stuck
def mNot (f : M Bool) : M Bool := fun ρ => (f ρ).then fun b ρ' => .ok (!b) ρ'
def mAnd (f g : M Bool) : M Bool := fun ρ => (f ρ).then fun b ρ' => if b = true then g ρ' else .ok false ρ'
def mOr (f g : M Bool) : M Bool := fun ρ => (f ρ).then fun b ρ' => if b = true then .ok true ρ' else g ρ'
def mAndV (f g : M S) : M S := fun ρ => (mTest f ρ).then fun b ρ' => if b = true then g ρ' else .ok (.d (.bl false)) ρ'
def mOrV (f g : M S) : M S := fun ρ => (mTest f ρ).then fun b ρ' => if b = true then .ok (.d (.bl true)) ρ' else g ρ'
def mNotV (f : M S) : M S := fun ρ => (mTest f ρ).then fun b ρ' => .ok (.d (.bl (!b))) ρ'
def mIf (t : M Bool) (f g : M S) : M S := fun ρ => (t ρ).then fun b ρ' => if b = true then f ρ' else g ρ'
def mYes : M Bool := fun ρ => .ok true ρ
section
variable {c : Cfg} {W : WX} {B : Base} {H : Hp} {ts : En} {vs : List (Option V)} {ρ : En} {σ : L2.St} {te ta tb : TE} {fe fa fb : M S} {tt tu : TT} {ft fu : M Bool}
theorem Den.test (h : Den c W te fe) {Q : Bool → Hp → Prop} (r : Rep c B ts vs ρ σ H) (q : Post (fun b ρ' => ∀ H', Rep c B ts vs ρ' σ H' → Q b H') (ErrP c W B ts vs σ) (mTest fe ρ)) : te σ H fun x H' => ∃ k, x = .bl k ∧ Q k H' := by
  unfold mTest at q
  rw [post_then] at q
  refine h.dv r (q.imp1 fun x ρ' p v H' r' => ?_)
  cases x <;> first | exact p.elim | skip
  obtain ⟨G, O, hv⟩ := r'.one
  cases hv
  exact ⟨_, rfl, p H' r'.drop⟩
theorem dt_test (h : Den c W te fe) : DenT c W (tTest te) (mTest fe) := fun B ts vs ρ σ H Q r q => h.test r q
theorem dt_B (h : Den c W te fe) : DenT c W (tB te) (mTest fe) := fun B ts vs ρ σ H Q r q => h.test r q
theorem dt_not (h : DenT c W tt ft) : DenT c W (tNot tt) (mNot ft) := fun B ts vs ρ σ H Q r q => by
  unfold mNot at q
  rw [post_then] at q
  exact h B ts vs ρ σ H _ r q
theorem dt_and (h : DenT c W tt ft) (k : DenT c W tu fu) : DenT c W (tAnd tt tu) (mAnd ft fu) := fun B ts vs ρ σ H Q r q => by
  unfold mAnd at q
  rw [post_then] at q
  refine h B ts vs ρ σ H _ r (q.imp1 fun b ρ' p H' r' => ?_)
  cases b with
  | true => exact k B ts vs ρ' σ H' Q r' p
  | false => exact p H' r'
theorem dt_or (h : DenT c W tt ft) (k : DenT c W tu fu) : DenT c W (tOr tt tu) (mOr ft fu) := fun B ts vs ρ σ H Q r q => by
  unfold mOr at q
  rw [post_then] at q
  refine h B ts vs ρ σ H _ r (q.imp1 fun b ρ' p H' r' => ?_)
  cases b with
  | true => exact p H' r'
  | false => exact k B ts vs ρ' σ H' Q r' p
theorem dt_yes : DenT c W tYes mYes := fun B ts vs ρ σ H Q r q => q H r
theorem OkP.bl {Q : VK} {b : Bool} {ρ : En} (h : OkP c B ts vs σ Q (.d (.bl b)) ρ) {H : Hp} (r : Rep c B ts vs ρ σ H) : Q (.bl b) H := h _ _ (Rep.repl (ds := []) (us := []) r rfl fun G _ => .bl b)
theorem den_andV (h : Den c W ta fa) (k : Den c W tb fb) : Den c W (tAndV ta tb) (mAndV fa fb) := fun B ts vs ρ σ H Q r q => by
  unfold mAndV at q
  rw [post_then] at q
  refine h.test (Q := fun b H1 => if b = true then tb σ H1 Q else Q (.bl false) H1) r (q.imp1 fun b ρ' p H' r' => ?_)
  cases b with
  | true => exact k B ts vs ρ' σ H' Q r' p
  | false => exact OkP.bl p r'
theorem den_orV (h : Den c W ta fa) (k : Den c W tb fb) : Den c W (tOrV ta tb) (mOrV fa fb) := fun B ts vs ρ σ H Q r q => by
  unfold mOrV at q
  rw [post_then] at q
  refine h.test (Q := fun b H1 => if b = true then Q (.bl true) H1 else tb σ H1 Q) r (q.imp1 fun b ρ' p H' r' => ?_)
  cases b with
  | true => exact OkP.bl p r'
  | false => exact k B ts vs ρ' σ H' Q r' p
theorem den_notV (h : Den c W ta fa) : Den c W (tNotV ta) (mNotV fa) := fun B ts vs ρ σ H Q r q => by
  unfold mNotV at q
  rw [post_then] at q
  exact h.test r (q.imp1 fun b ρ' p H' r' => OkP.bl p r')
theorem den_if (h : DenT c W tt ft) (ka : Den c W ta fa) (kb : Den c W tb fb) : Den c W (tIf tt ta tb) (mIf ft fa fb) := fun B ts vs ρ σ H Q r q => by
  unfold mIf at q
  rw [post_then] at q
  refine h B ts vs ρ σ H _ r (q.imp1 fun b ρ' p H' r' => ?_)
  cases b with
  | true => exact ka B ts vs ρ' σ H' Q r' p
  | false => exact kb B ts vs ρ' σ H' Q r' p
end
/-! ### statements -/
inductive Fl where
  | nx | rt (s : S) | bk | ct
def EndP (c : Cfg) (B : Base) (ts : En) (vs : List (Option V)) (D : Ends) : Fl → En → Prop
  | .nx, ρ => ∀ σ H, Rep c B ts vs ρ σ H → D.nx σ H
  | .bk, ρ => ∀ σ H, Rep c B ts vs ρ σ H → D.bk σ H
  | .ct, ρ => ∀ σ H, Rep c B ts vs ρ σ H → D.ct σ H
  | .rt s, ρ => ∀ v σ H, Rep c B (some s :: ts) (some v :: vs) ρ σ H → D.rt v H
def ErrS (c : Cfg) (W : WX) (B : Base) (ts : En) (vs : List (Option V)) (e : Err) (ρ : En) : Prop := ∀ σ k d H, c.err e k d H → Rep c B ts vs ρ σ H → W k d σ H
def DenS (c : Cfg) (W : WX) (t : TS) (F : M Fl) : Prop := ∀ B ts vs ρ σ H D, Rep c B ts vs ρ σ H → Post (EndP c B ts vs D) (ErrS c W B ts vs) (F ρ) → t D σ H
/-- but for the slots js -/
def Off (js : List Nat) (σ σ' : L2.St) : Prop := σ'.length = σ.length ∧ ∀ i, i ∉ js → σ'[i]? = σ[i]?
def DenG (c : Cfg) (W : WX) (g : TG) (F : D → M Unit) (js : List Nat) : Prop := ∀ B ts vs ρ σ H x v Q, Rep c B (some (.d x) :: ts) (some v :: vs) ρ σ H → Post (fun _ ρ' => ∀ σ' H', Off js σ σ' → Rep c B ts vs ρ' σ' H' → Q σ' H') (ErrS c W B ts vs) (F x ρ) → g v σ H Q
def DenGs (c : Cfg) (W : WX) (g : TGs) (F : List D → M Unit) (js : List Nat) : Prop := ∀ B ts vs ρ σ H ds us Q, us.length = ds.length → Rep c B ((ds.map fun x => some (S.d x)) ++ ts) (us.map some ++ vs) ρ σ H → Post (fun _ ρ' => ∀ σ' H', Off js σ σ' → Rep c B ts vs ρ' σ' H' → Q σ' H') (ErrS c W B ts vs) (F ds ρ) → g us σ H Q
def mNx : M Fl := fun ρ => .ok .nx ρ
def mBk : M Fl := fun ρ => .ok .bk ρ
def mCt : M Fl := fun ρ => .ok .ct ρ
def mSt : M Fl := fun _ => .stuck
def mSeq (F G : M Fl) : M Fl := fun ρ => (F ρ).then fun f ρ' => match f with
  | .nx => G ρ'
  | .rt s => .ok (.rt s) ρ'
  | .bk => .ok .bk ρ'
  | .ct => .ok .ct ρ'
def mRet (f : M S) : M Fl := fun ρ => (f ρ).then fun s ρ' => .ok (.rt s) ρ'
def mRetN : M Fl := fun ρ => .ok (.rt (.d .non)) ρ
/-- the value of a name is handed back, its cell with it -/
def mRetO (i : Nat) : M Fl := fun ρ => match ρ[i]? with
  | some (some (.o none x)) => .ok (.rt (.o none x)) (ρ.set i none)
  | some (some (.d x)) => .ok (.rt (.d x)) ρ
  | _ => .stuck
def mIfS (t : M Bool) (F G : M Fl) : M Fl := fun ρ => (t ρ).then fun b ρ' => if b = true then F ρ' else G ρ'
def mDrop (f : M S) : M Fl := fun ρ => (f ρ).then fun _ ρ' => .ok .nx ρ'
def mAsg (f : M S) (g : D → M Unit) : M Fl := fun ρ => (dv f ρ).then fun x ρ' => (g x ρ').then fun _ ρ2 => .ok .nx ρ2
def mAsgO (i : Nat) (f : M S) : M Fl := fun ρ => (f ρ).then fun s ρ' => match s with
  | .o none x => .ok .nx (ρ'.set i (some (.o none x)))
  | .d x => .ok .nx (ρ'.set i (some (.d x)))
  | _ => .stuck
def gmName (i : Nat) : D → M Unit := fun x ρ => .ok () (ρ.set i (some (.d x)))
def gmNil : List D → M Unit := fun ds ρ => match ds with
  | [] => .ok () ρ
  | _ => .stuck
def gmCons (g : D → M Unit) (gs : List D → M Unit) : List D → M Unit := fun ds ρ => match ds with
  | d :: r => (g d ρ).then fun _ ρ' => gs r ρ'
  | [] => .stuck
def gmTup (n : Nat) (gs : List D → M Unit) : D → M Unit := fun x ρ => match x with
  | .tup ds => if ds.length = n then gs ds ρ else .stuck
  | _ => .stuck
section
variable {c : Cfg} {W : WX} {te : TE} {fe : M S} {tt : TT} {ft : M Bool} {t u : TS} {F G : M Fl} {g : TG} {gm : D → M Unit} {js js' : List Nat}
theorem ErrS.toP {B : Base} {ts : En} {vs : List (Option V)} {σ : L2.St} {e : Err} {ρ : En} (h : ErrS c W B ts vs e ρ) : ErrP c W B ts vs σ e ρ := fun k d H' he r => h σ k d H' he r
theorem ErrS.drop {B : Base} {ts : En} {vs : List (Option V)} {s : Option S} {v : Option V} {e : Err} {ρ : En} (h : ErrS c W B ts vs e ρ) : ErrS c W B (s :: ts) (v :: vs) e ρ := fun σ k d H' he r => h σ k d H' he r.drop
theorem ds_nx : DenS c W tNext mNx := fun B ts vs ρ σ H D r q => q σ H r
theorem ds_never : DenS c W tNever mSt := fun B ts vs ρ σ H D r q => q
theorem ds_seq (h : DenS c W t F) (k : DenS c W u G) : DenS c W (tSeq t u) (mSeq F G) := fun B ts vs ρ σ H D r q => by
  unfold mSeq at q
  rw [post_then] at q
  refine h B ts vs ρ σ H { D with nx := u D } r (q.imp1 fun f ρ' p => ?_)
  cases f with
  | nx => exact fun σ' H' r' => k B ts vs ρ' σ' H' D r' p
  | rt s => exact p
  | bk => exact p
  | ct => exact p
theorem ds_ret (h : Den c W te fe) : DenS c W (tRet te) (mRet fe) := fun B ts vs ρ σ H D r q => by
  unfold mRet at q
  rw [post_then] at q
  exact h B ts vs ρ σ H _ r (q.imp (fun s ρ' p v H' r' => p v σ H' r') fun _ _ h => h.toP)
theorem ds_if (h : DenT c W tt ft) (k : DenS c W t F) (l : DenS c W u G) : DenS c W (tIfS tt t u) (mIfS ft F G) := fun B ts vs ρ σ H D r q => by
  unfold mIfS at q
  rw [post_then] at q
  refine h B ts vs ρ σ H _ r (q.imp (fun b ρ' p H' r' => ?_) fun _ _ h => h.toP)
  cases b with
  | true => exact k B ts vs ρ' σ H' D r' p
  | false => exact l B ts vs ρ' σ H' D r' p
theorem ds_drop (h : Den c W te fe) : DenS c W (tDrop te) (mDrop fe) := fun B ts vs ρ σ H D r q => by
  unfold mDrop at q
  rw [post_then] at q
  exact h B ts vs ρ σ H _ r (q.imp (fun s ρ' p v H' r' => p σ H' r'.drop) fun _ _ h => h.toP)
theorem ds_asg (h : Den c W te fe) (k : DenG c W g gm js) : DenS c W (tAsg te g) (mAsg fe gm) := fun B ts vs ρ σ H D r q => by
  unfold mAsg at q
  rw [post_then] at q
  refine h.dv r (q.imp (fun x ρ' p v H' r' => ?_) fun _ _ h => h.toP)
  rw [post_then] at p
  exact k B ts vs ρ' σ H' x v D.nx r' (p.imp1 fun _ ρ2 p2 σ2 H2 _ r2 => p2 σ2 H2 r2)
theorem ds_asgO {i : Nat} (h : Den c W te fe) : DenS c W (tAsg te (gName i)) (mAsgO i fe) := fun B ts vs ρ σ H D r q => by
  unfold mAsgO at q
  rw [post_then] at q
  refine h B ts vs ρ σ H _ r (q.imp (fun s ρ' p v H' r' => ?_) fun _ _ h => h.toP)
  cases s with
  | d x => exact p _ H' r'.set
  | o b x =>
    cases b with
    | some _ => exact p.elim
    | none => exact p _ H' r'.set
  | q _ _ => exact p.elim
theorem dg_name {i : Nat} : DenG c W (gName i) (gmName i) [i] := fun B ts vs ρ σ H x v Q r q => q _ H ⟨by rw [List.length_set], fun j hj => List.getElem?_set_ne fun e => hj (by simp [e])⟩ r.set
theorem dgs_nil : DenGs c W gNil gmNil [] := fun B ts vs ρ σ H ds us Q hl r q => by
  cases ds with
  | nil =>
    cases us with
    | nil => exact ⟨rfl, q σ H ⟨rfl, fun _ _ => rfl⟩ r⟩
    | cons _ _ => simp at hl
  | cons _ _ => exact q.elim
theorem dgs_cons {gs : TGs} {gms : List D → M Unit} (h : DenG c W g gm js) (k : DenGs c W gs gms js') : DenGs c W (gCons g gs) (gmCons gm gms) (js ++ js') := fun B ts vs ρ σ H ds us Q hl r q => by
  cases ds with
  | nil => exact q.elim
  | cons x ds =>
    cases us with
    | nil => simp at hl
    | cons v us =>
      have hl' : us.length = ds.length := by simpa using hl
      refine ⟨v, us, rfl, ?_⟩
      have q : Post _ _ ((gm x ρ).then fun _ ρ' => gms ds ρ') := q
      rw [post_then] at q
      refine h B _ _ ρ σ H x v _ r (q.imp (fun _ ρ' p σ' H' o1 r' => k B ts vs ρ' σ' H' ds us Q hl' r' (p.imp1 fun _ ρ2 p σ2 H2 o2 r2 => p σ2 H2 ⟨o2.1.trans o1.1, fun i hi => (o2.2 i fun z => hi (List.mem_append_right _ z)).trans (o1.2 i fun z => hi (List.mem_append_left _ z))⟩ r2)) fun e ρ' h σ' k' d H' he r' => h σ' k' d H' he ?_)
      have r2 := Rep.dropN (ds := ds.reverse) (us := us.reverse) (by simpa using hl') (by simpa [tmp, tmv] using r')
      exact r2
theorem dg_tup {gs : TGs} {gms : List D → M Unit} {n : Nat} (k : DenGs c W gs gms js) : DenG c W (gTup c.K n gs) (gmTup n gms) js := fun B ts vs ρ σ H x v Q r q => by
  cases x <;> first | exact q.elim | skip
  rename_i ds
  have q : Post _ _ (if ds.length = n then gms ds ρ else .stuck) := q
  split at q
  · rename_i hn
    obtain ⟨G, o1, o2, kk, h1, h2⟩ := r
    cases h1 with
    | d hv h1 =>
      obtain ⟨a, xs, rfl, ha, ka⟩ := hv.tupE
      refine ⟨a, xs, rfl, SqT.up kk.sub ha, by rw [ka.length, hn], k B ts vs ρ σ H ds xs Q ka.length ⟨G, o1, o2, kk, ?_, h2⟩ q⟩
      exact ka.sl h1
  · exact q.elim
end
/-! ### loops -/
/-- what a walk gives, turn by turn, while what it walks waits -/
def IsWalk (c : Cfg) (st : List D) (sv : List V) (J : It) (items : List D) : Prop := ∃ n Gw Y, Walk J n Gw Y ∧ n = items.length ∧
  (∀ B ts vs ρ σ H, Rep c B (tmp st ++ ts) (tmv sv ++ vs) ρ σ H → Gw H) ∧
  ∀ B ts vs ρ σ H k x H', k < n → Rep c B (tmp st ++ ts) (tmv sv ++ vs) ρ σ H → Y k H x H' → ∃ d, items[k]? = some d ∧ Rep c B (some (.d d) :: (tmp st ++ ts)) (some x :: (tmv sv ++ vs)) ρ σ H'
def OkI (c : Cfg) (B : Base) (ts : En) (vs : List (Option V)) (σ : L2.St) (R : It → Hp → Prop) (items : List D) (ρ : En) : Prop :=
  ∀ J st sv H', sv.length = st.length → Rep c B (tmp st ++ ts) (tmv sv ++ vs) ρ σ H' → IsWalk c st sv J items → R J H'
def DenI (c : Cfg) (W : WX) (wi : TI) (f : M (List D)) : Prop := ∀ B ts vs ρ σ H R, Rep c B ts vs ρ σ H → Post (OkI c B ts vs σ R) (ErrP c W B ts vs σ) (f ρ) → wi σ H R
/-- a for's turns -/
def mLoop (gm : D → M Unit) (F : M Fl) : List D → M Fl
  | [] => fun ρ => .ok .nx ρ
  | x :: xs => fun ρ => (gm x ρ).then fun _ ρ1 => (F ρ1).then fun f ρ2 => match f with
    | .nx => mLoop gm F xs ρ2
    | .ct => mLoop gm F xs ρ2
    | .bk => .ok .nx ρ2
    | .rt s => .ok (.rt s) ρ2
def mFor (fI : M (List D)) (gm : D → M Unit) (F : M Fl) : M Fl := fun ρ => (fI ρ).then fun items ρ1 => mLoop gm F items ρ1
def mWhile (ft : M Bool) (F : M Fl) : Nat → M Fl
  | 0 => fun _ => .stuck
  | n + 1 => fun ρ => (ft ρ).then fun b ρ1 => if b = true then (F ρ1).then fun f ρ2 => match f with
      | .nx => mWhile ft F n ρ2
      | .ct => mWhile ft F n ρ2
      | .bk => .ok .nx ρ2
      | .rt s => .ok (.rt s) ρ2
    else .ok .nx ρ1
section
variable {c : Cfg} {W : WX} {wi : TI} {fI : M (List D)} {te : TE} {fe : M S} {tt : TT} {ft : M Bool} {t u : TS} {F G : M Fl} {g : TG} {gm : D → M Unit} {js js' : List Nat}
theorem EndP.dropN {B : Base} {ts : En} {vs : List (Option V)} {st : List D} {sv : List V} {s : S} {v : V} {ρ : En} {σ : L2.St} {H : Hp} (hl : sv.length = st.length) (r : Rep c B (some s :: (tmp st ++ ts)) (some v :: (tmv sv ++ vs)) ρ σ H) : Rep c B (some s :: ts) (some v :: vs) ρ σ H := by
  obtain ⟨G, o1, o2, k, h1, h2⟩ := r
  obtain ⟨w, os, o1', ew, e1, rfl, h1'⟩ := h1.unone
  cases ew
  exact ⟨G, os ++ o1', o2, k, Sl.one e1 (h1'.tmp hl).2, h2⟩
theorem ds_for (h : DenI c W wi fI) (k : DenG c W g gm js) (l : DenS c W t F) : DenS c W (tFor wi g t) (mFor fI gm F) := fun B ts vs ρ σ H D r q => by
  unfold mFor at q
  rw [post_then] at q
  refine h B ts vs ρ σ H _ r (q.imp (fun items ρ1 q J st sv H1 hl r1 w => ?_) fun _ _ h => h.toP)
  obtain ⟨n, Gw, Y, wk, rfl, hG, hY⟩ := w
  refine for_it wk (fun i σ H => ∃ ρ, Rep c B (tmp st ++ ts) (tmv sv ++ vs) ρ σ H ∧ Post (EndP c B ts vs D) (ErrS c W B ts vs) (mLoop gm F (items.drop i) ρ)) ⟨ρ1, r1, q⟩ (fun i σ H _ ⟨ρ, r, _⟩ => hG _ _ _ _ _ _ r) ?_ ?_
  · rintro i x σ1 H1 H2 hi ⟨ρ, r, q⟩ y
    obtain ⟨d, ed, r2⟩ := hY _ _ _ _ _ _ _ _ _ hi r y
    have hd : items.drop i = d :: items.drop (i + 1) := by
      rw [List.drop_eq_getElem_cons hi]
      rw [List.getElem?_eq_getElem hi] at ed
      cases ed
      rfl
    rw [hd] at q
    have q : Post _ _ ((gm d ρ).then fun _ ρ1 => (F ρ1).then fun f ρ2 => _) := q
    rw [post_then] at q
    have er : ∀ e ρ, ErrS c W B ts vs e ρ → ErrS c W B (tmp st ++ ts) (tmv sv ++ vs) e ρ := fun e ρ h σ k d H' he r => h σ k d H' he (r.dropN hl)
    refine k B _ _ ρ σ1 H2 d x _ r2 (q.imp (fun _ ρ2 q σ2 H3 _ r3 => ?_) er)
    rw [post_then] at q
    refine l B _ _ ρ2 σ2 H3 _ r3 (q.imp (fun f ρ3 p => ?_) er)
    cases f with
    | nx => exact fun σ4 H4 r4 => ⟨ρ3, r4, p⟩
    | ct => exact fun σ4 H4 r4 => ⟨ρ3, r4, p⟩
    | bk => exact fun σ4 H4 r4 => p σ4 H4 (r4.dropN hl)
    | rt s => exact fun v σ4 H4 r4 => p v σ4 H4 (EndP.dropN hl r4)
  · rintro σ1 H1 ⟨ρ, r, q⟩
    rw [List.drop_length] at q
    exact q σ1 H1 (r.dropN hl)
theorem ds_while {n : Nat} (h : DenT c W tt ft) (l : DenS c W t F) : DenS c W (tWhile tt t) (mWhile ft F n) := fun B ts vs ρ σ H D r q => by
  refine ⟨fun m σ H => ∃ ρ, Rep c B ts vs ρ σ H ∧ Post (EndP c B ts vs D) (ErrS c W B ts vs) (mWhile ft F m ρ), ⟨n, ρ, r, q⟩, ?_⟩
  rintro m σ H ⟨ρ, r, q⟩
  cases m with
  | zero => exact q.elim
  | succ m =>
    have q : Post _ _ ((ft ρ).then fun b ρ1 => _) := q
    rw [post_then] at q
    refine h B ts vs ρ σ H _ r (q.imp (fun b ρ1 q H1 r1 => ?_) fun _ _ h => h.toP)
    cases b with
    | false => exact q σ H1 r1
    | true =>
      have q : Post _ _ ((F ρ1).then fun f ρ2 => _) := q
      rw [post_then] at q
      refine ⟨fun σ H => ∃ ρ, Rep c B ts vs ρ σ H ∧ Post (EndP c B ts vs D) (ErrS c W B ts vs) (mWhile ft F m ρ), fun σ' H' h => ⟨m, Nat.lt_succ_self m, h⟩, ?_⟩
      refine l B ts vs ρ1 σ H1 _ r1 (q.imp1 fun f ρ2 p => ?_)
      cases f with
      | nx => exact fun σ4 H4 r4 => ⟨ρ2, r4, p⟩
      | ct => exact fun σ4 H4 r4 => ⟨ρ2, r4, p⟩
      | bk => exact p
      | rt s => exact p
end
/-! ### what is walked -/
def iSeq (f : M S) : M (List D) := fun ρ => (dv f ρ).then fun x ρ' => match itemsD x with
  | some ds => .ok ds ρ'
  | none => .stuck
def intsFrom (lo : Int) : Nat → List D
  | 0 => []
  | n + 1 => .int lo :: intsFrom (lo + 1) n
theorem intsFrom_length : ∀ (n : Nat) (lo : Int), (intsFrom lo n).length = n
  | 0, _ => rfl
  | n + 1, lo => by simp [intsFrom, intsFrom_length n]
theorem intsFrom_get : ∀ (n : Nat) (lo : Int) (k : Nat), k < n → (intsFrom lo n)[k]? = some (.int (lo + k))
  | 0, _, _, h => absurd h (Nat.not_lt_zero _)
  | n + 1, lo, 0, _ => by simp [intsFrom]
  | n + 1, lo, k + 1, h => by
    simp only [intsFrom, List.getElem?_cons_succ]
    rw [intsFrom_get n (lo + 1) k (by omega)]
    congr 2
    push_cast
    omega
def rOk (i : Int) : Bool := decide (-4611686018427387904 ≤ i) && decide (i < 4611686018427387904)
def iRange1 (fa : M (List D)) : M (List D) := fun ρ => (fa ρ).then fun ds ρ' => match ds with
  | [.int j] => if rOk j then .ok (intsFrom 0 j.toNat) ρ' else .stuck
  | _ => .stuck
section
variable {c : Cfg} {W : WX} {wi : TI} {fI : M (List D)} {te : TE} {fe : M S} {tA : TA} {fA : M (List D)}
theorem rOk_iff {i : Int} : rOk i = true ↔ -(2 ^ 62) ≤ i ∧ i < 2 ^ 62 := by
  unfold rOk
  simp only [Bool.and_eq_true, decide_eq_true_eq]
  constructor <;> (intro h; constructor <;> omega)
theorem walk_ints {lo : Int} {n : Nat} : IsWalk c [] [] (Itr lo n) (intsFrom lo n) := by
  refine ⟨n, _, _, walk_range, (intsFrom_length n lo).symm, fun _ _ _ _ _ _ _ => trivial, ?_⟩
  rintro B ts vs ρ σ H k x H' hk r ⟨rfl, rfl⟩
  exact ⟨_, intsFrom_get n lo k hk, Rep.repl (ds := []) (us := []) r rfl fun G _ => .int _⟩
theorem di_range1 (h : DenA c W tA fA) : DenI c W (iRng1 tA) (iRange1 fA) := fun B ts vs ρ σ H R r q => by
  unfold iRange1 at q
  rw [post_then] at q
  refine h B ts vs ρ σ H _ r (q.imp1 fun ds ρ' p us H' hl r' => ?_)
  split at p
  · rename_i j
    split at p
    · rename_i hj
      rw [rOk_iff] at hj
      obtain ⟨v, rfl, G, O, hv⟩ := r'.one' hl
      cases hv
      exact ⟨j, rfl, hj.1, hj.2, p _ [] [] H' rfl (Rep.dropN (ds := [.int j]) (us := [.int j]) rfl r') walk_ints⟩
    · exact p.elim
  · exact p.elim
end
end Fx
/-! zip of two tuples, its pairs kept by a name: the pair that was handed out before may be alive or not -/
namespace Fx
open PySem RZ
open Builtin.SmallTypes (ownedTupleIsFree ownedTupleHandOut nextOf)
end Fx
/-! zip of a tuple and a list, its pairs taken apart -/
namespace Fx
open PySem PySem.Spec PyProof.Rows L2 RZ
open Builtin.SmallTypes (ownedTupleIsFree ownedTupleHandOut nextOf)
end Fx
/-! for i, x in enumerate(t), t a tuple -/
namespace Rw
open PySem PySem.Spec PyProof.Rows L2
open Builtin
theorem enumNew {v : Value} {o : Obj} {G : Heap → Prop} (B : Begins v o G) :
    Meets (Builtin.«enumerate.__new__» ⟨[.type "enumerate", v], []⟩) (fun _ R s =>
      G s.heap ∧ R (.ok (.ret (.ref (s.heap.objs.size + 1))))
        { s with heap := (s.heap.push o).push ⟨.type "enumerate", none, .fields #[.none, .bool false, .ref s.heap.objs.size, rawInt 0, .none, .none], #[]⟩ }) :=
  .of_wp fun prog w A R s both => by
    obtain ⟨hp, g, d, tk, os⟩ := s
    obtain ⟨hg, both⟩ := both
    have isub := sub_enumerate
    have sz : (hp.push o).objs.size = hp.objs.size + 1 := Heap.size_push ..
    have it1 : ∀ {A' : Around} {E : Value → Shared → Prop} {Q : Value → Shared → Prop},
        Q (.ref hp.objs.size) ⟨hp.push o, g, d, tk, os⟩ → wpAny (model prog w) A' (pyIter v) Q E ⟨hp, g, d, tk, os⟩ :=
      fun q => B.iter prog w _ _ ⟨hp, g, d, tk, os⟩ _ hg q
    wp_walk using it1
    refine wpAny_stack_any fun st => wpAny_pure ?_
    split
    · rename_i c _ _ _ _ _
      cases (c == Value.type "enumerate") <;> (wp_walk using it1; exact ⟨_, rfl, by rw [sz]; exact both⟩)
    · wp_walk using it1
      exact ⟨_, rfl, by rw [sz]; exact both⟩
theorem enumCall {prog : Program} {w : World} {A : Around} {E : Value → Shared → Prop} {s : Shared}
    {v : Value} {o : Obj} {G : Heap → Prop} {Q : Value → Shared → Prop} (B : Begins v o G) (hg : G s.heap)
    (h : ∀ h', IsEnum h' (s.heap.objs.size + 1) s.heap.objs.size 0 .none → h'.get? s.heap.objs.size = some o →
      (∀ b ob, s.heap.get? b = some ob → h'.get? b = some ob) → Q (.ref (s.heap.objs.size + 1)) { s with heap := h' }) :
    wpAny (model prog w) A (call (.type "enumerate") [v]) Q E s := by
  have sz : (s.heap.push o).objs.size = s.heap.objs.size + 1 := Heap.size_push ..
  have at1 : IsEnum ((s.heap.push o).push ⟨.type "enumerate", none, .fields #[.none, .bool false, .ref s.heap.objs.size, rawInt 0, .none, .none], #[]⟩)
      (s.heap.objs.size + 1) s.heap.objs.size 0 .none := by
    have z := Heap.get?_push_size (s.heap.push o) (o := ⟨.type "enumerate", none, .fields #[.none, .bool false, .ref s.heap.objs.size, rawInt 0, .none, .none], #[]⟩) rfl
    rw [sz] at z
    exact z
  refine callType_new F.called_enumerate (by decide) (F.typeCall_enumerate_1 _) (F.newCall_enumerate_1 _) (fun obj => F.args_object_init_2 obj _)
    F.entry_enumerate_new (enumNew B) ⟨hg, ⟨_, at1, rfl⟩, h _ at1 ?_ ?_⟩
  · exact Heap.get?_push_of_some _ (Heap.get?_push_size _ B.free)
  · exact fun b ob x => Heap.get?_push_of_some _ (Heap.get?_push_of_some _ x)
/-- the tuple at a, each item in a new pair with its place -/
def ItE (K : PySem.W.Frag) (a : Addr) : It where
  go := fun i H => ∃ xs x, SqT K H a xs ∧ xs[i]? = some x
  yld := fun i H v H' => ∃ T x, v = .ref T ∧ H T = none ∧ H' = upd H T (.tup [.int (i : Nat), x]) ∧ ∀ xs, SqT K H a xs → xs[i]? = some x
  stop := fun i H => ∃ xs : List V, SqT K H a xs ∧ xs.length = i
theorem turnE {P : Program} {w : World} {K : PySem.W.Frag} {elts : List Expr} {kk : Nat} {tpos : Pos} (a e it : Addr) (hai : a ≠ it) (hea : e ≠ a) :
    Turn P w K (.Tuple elts kk tpos) (ItE K a) [e, it] e
      (fun i h => (∃ old, IsEnum h e it ((i : Nat) : Int) old) ∧ h.IsTupleIter it a i ∧ e ≠ it) where
  mem := List.mem_cons_self
  obj := by
    rintro i h ⟨⟨old, he⟩, ⟨o, ho, _, hd⟩, _⟩ b hb
    rcases List.mem_cons.mp hb with rfl | hb
    · exact ⟨_, he, fun v q => nomatch q⟩
    · obtain rfl := List.mem_singleton.mp hb
      exact ⟨o, ho, fun v q => by rw [hd] at q; cases q⟩
  keep := by
    rintro i h h' ⟨⟨old, he⟩, hi, hne⟩ k
    exact ⟨⟨old, k e List.mem_cons_self _ he⟩, hi.at fun o q => k it (List.mem_cons_of_mem _ List.mem_cons_self) o q, hne⟩
  item := by
    rintro X rfl rfl rfl hc i pins s σ H E I hf ⟨⟨old, he⟩, hit, hne⟩ ⟨xs, x, hq, hx⟩
    obtain ⟨its, rv, p, hz⟩ := I.tuple hq
    obtain ⟨u, hu, ru⟩ := rv.get hx
    have hel : e < s.heap.objs.size := Heap.lt_size he
    have hil : it < s.heap.objs.size := by
      obtain ⟨_, q, _⟩ := hit
      exact Heap.lt_size q
    have hlt : i < its.toArray.size := by
      have := (List.getElem?_eq_some_iff.mp hu).1
      simpa using this
    have D := Draws.tuple (prog := X.prog) (w := X.w) (A := X.A.in1) (I.ok.hd hc) it a hai its.toArray
    refine wpAny_pyNext_enum_itemD D he ⟨hit, p⟩ hlt hne (by simp [hne, hea]) fun y h' tk hy ho hit' hT hsz hk => ?_
    have yu : y = u := by
      have hy' : its[i]? = some y := by simpa using hy
      rw [hu] at hy'
      exact (Option.some.inj hy').symm
    subst yu
    refine ⟨_, rfl, wpAny_letOwnedTupleGo_enum (s := { s with heap := h', toks := tk + 1 }) ho fun h'' he' sb => ?_⟩
    have hT2 : h''.get? s.heap.objs.size = some { cls := .type "tuple", data := .seq #[.int i tk, y] } := (sb.2 _ (Nat.ne_of_gt hel)).trans hT
    have new : ObjOk X.prog X.w (upd H s.heap.objs.size (.tup [.int (i : Nat), x])) h'' s.heap.objs.size (.tup [.int (i : Nat), x]) :=
      ⟨(by decide : 2 ≤ sizeLine), [.int i tk, y], .cons ⟨_, rfl⟩ (.cons ru .nil), ⟨_, hT2, rfl, _, rfl⟩⟩
    have nin : ∀ b, b ∉ [e, it] → b ≠ e ∧ b ≠ it := fun b hb => ⟨fun z => hb (z ▸ List.mem_cons_self), fun z => hb (z ▸ List.mem_cons_of_mem _ List.mem_cons_self)⟩
    have I1 : Inv X pins σ (upd H s.heap.objs.size (.tup [.int (i : Nat), x])) { s with heap := h'', toks := tk + 1 } :=
      I.turnedNew (ch := [e, it]) (fun b ob hb q => (sb.2 b (nin b hb).1).trans (hk b ob (nin b hb).1 (nin b hb).2 q)) hf (Nat.le_refl _) new
    refine ⟨.ref s.heap.objs.size, _, I1, rfl, ⟨_, x, rfl, I.hok.fresh (Nat.le_refl _), rfl, fun ys hy2 => by rw [I.tuple_inj hy2 hq]; exact hx⟩, ⟨⟨y, ?_⟩, hit'.1.at fun o q => (sb.2 it (Ne.symm hne)).trans q, hne⟩, fun b hb => ?_⟩
    · have e1 : ((i + 1 : Nat) : Int) = (i : Int) + 1 := by omega
      rw [e1]
      exact he'
    · have hb' : b < s.heap.objs.size := by
        rcases List.mem_cons.mp hb with rfl | hb
        · exact hel
        · obtain rfl := List.mem_singleton.mp hb
          exact hil
      rw [upd_ne (Nat.ne_of_lt hb')]
      exact (hf b hb).1
  done := by
    rintro X rfl rfl rfl hc i pins s σ H E I hf ⟨⟨old, he⟩, hit, hne⟩ ⟨xs, hq, hx⟩
    obtain ⟨its, rv, p, hz⟩ := I.tuple hq
    have D := Draws.tuple (prog := X.prog) (w := X.w) (A := X.A.in1) (I.ok.hd hc) it a hai its.toArray
    obtain ⟨f0, f1, f2, f3, f4, f5⟩ := hf it (List.mem_cons_of_mem _ List.mem_cons_self)
    have hl := rv.length
    have e1 : i = its.toArray.size := by simp only [List.size_toArray]; omega
    refine wpAny_pyNext_enum_endD D he (e1 ▸ ⟨hit, p⟩) fun h' eb => ⟨rfl, I.turned (t' := s.toks) (fun b o hb q => eb b o hb q) f0 f1 f3 f4 f5⟩
  self := by
    rintro A i s Q E ⟨⟨_, he⟩, _⟩ h
    exact wpAny_pyIter_enum he h
def iEnumT (K : PySem.W.Frag) (ta : TA) : TI := fun σ H R => ta σ H fun vs H1 => ∃ a xs, vs = [.ref a] ∧ SqT K H1 a xs ∧ R (ItE K a) H1
theorem pi_enumT {X : Cx} {e : Expr} {ta : TA} {p pos tpos : Pos} {elts : List Expr} {kk : Nat} (hg : Gl X "enumerate") (hm : X.mg "enumerate" = none) (ha : PA X [e] ta)
    (hs : starEach [e] X.env = [(false, eval e X.env)] := by rfl) : PI X (.Tuple elts kk tpos) (.Call (.Name "enumerate" p) [e] [] pos) (iEnumT X.K ta) := by
  refine ⟨fun pins s σ H R I h => ?_⟩
  refine Call_ (ld_blt I hg hm boot_enumerate (PyProof.Rows.callWith_type1 (thn (ha.run pos pins s σ H _ I h) ?_) hs rfl))
  rintro us s1 ⟨vs, H1, I1, r1, a, xs, rfl, hq, q⟩
  obtain ⟨u, rfl, ru⟩ := vals1 r1
  cases ru
  obtain ⟨its, rv, p', hz⟩ := I1.tuple hq
  have hal : a < s1.heap.objs.size := by
    obtain ⟨_, q, _⟩ := p'
    exact Heap.lt_size q
  refine enumCall (begins_tuple a its.toArray) p' fun h' he hit hk => wpAny_pyIter_enum he ?_
  have I2 : Inv X pins σ H1 { s1 with heap := h' } := I1.kept (t' := s1.toks) hk
  refine ⟨s1.heap.objs.size + 1, [s1.heap.objs.size + 1, s1.heap.objs.size], _, _, H1, rfl, I2,
    turnE a (s1.heap.objs.size + 1) s1.heap.objs.size (Nat.ne_of_lt hal) (Nat.ne_of_gt (Nat.lt_succ_of_lt hal)),
    ⟨⟨.none, he⟩, ⟨_, hit, rfl, rfl⟩, Nat.succ_ne_self _⟩, fun b hb => ?_, q⟩
  have hle : s1.heap.objs.size ≤ b := by
    rcases List.mem_cons.mp hb with rfl | hb
    · exact Nat.le_succ _
    · exact Nat.le_of_eq (List.mem_singleton.mp hb).symm
  exact I1.fpOk hle (I1.hok.fresh hle)
end Rw
/-! what is walked, comprehensions -/
namespace Fx
open PySem PySem.Spec PyProof.Rows L2
section
variable {X : Cx} {tg e : Expr} {w1 w2 : TI}
theorem PI.or (h1 : PI X tg e w1) (h2 : PI X tg e w2) : PI X tg e (fun σ H R => w1 σ H R ∨ w2 σ H R) :=
  ⟨fun pins s σ H R I h => h.elim (h1.run pins s σ H R I) (h2.run pins s σ H R I)⟩
end
def iSeqT (K : PySem.W.Frag) (tl : TE) : TI := fun σ H R => iList K tl σ H R ∨ iTup K tl σ H R
def iEnumG (K : PySem.W.Frag) (ta : TA) : TI := fun σ H R => iEnum K ta σ H R ∨ Rw.iEnumT K ta σ H R
section
variable {c : Cfg} {W : WX} {B : Base} {ts : En} {vs : List (Option V)} {ρ : En} {σ : L2.St} {H : Hp} {te : TE} {fe : M S} {tA : TA} {fA : M (List D)}
/-- the first that waits, opened, still waiting -/
theorem Rep.top {x : D} {v : V} (r : Rep c B (some (.d x) :: ts) (some v :: vs) ρ σ H) : ∃ G, Opn c B (some (.d x) :: ts) (some v :: vs) ρ σ H G ∧ Rp c G v x := by
  obtain ⟨G, o1, o2, k, h1, h2⟩ := id r
  cases h1 with
  | d hv h1 =>
    refine ⟨G, ⟨k.sub, fun hv' => ⟨G, o1, o2, k, .d hv' (.d hv h1), h2⟩, fun {p o x} hp ho hx => ?_, fun {p o x} hp hx => ?_⟩, hv⟩
    · have gp := k.gnone hp
      have ow := own_new (o := o) k hp
      exact ⟨upd G p o, o1, o2, k.alloc hp ho, .d (hx _ (upd_sub gp) upd_same) (.d (hv.mono (upd_sub gp)) (h1.mono (upd_sub gp) fun q hq => ow q (List.mem_append_left _ hq))), h2.mono (upd_sub gp) fun q hq => ow q (List.mem_append_right _ hq)⟩
    · have ow := own_new (o := o) k hp
      exact ⟨G, p :: o1, o2, k.allocO hp, .o (hx _ upd_same) (fun _ e => nomatch e) (.d hv (h1.mono (fun _ _ e => e) fun q hq => ow q (List.mem_append_left _ hq))), h2.mono (fun _ _ e => e) fun q hq => ow q (List.mem_append_right _ hq)⟩
/-- how a list, a tuple is read -/
def SqI (K : PySem.W.Frag) (l : Bool) (H : Hp) (a : Addr) (us : List V) : Prop := if l then SqL K H a us else SqT K H a us
def isLst : D → Bool
  | .lst _ => true
  | _ => false
theorem Rp.seq {G H : Hp} {v : V} {x : D} {ds : List D} (s : ∀ a o, G a = some o → H a = some o) (h : Rp c G v x) (e : itemsD x = some ds) : ∃ a us, v = .ref a ∧ SqI c.K (isLst x) H a us ∧ RpAll c G us ds := by
  cases x <;> first | cases e | skip
  · obtain ⟨a, us, rfl, ha, k⟩ := h.tupE
    exact ⟨a, us, rfl, SqT.up s ha, k⟩
  · obtain ⟨a, us, rfl, ha, k⟩ := h.lstE
    exact ⟨a, us, rfl, SqL.of (s _ _ ha), k⟩
/-- one whose items are ds, at a -/
def SrcAt (c : Cfg) (l : Bool) (n : Nat) (a : Addr) (H : Hp) : Prop := ∃ us, SqI c.K l H a us ∧ us.length = n
theorem src_of {x : D} {a : Addr} {ds : List D} (e : itemsD x = some ds) (r : Rep c B (some (.d x) :: ts) (some (.ref a) :: vs) ρ σ H) : SrcAt c (isLst x) ds.length a H := by
  obtain ⟨G, O, h⟩ := r.top
  obtain ⟨a', us, e1, h1, k⟩ := h.seq O.sub e
  cases e1
  exact ⟨us, h1, k.length⟩
/-- the turn's item, by any reading of the source -/
def TurnAt (c : Cfg) (l : Bool) (a : Addr) (k : Nat) (H : Hp) (x : V) : Prop := ∀ us, SqI c.K l H a us → us[k]? = some x
theorem turn_val {x : D} {a : Addr} {ds : List D} {k : Nat} {v : V} (e : itemsD x = some ds) (hk : k < ds.length) (r : Rep c B (some (.d x) :: ts) (some (.ref a) :: vs) ρ σ H) (t : TurnAt c (isLst x) a k H v) :
    ∃ d, ds[k]? = some d ∧ Rep c B (some (.d d) :: some (.d x) :: ts) (some v :: some (.ref a) :: vs) ρ σ H := by
  obtain ⟨G, O, h⟩ := r.top
  obtain ⟨a', us, e1, h1, kk⟩ := h.seq O.sub e
  cases e1
  obtain ⟨d, ed, hd⟩ := kk.getV (t us h1)
  exact ⟨d, ed, O.val hd⟩
theorem walk_seq {x : D} {a : Addr} {ds : List D} {J : It} (e : itemsD x = some ds) (hgo : ∀ i H, (∃ us y, SqI c.K (isLst x) H a us ∧ us[i]? = some y) → J.go i H) (hst : ∀ i H, (∃ us, SqI c.K (isLst x) H a us ∧ us.length = i) → J.stop i H)
    (hy : ∀ i H y H', J.yld i H y H' → H' = H ∧ TurnAt c (isLst x) a i H y) : IsWalk c [x] [.ref a] J ds := by
  refine ⟨ds.length, SrcAt c (isLst x) ds.length a, fun i H y H' => H' = H ∧ TurnAt c (isLst x) a i H y, ⟨?_, ?_, ?_⟩, rfl, fun B ts vs ρ σ H r => src_of e r, ?_⟩
  · rintro i H hi ⟨us, h1, h2⟩
    exact hgo i H ⟨us, us[i]'(by omega), h1, List.getElem?_eq_getElem (by omega)⟩
  · rintro H ⟨us, h1, h2⟩
    exact hst _ H ⟨us, h1, h2⟩
  · intro i H y H' _ _ h
    exact hy i H y H' h
  · rintro B ts vs ρ σ H k y H' hk r ⟨rfl, t⟩
    exact turn_val e hk r t
theorem di_seq (h : Den c W te fe) : DenI c W (iSeqT c.K te) (iSeq fe) := fun B ts vs ρ σ H R r q => by
  unfold iSeq at q
  rw [post_then] at q
  cases hk : dv fe ρ with
  | stuck => rw [hk] at q; exact q.elim
  | err e ρ' =>
    refine .inl (h.dv r ?_)
    rw [hk] at q ⊢
    exact q
  | ok x ρ' =>
    rw [hk] at q
    have q : Post (OkI c B ts vs σ R) (ErrP c W B ts vs σ) (match itemsD x with
      | some ds => .ok ds ρ'
      | none => .stuck) := q
    cases e : itemsD x with
    | none => rw [e] at q; exact q.elim
    | some ds =>
      rw [e] at q
      have q : OkI c B ts vs σ R ds ρ' := q
      by_cases hl : isLst x = true
      · refine .inl (h.dv r ?_)
        rw [hk]
        intro v H' r'
        obtain ⟨G, O, hv⟩ := r'.top
        obtain ⟨a, us, rfl, h1, k⟩ := hv.seq O.sub e
        rw [hl] at h1
        refine ⟨a, rfl, ⟨us, h1⟩, q _ [x] [.ref a] H' rfl r' (walk_seq e ?_ ?_ ?_)⟩
        · rintro i H ⟨us, y, h1, h2⟩
          rw [hl] at h1
          exact ⟨us, y, h1, h2⟩
        · rintro i H ⟨us, h1, h2⟩
          rw [hl] at h1
          exact ⟨us, h1, by omega⟩
        · rintro i H y H' ⟨rfl, h2⟩
          rw [hl]
          exact ⟨rfl, fun us h => h2 us h⟩
      · have hl : isLst x = false := by simpa using hl
        refine .inr (h.dv r ?_)
        rw [hk]
        intro v H' r'
        obtain ⟨G, O, hv⟩ := r'.top
        obtain ⟨a, us, rfl, h1, k⟩ := hv.seq O.sub e
        rw [hl] at h1
        refine ⟨a, rfl, ⟨us, h1⟩, q _ [x] [.ref a] H' rfl r' (walk_seq e ?_ ?_ ?_)⟩
        · rintro i H ⟨us, y, h1, h2⟩
          rw [hl] at h1
          exact ⟨us, y, h1, h2⟩
        · rintro i H ⟨us, h1, h2⟩
          rw [hl] at h1
          exact ⟨us, h1, by omega⟩
        · rintro i H y H' ⟨rfl, h2⟩
          rw [hl]
          exact ⟨rfl, fun us h => h2 us h⟩
/-! ### enumerate, zip, reversed -/
def enumD (n : Nat) : List D → List D
  | [] => []
  | d :: ds => .tup [.int n, d] :: enumD (n + 1) ds
theorem enumD_length : ∀ (ds : List D) (n : Nat), (enumD n ds).length = ds.length
  | [], _ => rfl
  | d :: ds, n => by simp [enumD, enumD_length ds]
theorem enumD_get : ∀ (ds : List D) (n k : Nat) (d : D), ds[k]? = some d → (enumD n ds)[k]? = some (.tup [.int ((n + k : Nat) : Int), d])
  | [], _, _, _, e => by simp at e
  | d :: ds, n, 0, d', e => by simp at e; subst e; simp [enumD]
  | d :: ds, n, k + 1, d', e => by
    simp only [enumD, List.getElem?_cons_succ]
    rw [enumD_get ds (n + 1) k d' (by simpa using e), show n + 1 + k = n + (k + 1) by omega]
def iEnu (fA : M (List D)) : M (List D) := fun ρ => (fA ρ).then fun ds ρ' => match ds with
  | [x] => match itemsD x with
    | some es => .ok (enumD 0 es) ρ'
    | none => .stuck
  | _ => .stuck
theorem walk_enu {x : D} {a : Addr} {ds : List D} {J : It} (e : itemsD x = some ds) (hgo : ∀ i H, (∃ us y, SqI c.K (isLst x) H a us ∧ us[i]? = some y) → J.go i H) (hst : ∀ i H, (∃ us, SqI c.K (isLst x) H a us ∧ us.length = i) → J.stop i H)
    (hy : ∀ i H y H', J.yld i H y H' → ∃ T z, y = .ref T ∧ H T = none ∧ H' = upd H T (.tup [.int (i : Nat), z]) ∧ TurnAt c (isLst x) a i H z) : IsWalk c [x] [.ref a] J (enumD 0 ds) := by
  refine ⟨ds.length, SrcAt c (isLst x) ds.length a, fun i H y H' => ∃ T z, y = .ref T ∧ H T = none ∧ H' = upd H T (.tup [.int (i : Nat), z]) ∧ TurnAt c (isLst x) a i H z, ⟨?_, ?_, ?_⟩, (enumD_length ds 0).symm, fun B ts vs ρ σ H r => src_of e r, ?_⟩
  · rintro i H hi ⟨us, h1, h2⟩
    exact hgo i H ⟨us, us[i]'(by omega), h1, List.getElem?_eq_getElem (by omega)⟩
  · rintro H ⟨us, h1, h2⟩
    exact hst _ H ⟨us, h1, h2⟩
  · intro i H y H' _ _ h
    exact hy i H y H' h
  · rintro B ts vs ρ σ H k y H' hk r ⟨T, z, rfl, hT, rfl, t⟩
    obtain ⟨G, O, h⟩ := r.top
    obtain ⟨a', us, e1, h1, kk⟩ := h.seq O.sub e
    cases e1
    obtain ⟨d, ed, hd⟩ := kk.getV (t us h1)
    refine ⟨_, enumD_get ds 0 k d ed, ?_⟩
    rw [Nat.zero_add]
    exact O.new hT rfl fun G' m e' => .tup (.inl (.inl e')) (.cons (.int _) (.cons (hd.mono m) .nil)) fun z => nomatch z
theorem di_enu (h : DenA c W tA fA) : DenI c W (iEnumG c.K tA) (iEnu fA) := fun B ts vs ρ σ H R r q => by
  unfold iEnu at q
  rw [post_then] at q
  cases hk : fA ρ with
  | stuck => rw [hk] at q; exact q.elim
  | err e ρ' =>
    refine .inl (h B ts vs ρ σ H _ r ?_)
    rw [hk] at q ⊢
    exact q
  | ok ds ρ' =>
    rw [hk] at q
    match ds, q with
    | [x], q =>
      have q : Post (OkI c B ts vs σ R) (ErrP c W B ts vs σ) (match itemsD x with
        | some es => .ok (enumD 0 es) ρ'
        | none => .stuck) := q
      cases e : itemsD x with
      | none => rw [e] at q; exact q.elim
      | some es =>
        rw [e] at q
        have q : OkI c B ts vs σ R (enumD 0 es) ρ' := q
        by_cases hl : isLst x = true
        · refine .inl (h B ts vs ρ σ H _ r ?_)
          rw [hk]
          intro us H' hlen r'
          match us, hlen with
          | [v], _ =>
            obtain ⟨G, O, hv⟩ := Rep.top (ts := ts) (vs := vs) r'
            obtain ⟨a, us, rfl, h1, k⟩ := hv.seq O.sub e
            rw [hl] at h1
            refine ⟨a, us, rfl, h1, q _ [x] [.ref a] H' rfl r' (walk_enu e ?_ ?_ ?_)⟩
            · rintro i H ⟨us, y, h1, h2⟩
              rw [hl] at h1
              exact ⟨us, y, h1, h2⟩
            · rintro i H ⟨us, h1, h2⟩
              rw [hl] at h1
              exact ⟨us, h1, by omega⟩
            · rintro i H y H' ⟨T, z, h1, h2, h3, h4⟩
              rw [hl]
              exact ⟨T, z, h1, h2, h3, fun us h => h4 us h⟩
        · have hl : isLst x = false := by simpa using hl
          refine .inr (h B ts vs ρ σ H _ r ?_)
          rw [hk]
          intro us H' hlen r'
          match us, hlen with
          | [v], _ =>
            obtain ⟨G, O, hv⟩ := Rep.top (ts := ts) (vs := vs) r'
            obtain ⟨a, us, rfl, h1, k⟩ := hv.seq O.sub e
            rw [hl] at h1
            refine ⟨a, us, rfl, h1, q _ [x] [.ref a] H' rfl r' (walk_enu e ?_ ?_ ?_)⟩
            · rintro i H ⟨us, y, h1, h2⟩
              rw [hl] at h1
              exact ⟨us, y, h1, h2⟩
            · rintro i H ⟨us, h1, h2⟩
              rw [hl] at h1
              exact ⟨us, h1, h2⟩
            · rintro i H y H' ⟨T, z, h1, h2, h3, h4⟩
              rw [hl]
              exact ⟨T, z, h1, h2, h3, fun us h => h4 us h⟩
end
/-! ### comprehensions -/
def wipeE (ρ : En) : List Nat → En
  | [] => ρ
  | v :: vs => (wipeE ρ vs).set v none
theorem wipeE_at (ρ : En) : ∀ (vs : List Nat) (i : Nat), i ∈ vs → (wipeE ρ vs).set i none = wipeE ρ vs
  | v :: vs, i, h => by
    unfold wipeE
    by_cases hv : v = i
    · subst hv
      rw [List.set_set]
    · rw [List.set_comm _ _ hv, wipeE_at ρ vs i ((List.mem_cons.mp h).resolve_left fun e => hv e.symm)]
theorem wipeE_id {ρ : En} : ∀ {own : List Nat}, (∀ v ∈ own, ρ.set v none = ρ) → wipeE ρ own = ρ
  | [], _ => rfl
  | v :: own, h => by
    unfold wipeE
    rw [wipeE_id fun w hw => h w (List.mem_cons_of_mem _ hw), h v List.mem_cons_self]
theorem wipe_in (σ : L2.St) : ∀ (vs : List Nat) (i : Nat), i ∈ vs → (wipe σ vs)[i]? = if i < σ.length then some none else none
  | v :: vs, i, h => by
    unfold wipe
    by_cases hv : v = i
    · subst hv
      by_cases hl : v < σ.length
      · rw [if_pos hl, List.getElem?_set_self (by rw [wipe_length]; exact hl)]
      · rw [if_neg hl, List.getElem?_eq_none (by rw [List.length_set, wipe_length]; omega)]
    · rw [List.getElem?_set_ne hv, wipe_in σ vs i ((List.mem_cons.mp h).resolve_left fun e => hv e.symm)]
theorem wipe_off (σ : L2.St) : ∀ (vs : List Nat) (i : Nat), i ∉ vs → (wipe σ vs)[i]? = σ[i]?
  | [], i, _ => rfl
  | v :: vs, i, h => by
    unfold wipe
    rw [List.getElem?_set_ne fun e => h (by simp [e]), wipe_off σ vs i fun e => h (List.mem_cons_of_mem _ e)]
theorem Off.wipe {js own : List Nat} {σ σ' : L2.St} (h : ∀ j ∈ js, j ∈ own) (o : Off js (wipe σ own) σ') : wipe σ' own = wipe σ own := by
  have hl : σ'.length = σ.length := by rw [o.1, wipe_length]
  apply List.ext_getElem?
  intro i
  by_cases hi : i ∈ own
  · rw [wipe_in _ _ _ hi, wipe_in _ _ _ hi, hl]
  · rw [wipe_off _ _ _ hi, o.2 i fun z => hi (h i z)]
section
variable {c : Cfg} {B : Base} {ts : En} {vs : List (Option V)} {ρ : En} {σ : L2.St} {H : Hp}
theorem Rep.wipe (r : Rep c B ts vs ρ σ H) : ∀ own : List Nat, Rep c B ts vs (wipeE ρ own) (wipe σ own) H
  | [] => r
  | v :: own => (Rep.wipe r own).forget none
theorem Rep.unwipe : ∀ (own : List Nat), (∀ v ∈ own, ρ.set v none = ρ) → Rep c B ts vs ρ (L2.wipe σ own) H → Rep c B ts vs ρ σ H
  | [], _, r => r
  | v :: own, h, r => by
    refine Rep.unwipe own (fun w hw => h w (List.mem_cons_of_mem _ hw)) ?_
    have r1 := r.forget (i := v) ((L2.wipe σ own)[v]?.getD none)
    rw [h v List.mem_cons_self] at r1
    have e : (L2.wipe σ (v :: own)).set v ((L2.wipe σ own)[v]?.getD none) = L2.wipe σ own := by
      show ((L2.wipe σ own).set v none).set v _ = _
      rw [List.set_set]
      apply List.ext_getElem?
      intro i
      by_cases hi : v = i
      · subst hi
        by_cases hl : v < (L2.wipe σ own).length
        · rw [List.getElem?_set_self hl, List.getElem?_eq_getElem hl]
          rfl
        · rw [List.getElem?_eq_none (by rw [List.length_set]; omega), List.getElem?_eq_none (by omega)]
      · rw [List.getElem?_set_ne hi]
    rw [e] at r1
    exact r1
/-- back from a turn -/
theorem Rep.back {σ2 : L2.St} {own : List Nat} (e : L2.wipe σ2 own = L2.wipe σ own) (r : Rep c B ts vs ρ σ2 H) : Rep c B ts vs (wipeE ρ own) σ H := by
  have r1 := r.wipe own
  rw [e] at r1
  exact Rep.unwipe own (fun v hv => wipeE_at ρ own v hv) r1
theorem RpAll.tmpS {c : Cfg} {B : Base} {G H : Hp} {us : List V} {ds : List D} {own : Owns} (k : RpAll c G us ds) (h : Sl c B G H ts vs own) : Sl c B G H (tmp ds ++ ts) (tmv us ++ vs) own := k.rev.sl h
theorem Rep.insO {st : List D} {sv : List V} {p : Addr} (hl : sv.length = st.length) (r : Rep c B (tmp st ++ ts) (tmv sv ++ vs) ρ σ H) (hp : H p = none) :
    Rep c B (tmp st ++ (some (.o none (.lst [])) :: ts)) (tmv sv ++ (some (.ref p) :: vs)) ρ σ (upd H p (.lst [])) := by
  obtain ⟨G, o1, o2, k, h1, h2⟩ := r
  obtain ⟨a1, a2⟩ := h1.tmp hl
  have ow := own_new (o := .lst []) k hp
  exact ⟨G, p :: o1, o2, k.allocO hp, a1.tmpS (.o ⟨[], upd_same, .nil⟩ (fun _ e => nomatch e) (a2.mono (fun _ _ e => e) fun q hq => ow q (List.mem_append_left _ hq))), h2.mono (fun _ _ e => e) fun q hq => ow q (List.mem_append_right _ hq)⟩
theorem Rep.appT {st acc : List D} {sv : List V} {p : Addr} {y : D} {v : V} (hl : sv.length = st.length) (r : Rep c B (some (.d y) :: (tmp st ++ (some (.o none (.lst acc)) :: ts))) (some v :: (tmv sv ++ (some (.ref p) :: vs))) ρ σ H) :
    ∃ us, H p = some (.lst us) ∧ us.length = acc.length ∧ Rep c B (tmp st ++ (some (.o none (.lst (acc ++ [y]))) :: ts)) (tmv sv ++ (some (.ref p) :: vs)) ρ σ (upd H p (.lst (us ++ [v]))) := by
  obtain ⟨G, o1, o2, k, h1, h2⟩ := r
  cases h1 with
  | d hv h1 =>
    obtain ⟨a1, a2⟩ := h1.tmp hl
    cases a2 with
    | @o _ _ _ _ _ own hc hb a2 =>
      obtain ⟨us, e, ku⟩ := hc
      have nd := k.nd
      rw [List.cons_append, List.nodup_cons] at nd
      have ne : ∀ q ∈ own ++ o2, upd H p (.lst (us ++ [v])) q = H q := fun q hq => upd_ne fun z => nd.1 (z ▸ hq)
      refine ⟨us, e, ku.length, G, p :: own, o2, k.write (List.mem_append_left _ List.mem_cons_self) e (.lst _), a1.tmpS (.o ⟨_, upd_same, ku.snoc hv⟩ hb (a2.mono (fun _ _ e => e) fun q hq => ne q (List.mem_append_left _ hq))), h2.mono (fun _ _ e => e) fun q hq => ne q (List.mem_append_right _ hq)⟩
theorem Rep.accT {st acc : List D} {sv : List V} {p : Addr} (hl : sv.length = st.length) (r : Rep c B (tmp st ++ (some (.o none (.lst acc)) :: ts)) (tmv sv ++ (some (.ref p) :: vs)) ρ σ H) : Rep c B (some (.o none (.lst acc)) :: ts) (some (.ref p) :: vs) ρ σ H := r.dropN hl
end
/-- an exception may not leave a comprehension -/
def Out.calm {α : Type} : Out α → Out α
  | .err _ _ => .stuck
  | o => o
def W0 : WX := fun _ _ _ _ => False
def mComp (gm : D → M Unit) (ft : M Bool) (fe : M S) (own : List Nat) : List D → List D → En → Out (List D)
  | [], acc, ρ => .ok acc ρ
  | x :: xs, acc, ρ => (gm x ρ).calm.then fun _ ρ1 => (ft ρ1).calm.then fun b ρ2 => if b = true then (dv fe ρ2).calm.then fun y ρ3 => if small (acc.length + 1) then mComp gm ft fe own xs (acc ++ [y]) (wipeE ρ3 own) else .stuck
    else mComp gm ft fe own xs acc (wipeE ρ2 own)
def mLc (fI : M (List D)) (gm : D → M Unit) (ft : M Bool) (fe : M S) (own : List Nat) : M S := fun ρ => (fI ρ).then fun items ρ1 => (mComp gm ft fe own items [] (wipeE ρ1 own)).then fun ds ρ2 => .ok (.o none (.lst ds)) ρ2
theorem post_calm {α : Type} {K : α → En → Prop} {E E' : Err → En → Prop} {m : Out α} (h : Post K E m.calm) : Post K E' m := by
  cases m with
  | ok a ρ => exact h
  | err e ρ => exact h.elim
  | stuck => exact h
section
variable {c : Cfg} {W : WX} {wi : TI} {fI : M (List D)} {te : TE} {fe : M S} {tt : TT} {ft : M Bool} {g : TG} {gm : D → M Unit} {js own : List Nat}
theorem den_lc (h : DenI c W wi fI) (k : DenG c W0 g gm js) (kt : DenT c W0 tt ft) (ke : Den c W0 te fe) (hj : ∀ j ∈ js, j ∈ own) : Den c W (tLc wi g tt te own) (mLc fI gm ft fe own) := fun B ts vs ρ σ H Q r q => by
  unfold mLc at q
  rw [post_then] at q
  refine h B ts vs ρ σ H _ r (q.imp1 fun items ρ1 q J st sv H1 hl r1 w D hD => ?_)
  obtain ⟨n, Gw, Y, wk, rfl, hG, hY⟩ := w
  rw [post_then] at q
  refine lc_it wk (fun i H => ∃ ρ acc, Rep c B (tmp st ++ (some (.o none (.lst acc)) :: ts)) (tmv sv ++ (some (.ref D) :: vs)) ρ σ H ∧ (∀ v ∈ own, ρ.set v none = ρ) ∧
    Post (fun ds ρ2 => OkP c B ts vs σ Q (.o none (.lst ds)) ρ2) (ErrP c W B ts vs σ) (mComp gm ft fe own (items.drop i) acc ρ)) ⟨wipeE ρ1 own, [], ?_, fun v hv => wipeE_at ρ1 own v hv, q⟩ (fun i H _ ⟨ρ, acc, r, _⟩ => hG _ _ _ _ _ _ r) ?_ ?_
  · exact (Rep.insO hl r1 hD).back rfl
  · rintro i x H1 H2 hi ⟨ρ, acc, r, hw, q⟩ y
    obtain ⟨d, ed, r2⟩ := hY _ _ _ _ _ _ _ _ _ hi r y
    have hd : items.drop i = d :: items.drop (i + 1) := by
      rw [List.drop_eq_getElem_cons hi]
      rw [List.getElem?_eq_getElem hi] at ed
      cases ed
      rfl
    rw [hd] at q
    have q : Post _ _ ((gm d ρ).calm.then fun _ ρ1 => (ft ρ1).calm.then fun b ρ2 => _) := q
    rw [post_then] at q
    have r3 : Rep c B (some (.d d) :: (tmp st ++ (some (.o none (.lst acc)) :: ts))) (some x :: (tmv sv ++ (some (.ref D) :: vs))) ρ (L2.wipe σ own) H2 := by
      have := r2.wipe own
      have e := wipeE_id hw
      rw [e] at this
      exact this
    refine k B _ _ ρ _ H2 d x _ r3 (post_calm (q.imp1 fun _ ρ2 q σ2 H3 o r4 => ?_))
    have eo := Off.wipe hj o
    refine ⟨eo, ?_⟩
    rw [post_then] at q
    refine kt B _ _ ρ2 σ2 H3 _ r4 (post_calm (q.imp1 fun b ρ3 q H4 r5 => ?_))
    cases b with
    | false => exact ⟨wipeE ρ3 own, acc, r5.back eo, fun v hv => wipeE_at ρ3 own v hv, q⟩
    | true =>
      have q : Post _ _ ((dv fe ρ3).calm.then fun y ρ4 => _) := q
      rw [post_then] at q
      refine ke.dv r5 (post_calm (q.imp1 fun y ρ4 q v H5 r6 => ?_))
      split at q
      · rename_i hz
        obtain ⟨us, e1, e2, r7⟩ := Rep.appT hl r6
        refine ⟨us, e1, ?_, wipeE ρ4 own, acc ++ [y], r7.back eo, fun v hv => wipeE_at ρ4 own v hv, q⟩
        have := small_line hz
        omega
      · exact q.elim
  · rintro H1 ⟨ρ, acc, r, _, q⟩
    rw [List.drop_length] at q
    exact q _ H1 (r.accT hl)
end
end Fx
/-! defs, their calls, fields, what is made -/
namespace Fx
open PySem PySem.Spec PyProof.Rows L2
open C8 (Cal Mak pe_c pe_mk)
/-! ### states within states -/
def erK : List D → List D
  | [.ins n ds, _] => [.ins n ds, .tup []]
  | ks => ks
theorem erK_key {kvs : List (Key × V)} : erK (kvs.map fun p => keyD p.1) = kvs.map fun p => keyD p.1 := by
  match kvs with
  | [] => rfl
  | (.inl i, _) :: _ => rfl
  | (.inr i, _) :: _ => rfl
theorem QCell.er {c : Cfg} {B B' : Base} {G H : Hp} {a : Addr} {ks : List D} {dss : List (List D)} {os : Owns} (h : QCell c B G H a ks dss os) : QCell c B' G H a (erK ks) dss os := by
  rcases h with ⟨kvs, bs, rfl, h1, rfl, h3, h4⟩ | ⟨n, ds, p, dk, dv, dx, fs, b, o, kv, us, vs, rfl, rfl, rfl, h1, h2, h3, h4, h5, h6, h7, h8, h9⟩ | ⟨ks', o, kv, bs, rfl, rfl, h1, h2, h3, h4⟩
  · exact .inl ⟨kvs, bs, rfl, h1, erK_key, h3, h4⟩
  · exact .inr (.inl ⟨n, ds, none, dk, dv, dx, fs, b, o, kv, us, vs, rfl, rfl, rfl, h1, h2, h3, h4, h5, h6, h7, h8, fun j e => nomatch e⟩)
  · exact .inr (.inr ⟨ks', o, kv, bs, rfl, rfl, h1, h2, h3, h4⟩)
theorem QCell.un {c : Cfg} {B B' : Base} {G H G' H' : Hp} {a : Addr} {ks : List D} {dss : List (List D)} {os os' : Owns} (h0 : QCell c B G H a ks dss os) (h : QCell c B' G' H' a (erK ks) dss os') : QCell c B G' H' a ks dss os' := by
  rcases h0 with ⟨kvs, bs, rfl, h1, rfl, h3, h4⟩ | ⟨n, ds, p, dk, dv, dx, fs, b, o, kv, us, vs, rfl, rfl, rfl, h1, h2, h3, h4, h5, h6, h7, h8, h9⟩ | ⟨ks', o, kv, bs, rfl, rfl, h1, h2, h3, h4⟩
  · rw [erK_key] at h
    rcases h with h | ⟨n, ds, p, dk, dv, dx, fs, b, o, kv, us, vs, e, _⟩ | ⟨ks', o, kv, bs', e, _⟩
    · exact .inl h
    · exfalso
      match kvs, e with
      | (.inl i, _) :: _, e => cases e
      | (.inr i, _) :: _, e => cases e
    · exfalso
      match kvs, e with
      | (.inl i, _) :: _, e => cases e
      | (.inr i, _) :: _, e => cases e
  · rcases h with ⟨kvs, bs, rfl, g1, e, g3, g4⟩ | ⟨n', ds', p', dk', dv', dx', fs', b', o', kv', us', vs', e1, e2, rfl, g1, g2, g3, g4, g5, g6, g7, g8, g9⟩ | ⟨ks', o, kv, bs, e, _⟩
    · exfalso
      match kvs, e with
      | (.inl i, _) :: _, e => cases e
      | (.inr i, _) :: _, e => cases e
    · have e1 : [D.ins n ds, D.tup []] = [D.ins n' ds', plD p'] := e1
      rw [List.cons.injEq, D.ins.injEq] at e1
      obtain ⟨⟨rfl, rfl⟩, _⟩ := e1
      cases e2
      exact .inr (.inl ⟨n, ds, p, dk, dv, dx', fs', b', o', kv', us', vs', rfl, rfl, rfl, g1, g2, g3, g4, g5, g6, g7, g8, h9⟩)
    · cases (show [D.ins n ds, D.tup []] = [D.tup ks'] from e)
  · rcases h with ⟨kvs, bs, rfl, g1, e, g3, g4⟩ | ⟨n', ds', p', dk', dv', dx', fs', b', o', kv', us', vs', e1, _⟩ | g
    · exfalso
      match kvs, e with
      | (.inl i, _) :: _, e => cases e
      | (.inr i, _) :: _, e => cases e
    · cases (show [D.tup ks'] = [D.ins n' ds', plD p'] from e1)
    · exact .inr (.inr g)
def er : S → S
  | .d x => .d x
  | .o _ x => .o none x
  | .q ks dss => .q (erK ks) dss
def erE (es : En) : En := es.map (Option.map er)
def bare (s : S) : Bool := match s with
  | .d _ => true
  | .o none _ => true
  | .o (some _) _ => false
  | .q _ _ => false
section
variable {c : Cfg} {B B' : Base} {G G' H H' : Hp} {ts es es' : En} {vs ws : List (Option V)} {ρ : En} {σ : L2.St} {own own' : Owns}
theorem Sl.er : ∀ {es : En} {vs : List (Option V)} {own : Owns}, Sl c B G H es vs own → Sl c B' G H (erE es) vs own
  | _, _, _, .nil => .nil
  | _, _, _, .skip k => .skip (Sl.er k)
  | _, _, _, .d h k => .d h (Sl.er k)
  | _, _, _, .o h _ k => .o h (fun _ e => nomatch e) (Sl.er k)
  | _, _, _, .q h k => .q h.er (Sl.er k)
theorem Sl.unflag : ∀ {es : En} {vs : List (Option V)} {own own' : Owns}, Sl c B G H es vs own → Sl c B' G' H' (erE es) vs own' → Sl c B G' H' es vs own'
  | [], _, _, _, .nil, h => by
    cases h
    exact .nil
  | none :: es, _, _, _, .skip k, h => by
    have h : Sl c B' G' H' (none :: erE es) _ _ := h
    cases h with
    | skip h => exact .skip (Sl.unflag k h)
  | some (.d x) :: es, _, _, _, .d _ k, h => by
    have h : Sl c B' G' H' (some (.d x) :: erE es) _ _ := h
    cases h with
    | d h1 h => exact .d h1 (Sl.unflag k h)
  | some (.o b x) :: es, _, _, _, .o _ hb k, h => by
    have h : Sl c B' G' H' (some (.o none x) :: erE es) _ _ := h
    cases h with
    | o h1 _ h2 => exact .o h1 hb (Sl.unflag k h2)
  | some (.q ks dss) :: es, _, _, _, .q h0 k, h => by
    have h : Sl c B' G' H' (some (.q (erK ks) dss) :: erE es) _ _ := h
    cases h with
    | q h1 h2 => exact .q (h0.un h1) (Sl.unflag k h2)
theorem Sl.app : ∀ {es : En} {vs : List (Option V)} {o1 o2 : Owns}, Sl c B G H es vs o1 → Sl c B G H es' ws o2 → Sl c B G H (es ++ es') (vs ++ ws) (o1 ++ o2)
  | _, _, _, _, .nil, h => h
  | _, _, _, _, .skip k, h => .skip (Sl.app k h)
  | _, _, _, _, .d a k, h => .d a (Sl.app k h)
  | _, _, _, _, .o a b k, h => .o a b (Sl.app k h)
  | _, _, _, _, .q a k, h => by
    rw [List.append_assoc]
    exact .q a (Sl.app k h)
theorem Sl.split : ∀ {es : En} {vs : List (Option V)} {own : Owns}, es.length = vs.length → Sl c B G H (es ++ es') (vs ++ ws) own → ∃ o1 o2, own = o1 ++ o2 ∧ Sl c B G H es vs o1 ∧ Sl c B G H es' ws o2
  | [], [], own, _, h => ⟨[], own, rfl, .nil, h⟩
  | [], _ :: _, _, e, _ => by simp at e
  | _ :: _, [], _, e, _ => by simp at e
  | none :: es, v :: vs, _, e, h => by
    have h : Sl c B G H (none :: (es ++ es')) (v :: (vs ++ ws)) _ := h
    cases h with
    | skip h =>
      obtain ⟨o1, o2, rfl, h1, h2⟩ := Sl.split (by simpa using e) h
      exact ⟨o1, o2, rfl, .skip h1, h2⟩
  | some (.d x) :: es, v :: vs, _, e, h => by
    have h : Sl c B G H (some (.d x) :: (es ++ es')) (v :: (vs ++ ws)) _ := h
    cases h with
    | d a h =>
      obtain ⟨o1, o2, rfl, h1, h2⟩ := Sl.split (by simpa using e) h
      exact ⟨o1, o2, rfl, .d a h1, h2⟩
  | some (.o b x) :: es, v :: vs, _, e, h => by
    have h : Sl c B G H (some (.o b x) :: (es ++ es')) (v :: (vs ++ ws)) _ := h
    cases h with
    | o a hb h3 =>
      obtain ⟨o1, o2, rfl, h1, h2⟩ := Sl.split (by simpa using e) h3
      exact ⟨_ :: o1, o2, rfl, .o a hb h1, h2⟩
  | some (.q ks dss) :: es, v :: vs, _, e, h => by
    have h : Sl c B G H (some (.q ks dss) :: (es ++ es')) (v :: (vs ++ ws)) _ := h
    cases h with
    | q a h3 =>
      obtain ⟨o1, o2, rfl, h1, h2⟩ := Sl.split (by simpa using e) h3
      exact ⟨_ ++ o1, o2, by rw [List.append_assoc], .q a h1, h2⟩
theorem RpAll.slot {us : List V} {ds : List D} (k : RpAll c G us ds) : Sl c B G H (ds.map fun x => some (S.d x)) (us.map some) [] := by
  have := k.sl (B := B) (H := H) (ts := []) (vs := []) (own := []) .nil
  rwa [List.append_nil, List.append_nil] at this
theorem OkB.anyB (k : OkB c B G H own) (hp : B'.pin = B.pin := by rfl) : OkB c B' G H own := ⟨k.sub, k.notbl, k.nd, k.out, k.tabs, fun a o e => k.pint a o (by rw [← hp]; exact e), fun a o e => k.pin a o (by rw [← hp]; exact e)⟩
/-- into a def: what waits are its arguments, all else waits -/
theorem Rep.enter {ds : List D} {us : List V} (hl : us.length = ds.length) (r : Rep c B (tmp ds ++ ts) (tmv us ++ vs) ρ σ H) (hp : B'.pin = B.pin := by rfl) : Rep c B' (erE ts ++ erE ρ) (vs ++ σ) (ds.map fun x => some (S.d x)) (us.map some) H := by
  obtain ⟨G, o1, o2, k, h1, h2⟩ := r
  obtain ⟨a1, a2⟩ := h1.tmp hl
  exact ⟨G, o1 ++ o2, [], by rw [List.append_nil]; exact k.anyB (hp := hp), (a2.er).app h2.er, a1.slot⟩
/-- back from it -/
theorem Rep.leave {s : S} {v : V} {ρ' : En} {σ' : L2.St} {H0 : Hp} (hs : bare s = true) (r0 : Rep c B ts vs ρ σ H0) (r : Rep c B' (some s :: (erE ts ++ erE ρ)) (some v :: (vs ++ σ)) ρ' σ' H) (hp : B'.pin = B.pin := by rfl) : Rep c B (some s :: ts) (some v :: vs) ρ σ H := by
  obtain ⟨G0, p1, p2, k0, g1, g2⟩ := r0
  obtain ⟨G, o1, o2, k, h1, h2⟩ := r
  obtain ⟨w, os, o1', ew, e1, rfl, h1'⟩ := h1.unone
  cases ew
  obtain ⟨q1, q2, rfl, f1, f2⟩ := h1'.split (by rw [show (erE ts).length = ts.length by simp [erE]]; exact g1.length)
  have e1' : En1 c B G H s v os := by
    cases e1 with
    | d h => exact .d h
    | @o a b x hc hb =>
      cases b with
      | none => exact .o hc fun _ e => nomatch e
      | some k => cases hs
    | q h => cases hs
  refine ⟨G, os ++ q1, q2, (k.anyB (hp := hp.symm)).subO (fun p hp => ?_) ?_, Sl.one e1' (g1.unflag f1), g2.unflag f2⟩
  · simp only [List.mem_append] at hp ⊢
    rcases hp with (hp | hp) | hp
    · exact .inl (.inl hp)
    · exact .inl (.inr (.inl hp))
    · exact .inl (.inr (.inr hp))
  · refine k.nd.sublist ?_
    rw [List.append_assoc os]
    exact List.sublist_append_left _ _
end
/-! ### defs -/
abbrev Fn := List S → Out S
/-- a def of np parameters and nN names, by its body -/
def runF (np nN : Nat) (body : M Fl) : Fn := fun args => if args.length = np then match body (args.map some ++ List.replicate (nN - np) none) with
    | .ok (.rt s) ρ => .ok s ρ
    | .ok .nx ρ => .ok (.d .non) ρ
    | .err e ρ => .err e ρ
    | _ => .stuck
  else .stuck
/-- what a def promises that nothing leaves by an exception -/
def spF (c : Cfg) (F : Fn) : Sp := fun vs H Q _ => ∃ B ts ws args, Rep c B ts ws (args.map some) (vs.map some) H ∧ Post (fun s ρ' => ∀ v σ' H', Rep c B (some s :: ts) (some v :: ws) ρ' σ' H' → Q v H') (fun _ _ => False) (F args)
theorem Rep.slots {c : Cfg} {B : Base} {ts : En} {vs : List (Option V)} {ρ : En} {σ : L2.St} {H : Hp} (n : Nat) (r : Rep c B ts vs ρ σ H) : Rep c B ts vs (ρ ++ List.replicate n none) (σ ++ List.replicate n none) H := by
  obtain ⟨G, o1, o2, k, h1, h2⟩ := r
  have : ∀ n : Nat, Sl c B G H (List.replicate n none) (List.replicate n none) [] := by
    intro n
    induction n with
    | zero => exact .nil
    | succ n ih => exact .skip ih
  refine ⟨G, o1, o2, k, h1, ?_⟩
  have := h2.app (this n)
  rwa [List.append_nil] at this
section
variable {P : Program} {w : World} {K : PySem.W.Frag} {mg : Str → Option Value} {base : Heap}
theorem fn_den {c : Cfg} {x qual : Str} {st : Stmt} {f : Addr} {fd : FuncData} {N ps : List Str} {k : Nat} {body : M Fl} (F : Fun K x qual st f fd) (Sc : FnScope N ps (defScope st))
    (hbody : ∀ (cdv : Value) (A : Around) (outer : List Env) (s : Shared) (H : Hp) (E : XK), Room k (A.deeper (envOfC qual (defScope st) s.heap.objs.size f cdv)) →
      ∃ t, PSs (cxOf L2.CX0 P w K mg base N qual (defScope st) f cdv A outer s H E).nox (defBody st) t ∧ DenS c W0 t body) : FnOk P w K mg base L2.CX0 (k + 1) f fd ps (spF c (runF ps.length N.length body)) := by
  have len : ∀ vs H Q E, spF c (runF ps.length N.length body) vs H Q E → vs.length = ps.length := by
    rintro vs H Q E ⟨B, ts, ws, args, r, p⟩
    obtain ⟨G, o1, o2, k, h1, h2⟩ := r
    have e := h2.length
    rw [List.length_map, List.length_map] at e
    unfold runF at p
    split at p
    · rename_i ha
      omega
    · exact p.elim
  refine F.ok Sc len fun cdv A outer s H vs Q E hr h => ?_
  have hl := len vs H Q E h
  obtain ⟨B, ts, ws, args, r, p⟩ := h
  obtain ⟨t, h1, h2⟩ := hbody cdv A outer s H E hr
  refine ⟨t, h1, ?_⟩
  unfold runF at p
  split at p
  · rename_i ha
    have r2 := r.slots (N.length - ps.length)
    have e1 : vs.map some ++ List.replicate (N.length - ps.length) none = L2.start N vs := by
      unfold L2.start
      rw [hl]
    rw [e1] at r2
    refine h2 B ts ws _ _ H _ r2 ?_
    cases hb : body (args.map some ++ List.replicate (N.length - ps.length) none) with
    | stuck => rw [hb] at p; exact p.elim
    | err e ρ => rw [hb] at p; exact p.elim
    | ok f ρ =>
      rw [hb] at p
      cases f with
      | rt s => exact fun v σ' H' r' => p v σ' H' r'
      | nx => exact fun σ' H' r' => p .non σ' H' (Rep.repl (ds := []) (us := []) r' rfl fun G _ => .non)
      | bk => exact p.elim
      | ct => exact p.elim
  · exact p.elim
end
/-! ### calls -/
def mCall (F : Fn) (fA : M (List D)) : M S := fun ρ => (fA ρ).then fun ds ρ1 => match F (ds.map .d) with
  | .ok s _ => if bare s then .ok s ρ1 else .stuck
  | _ => .stuck
section
variable {c : Cfg} {W : WX} {tA : TA} {fA : M (List D)} {F : Fn} {E : XK}
theorem den_call (h : DenA c W tA fA) : Den c W (tCall (spF c F) [] E tA) (mCall F fA) := fun B ts vs ρ σ H Q r q => by
  unfold mCall at q
  rw [post_then] at q
  refine h B ts vs ρ σ H _ r (q.imp1 fun ds ρ1 q us H1 hl r1 => ?_)
  show spF c F (us ++ []) H1 Q E
  rw [List.append_nil]
  refine ⟨⟨fun _ => none, B.pin⟩, erE ts ++ erE ρ1, vs ++ σ, ds.map .d, by rw [List.map_map]; exact r1.enter hl, ?_⟩
  have r2 := r1.dropN hl
  cases hf : F (ds.map .d) with
  | stuck => rw [hf] at q; exact q.elim
  | err e ρ' => rw [hf] at q; exact q.elim
  | ok s ρ' =>
    rw [hf] at q
    have q : Post (OkP c B ts vs σ Q) (ErrP c W B ts vs σ) (if bare s then .ok s ρ1 else .stuck) := q
    split at q
    · rename_i hs
      exact fun v σ' H' r' => q v H' (Rep.leave hs r2 r')
    · exact q.elim
end
/-! ### an argument that may be changed -/
/-- the arguments but the one at slot i, which stands at place j -/
def OkC (c : Cfg) (B : Base) (ts : En) (vs : List (Option V)) (σ : L2.St) (i j : Nat) (Q : List V → Hp → Prop) (ds : List D) (ρ : En) : Prop :=
  ∀ us H' a, us.length = ds.length → Rep c B (tmp ds ++ ts) (tmv us ++ vs) ρ σ H' → σ[i]? = some (some (.ref a)) → j ≤ ds.length → Q (us.take j ++ .ref a :: us.drop j) H'
def DenC (c : Cfg) (W : WX) (tA : TA) (i j : Nat) (f : M (List D)) : Prop := ∀ B ts vs ρ σ H Q, Rep c B ts vs ρ σ H → Post (OkC c B ts vs σ i j Q) (ErrP c W B ts vs σ) (f ρ) → tA σ H Q
def isOwn (ρ : En) (i : Nat) : Bool := match ρ[i]? with
  | some (some (.o _ _)) => true
  | _ => false
def aOwn (i : Nat) (fr : M (List D)) : M (List D) := fun ρ => if isOwn ρ i then fr ρ else .stuck
section
variable {c : Cfg} {B B' : Base} {W : WX} {ta : TE} {fa : M S} {tr tA : TA} {fr fA : M (List D)} {F : Fn} {E : XK} {i j : Nat} {ts : En} {vs : List (Option V)} {ρ : En} {σ : L2.St} {H : Hp}
theorem dc_own (h : DenA c W tr fr) : DenC c W (tCons (tVar i) tr) i 0 (aOwn i fr) := fun B ts vs ρ σ H Q r q => by
  unfold aOwn at q
  split at q
  · rename_i ho
    unfold isOwn at ho
    split at ho
    · rename_i b x e
      obtain ⟨a, e1, _⟩ := r.varO e
      refine ⟨.ref a, e1, h B ts vs ρ σ H _ r (q.imp1 fun ds ρ1 q us H1 hl r1 => ?_)⟩
      exact q us H1 a hl r1 e1 (Nat.zero_le _)
    · cases ho
  · exact q.elim
def mCallO (F : Fn) (i j : Nat) (fA : M (List D)) : M S := fun ρ => (fA ρ).then fun ds ρ1 => match ρ1[i]? with
  | some (some (.o b x)) => if j ≤ ds.length then match F ((ds.take j).map .d ++ .o (some j) x :: (ds.drop j).map .d) with
      | .ok s ρ' => match ρ'[j]? with
        | some (some (.o (some j') y)) => if j' = j ∧ bare s = true then .ok s (ρ1.set i (some (.o b y))) else .stuck
        | _ => .stuck
      | _ => .stuck
    else .stuck
  | _ => .stuck
/-- into a def with a cell -/
theorem Sl.takeO : ∀ {es : En} {vs : List (Option V)} {own : Owns} {i : Nat} {b : Option Nat} {x : D} {G : Hp}, Sl c B G H es vs own → es[i]? = some (some (.o b x)) → ∃ a own', vs[i]? = some (some (.ref a)) ∧ Cell c G H a x ∧ (∀ k, b = some k → B.at_ k = some a) ∧ Sl c B G H (es.set i none) vs own' ∧ (∀ p ∈ own, p = a ∨ p ∈ own') ∧ (∀ p ∈ own', p ∈ own) ∧ a ∈ own ∧ (own.Nodup → own'.Nodup ∧ a ∉ own')
  | _, _, _, _, _, _, _, .nil, e => by simp at e
  | _, _, _, 0, _, _, _, .skip k, e => by simp at e
  | _, _, _, 0, _, _, _, .d h k, e => by simp at e
  | _, _, a :: own, 0, _, _, _, .o h hb k, e => by
    simp at e
    obtain ⟨rfl, rfl⟩ := e
    exact ⟨a, own, rfl, h, hb, .skip k, fun p hp => List.mem_cons.mp hp, fun p hp => List.mem_cons_of_mem _ hp, List.mem_cons_self, fun nd => ⟨(List.nodup_cons.mp nd).2, (List.nodup_cons.mp nd).1⟩⟩
  | _, _, _, i + 1, _, _, _, .skip k, e => by
    obtain ⟨a, own', h1, h2, h3, h4, h5⟩ := Sl.takeO (i := i) k (by simpa using e)
    exact ⟨a, own', h1, h2, h3, .skip h4, h5⟩
  | _, _, _, i + 1, _, _, _, .d h k, e => by
    obtain ⟨a, own', h1, h2, h3, h4, h5⟩ := Sl.takeO (i := i) k (by simpa using e)
    exact ⟨a, own', h1, h2, h3, .d h h4, h5⟩
  | _, _, b :: own, i + 1, _, _, _, .o h hb k, e => by
    obtain ⟨a, own', h1, h2, h3, h4, h5, h6, h7, h8⟩ := Sl.takeO (i := i) k (by simpa using e)
    refine ⟨a, b :: own', h1, h2, h3, .o h hb h4, fun p hp => ?_, fun p hp => ?_, List.mem_cons_of_mem _ h7, fun nd => ?_⟩
    · rcases List.mem_cons.mp hp with rfl | hp
      · exact .inr List.mem_cons_self
      · exact (h5 p hp).imp id (List.mem_cons_of_mem _)
    · rcases List.mem_cons.mp hp with rfl | hp
      · exact List.mem_cons_self
      · exact List.mem_cons_of_mem _ (h6 p hp)
    · rw [List.nodup_cons] at nd
      obtain ⟨n1, n2⟩ := h8 nd.2
      refine ⟨List.nodup_cons.mpr ⟨fun hm => nd.1 (h6 _ hm), n1⟩, fun hm => ?_⟩
      rcases List.mem_cons.mp hm with rfl | hm
      · exact nd.1 h7
      · exact n2 hm
  | _, _, _, 0, _, _, _, .q h k, e => by simp at e
  | _, _, _, i + 1, _, _, _, @Sl.q _ _ _ _ _ _ _ _ _ qs own h k, e => by
    obtain ⟨a, own', h1, h2, h3, h4, h5, h6, h7, h8⟩ := Sl.takeO (i := i) k (by simpa using e)
    refine ⟨a, qs ++ own', h1, h2, h3, .q h h4, fun p hp => ?_, fun p hp => ?_, List.mem_append_right _ h7, fun nd => ?_⟩
    · rcases List.mem_append.mp hp with hp | hp
      · exact .inr (List.mem_append_left _ hp)
      · exact (h5 p hp).imp id (List.mem_append_right _)
    · rcases List.mem_append.mp hp with hp | hp
      · exact List.mem_append_left _ hp
      · exact List.mem_append_right _ (h6 p hp)
    · have n0 := List.nodup_append.mp nd
      obtain ⟨n1, n2⟩ := h8 n0.2.1
      refine ⟨nodup_sub nd h6 n1, fun hm => ?_⟩
      rcases List.mem_append.mp hm with hm | hm
      · exact n0.2.2 _ hm _ h7 rfl
      · exact n2 hm
theorem Sl.cons_inv {G : Hp} {s : Option S} {es : En} {v : Option V} {vs : List (Option V)} {own : Owns} (h : Sl c B G H (s :: es) (v :: vs) own) : (s = none ∧ Sl c B G H es vs own) ∨ (∃ w x, s = some (.d x) ∧ v = some w ∧ Rp c G w x ∧ Sl c B G H es vs own) ∨
    (∃ a b x o', s = some (.o b x) ∧ v = some (.ref a) ∧ own = a :: o' ∧ Cell c G H a x ∧ (∀ k, b = some k → B.at_ k = some a) ∧ Sl c B G H es vs o') ∨
    ∃ a ks dss os o', s = some (.q ks dss) ∧ v = some (.ref a) ∧ own = os ++ o' ∧ QCell c B G H a ks dss os ∧ Sl c B G H es vs o' := by
  cases h with
  | skip k => exact .inl ⟨rfl, k⟩
  | d h k => exact .inr (.inl ⟨_, _, rfl, rfl, h, k⟩)
  | o h hb k => exact .inr (.inr (.inl ⟨_, _, _, _, rfl, rfl, rfl, h, hb, k⟩))
  | q h k => exact .inr (.inr (.inr ⟨_, _, _, _, _, rfl, rfl, rfl, h, k⟩))
theorem Sl.putO {G : Hp} : ∀ {es : En} {vs : List (Option V)} {own : Owns} {i : Nat} {b : Option Nat} {x : D} {a : Addr}, Sl c B G H (es.set i none) vs own → i < es.length → vs[i]? = some (some (.ref a)) → Cell c G H a x → (∀ k, b = some k → B.at_ k = some a) → ∃ own', Sl c B G H (es.set i (some (.o b x))) vs own' ∧ (∀ p ∈ own', p = a ∨ p ∈ own) ∧ (own.Nodup → a ∉ own → own'.Nodup)
  | [], _, _, _, _, _, _, _, hi, _, _, _ => by simp at hi
  | s :: es, v :: vs, own, 0, b, x, a, h, _, ev, hc, hb => by
    have h : Sl c B G H (none :: es) (v :: vs) own := h
    simp at ev
    subst ev
    cases h with
    | skip h => exact ⟨a :: own, .o hc hb h, fun p hp => List.mem_cons.mp hp, fun nd na => List.nodup_cons.mpr ⟨na, nd⟩⟩
  | s :: es, [], own, 0, b, x, a, h, _, ev, hc, hb => by simp at ev
  | s :: es, [], own, i + 1, b, x, a, h, _, ev, hc, hb => by simp at ev
  | s :: es, v :: vs, own, i + 1, b, x, a, h, hi, ev, hc, hb => by
    have hj : i < es.length := by simpa using hi
    have ew : vs[i]? = some (some (.ref a)) := by simpa using ev
    rcases Sl.cons_inv (show Sl c B G H (s :: es.set i none) (v :: vs) own from h) with ⟨rfl, k⟩ | ⟨w, y, rfl, rfl, hh, k⟩ | ⟨a', b', y, o', rfl, rfl, rfl, hh, hb', k⟩ | ⟨a', ks, dss, os, o', rfl, rfl, rfl, hh, k⟩
    · obtain ⟨own', h1, h2, h3⟩ := Sl.putO k hj ew hc hb
      exact ⟨own', .skip h1, h2, h3⟩
    · obtain ⟨own', h1, h2, h3⟩ := Sl.putO k hj ew hc hb
      exact ⟨own', .d hh h1, h2, h3⟩
    · obtain ⟨own', h1, h2, h3⟩ := Sl.putO k hj ew hc hb
      refine ⟨a' :: own', .o hh hb' h1, fun p hp => ?_, fun nd na => ?_⟩
      · rcases List.mem_cons.mp hp with rfl | hp
        · exact .inr List.mem_cons_self
        · exact (h2 p hp).imp id (List.mem_cons_of_mem _)
      · rw [List.nodup_cons] at nd
        rw [List.mem_cons, not_or] at na
        refine List.nodup_cons.mpr ⟨fun hm => ?_, h3 nd.2 na.2⟩
        rcases h2 a' hm with e | hm
        · exact na.1 e.symm
        · exact nd.1 hm
    · obtain ⟨own', h1, h2, h3⟩ := Sl.putO k hj ew hc hb
      refine ⟨os ++ own', .q hh h1, fun p hp => ?_, fun nd na => ?_⟩
      · rcases List.mem_append.mp hp with hp | hp
        · exact .inr (List.mem_append_left _ hp)
        · exact (h2 p hp).imp id (List.mem_append_right _)
      · rw [List.nodup_append] at nd ⊢
        rw [List.mem_append, not_or] at na
        refine ⟨nd.1, h3 nd.2.1 na.2, fun x hx y hy e => ?_⟩
        rcases h2 y hy with z | z
        · exact na.1 (z ▸ e ▸ hx)
        · exact nd.2.2 x hx y z e
theorem Rep.enterO {ds : List D} {us : List V} {b : Option Nat} {x : D} {a : Addr} (hl : us.length = ds.length) (hj : j ≤ ds.length) (r : Rep c B (tmp ds ++ ts) (tmv us ++ vs) ρ σ H) (e : ρ[i]? = some (some (.o b x))) (ev : σ[i]? = some (some (.ref a))) :
    Rep c ⟨fun k => if k = j then some a else none, B.pin⟩ (erE ts ++ erE (ρ.set i none)) (vs ++ σ) (((ds.take j).map S.d ++ S.o (some j) x :: (ds.drop j).map S.d).map some) ((us.take j ++ V.ref a :: us.drop j).map some) H := by
  obtain ⟨G, o1, o2, k, h1, h2⟩ := r
  obtain ⟨a1, a2⟩ := h1.tmp hl
  obtain ⟨a', own', e1, hc, _, h3, m1, m2, m3, m4⟩ := h2.takeO e
  rw [ev] at e1
  cases e1
  have nd := k.nd
  rw [List.nodup_append] at nd
  obtain ⟨n1, n2, n3⟩ := nd
  obtain ⟨n4, n5⟩ := m4 n2
  refine ⟨G, o1 ++ own', [a], (k.anyB).subO (fun p hp => ?_) ?_, (a2.er).app h3.er, ?_⟩
  · rcases List.mem_append.mp hp with hp | hp
    · rcases List.mem_append.mp hp with hp | hp
      · exact List.mem_append_left _ hp
      · exact List.mem_append_right _ (m2 p hp)
    · simp at hp
      subst hp
      exact List.mem_append_right _ m3
  · rw [List.nodup_append, List.nodup_append]
    refine ⟨⟨n1, n4, fun x hx y hy => n3 x hx y (m2 y hy)⟩, by simp, fun x hx y hy => ?_⟩
    simp at hy
    subst hy
    rcases List.mem_append.mp hx with hx | hx
    · exact n3 x hx _ m3
    · exact fun z => n5 (z ▸ hx)
  · rw [List.map_append, List.map_cons, List.map_append, List.map_cons, List.map_map, List.map_map]
    have s1 : Sl c ⟨fun k => if k = j then some a else none, B.pin⟩ G H ((ds.take j).map fun x => some (S.d x)) ((us.take j).map some) [] := (a1.take j).slot
    have s2 : Sl c ⟨fun k => if k = j then some a else none, B.pin⟩ G H ((ds.drop j).map fun x => some (S.d x)) ((us.drop j).map some) [] := (a1.drop j).slot
    exact s1.app (.o hc (fun k hk => by cases hk; simp) s2)
theorem Rep.leaveO {s : S} {v : V} {ρ' : En} {σ' : L2.St} {H0 : Hp} {b : Option Nat} {x y : D} {a : Addr} (hs : bare s = true) (r0 : Rep c B ts vs ρ σ H0) (e : ρ[i]? = some (some (.o b x))) (ev : σ[i]? = some (some (.ref a)))
    (r : Rep c ⟨fun k => if k = j then some a else none, B.pin⟩ (some s :: (erE ts ++ erE (ρ.set i none))) (some v :: (vs ++ σ)) ρ' σ' H) (e' : ρ'[j]? = some (some (.o (some j) y))) : Rep c B (some s :: ts) (some v :: vs) (ρ.set i (some (.o b y))) σ H := by
  obtain ⟨G0, p1, p2, k0, g1, g2⟩ := r0
  obtain ⟨a0, own0, e0, _, hb0, g3, _⟩ := g2.takeO e
  rw [ev] at e0
  cases e0
  obtain ⟨G, o1, o2, k, h1, h2⟩ := r
  obtain ⟨w, os, o1', ew, e1, rfl, h1'⟩ := h1.unone
  cases ew
  obtain ⟨q1, q2, rfl, f1, f2⟩ := h1'.split (by rw [show (erE ts).length = ts.length by simp [erE]]; exact g1.length)
  have e1' : En1 c B G H s v os := by
    cases e1 with
    | d h => exact .d h
    | @o a b x hc hb =>
      cases b with
      | none => exact .o hc fun _ e => nomatch e
      | some k => cases hs
    | q h => cases hs
  obtain ⟨a2, e2, hc2, m2, hb2⟩ := h2.getO e'
  have ea : a2 = a := by
    have := hb2 j rfl
    simp at this
    exact this.symm
  subst ea
  have hi : i < ρ.length := (List.getElem?_eq_some_iff.mp e).1
  have nd := k.nd
  rw [List.nodup_append, List.nodup_append, List.nodup_append] at nd
  obtain ⟨⟨n1, ⟨n2, n3, n4⟩, n5⟩, n6, n7⟩ := nd
  have na : a2 ∉ q2 := fun hm => n7 a2 (List.mem_append_right _ (List.mem_append_right _ hm)) a2 m2 rfl
  obtain ⟨own', f3, m3, m4⟩ := Sl.putO (g3.unflag f2) hi ev hc2 hb0
  refine ⟨G, os ++ q1, own', (k.anyB).subO (fun p hp => ?_) ?_, Sl.one e1' (g1.unflag f1), f3⟩
  · simp only [List.mem_append] at hp ⊢
    rcases hp with (hp | hp) | hp
    · exact .inl (.inl hp)
    · exact .inl (.inr (.inl hp))
    · rcases m3 p hp with rfl | hp
      · exact .inr m2
      · exact .inl (.inr (.inr hp))
  · rw [List.nodup_append, List.nodup_append]
    refine ⟨⟨n1, n2, fun x hx y hy => n5 x hx y (List.mem_append_left _ hy)⟩, m4 n3 na, fun x hx y hy => ?_⟩
    rcases m3 y hy with rfl | hy
    · rcases List.mem_append.mp hx with hx | hx
      · exact n7 x (List.mem_append_left _ hx) _ m2
      · exact n7 x (List.mem_append_right _ (List.mem_append_left _ hx)) _ m2
    · rcases List.mem_append.mp hx with hx | hx
      · exact n5 x hx y (List.mem_append_right _ hy)
      · exact n4 x hx y hy
theorem den_callO (h : DenC c W tA i j fA) : Den c W (tCall (spF c F) [] E tA) (mCallO F i j fA) := fun B ts vs ρ σ H Q r q => by
  unfold mCallO at q
  rw [post_then] at q
  refine h B ts vs ρ σ H _ r (q.imp1 fun ds ρ1 q us H1 a hl r1 ev hj => ?_)
  show spF c F (us.take j ++ V.ref a :: us.drop j ++ []) H1 Q E
  rw [List.append_nil]
  split at q
  · rename_i b x e
    rw [if_pos hj] at q
    refine ⟨_, _, _, _, r1.enterO hl hj e ev, ?_⟩
    have r2 := r1.dropN hl
    cases hf : F ((ds.take j).map .d ++ .o (some j) x :: (ds.drop j).map .d) with
    | stuck => rw [hf] at q; exact q.elim
    | err e ρ' => rw [hf] at q; exact q.elim
    | ok s ρ' =>
      rw [hf] at q
      have q2 : Post (OkP c B ts vs σ Q) (ErrP c W B ts vs σ) (match ρ'[j]? with
        | some (some (.o (some j') y)) => if j' = j ∧ bare s = true then .ok s (ρ1.set i (some (.o b y))) else .stuck
        | _ => .stuck) := q
      clear q
      split at q2
      · rename_i j' y e'
        split at q2
        · rename_i hh
          obtain ⟨rfl, hs⟩ := hh
          exact fun v σ' H' r' => q2 v H' (Rep.leaveO hs r2 e ev r' e')
        · exact q2.elim
      · exact q2.elim
  · exact q.elim
end
/-! ### fields -/
def gFld (n : String) (i : Nat) : D → Option S
  | .ins m ds => if m = n then (ds[i]?).bind ok1 else none
  | _ => none
def mFldE (n : String) (i : Nat) (fe : M S) : M S := mUn (gFld n i) fe
section
variable {c : Cfg} {W : WX} {te : TE} {fe : M S} {n : String} {f : Str} {i k : Nat}
/-- self.f = e, the next of its fields -/
def mSetF (n : String) (i k : Nat) (fe : M S) : M Fl := fun ρ => (dv fe ρ).then fun x ρ1 => match ρ1[k]? with
  | some (some (.o b (.ins m ds))) => if m = n ∧ ds.length = i then .ok .nx (ρ1.set k (some (.o b (.ins m (ds ++ [x]))))) else .stuck
  | _ => .stuck
end
end Fx
/-! slices, chains, truth, isinstance, cells of names -/
namespace Fx
open PySem PySem.Spec PyProof.Rows L2
/-! ### slices -/
def cutD (xs : List D) (lo hi : Option Int) : List D := (xs.drop (HT.sIx xs.length 0 lo)).take (HT.sIx xs.length xs.length hi - HT.sIx xs.length 0 lo)
theorem RpAll.cut {c : Cfg} {G : Hp} {us : List V} {xs : List D} (k : RpAll c G us xs) (lo hi : Option Int) : RpAll c G (cutV us lo hi) (cutD xs lo hi) := by
  unfold cutV cutD
  rw [k.length]
  exact (k.drop _).take _
def rSlG (K : PySem.W.Frag) : V → Option Int → Option Int → Hp → VK → Prop := fun x lo hi H Q => rSlN K x lo hi H Q ∨ rSlL K x lo hi H Q ∨ C8.rSlX x lo hi H Q
theorem sl_G {X : Cx} : SlR X (rSlG X.K) := SlR.or sl_tupN (SlR.or sl_list C8.sl_txt)
def gSl (x : D) (lo hi : Option Int) : Option S := match x with
  | .tup xs => ok1 (.tup (cutD xs lo hi))
  | .lst xs => some (.o none (.lst (cutD xs lo hi)))
  | .str z => if small z.length then ok1 (.str (Txt.slice z lo hi)) else none
  | _ => none
def oNone : M (Option Int) := fun ρ => .ok none ρ
def oSome (f : M S) : M (Option Int) := fun ρ => (dv f ρ).then fun x ρ' => match x with
  | .int i => .ok (some i) ρ'
  | _ => .stuck
def DenO (c : Cfg) (W : WX) (to : TO) (f : M (Option Int)) : Prop := ∀ B ts vs ρ σ H Q, Rep c B ts vs ρ σ H → Post (fun o ρ' => ∀ H', Rep c B ts vs ρ' σ H' → Q o H') (ErrP c W B ts vs σ) (f ρ) → to σ H Q
def mSl (fe : M S) (fl fh : M (Option Int)) : M S := fun ρ => (dv fe ρ).then fun x ρ1 => (fl ρ1).then fun lo ρ2 => (fh ρ2).then fun hi ρ3 => match gSl x lo hi with
  | some s => .ok s ρ3
  | none => .stuck
section
variable {c : Cfg} {W : WX} {te ta tb tc : TE} {fe fa fb fc : M S} {tl th : TO} {fl fh : M (Option Int)}
theorem do_none : DenO c W tNoPart oNone := fun B ts vs ρ σ H Q r q => q H r
theorem do_some (h : Den c W te fe) : DenO c W (tPart te) (oSome fe) := fun B ts vs ρ σ H Q r q => by
  unfold oSome at q
  rw [post_then] at q
  refine h.dv r (q.imp1 fun x ρ1 q v H1 r1 => ?_)
  cases x <;> first | exact q.elim | skip
  obtain ⟨G, O, hv⟩ := r1.one
  cases hv
  exact ⟨_, rfl, q H1 r1.drop⟩
theorem cutD_all {xs : List D} {lo hi : Option Int} (h : HT.sIx xs.length 0 lo = 0 ∧ HT.sIx xs.length xs.length hi = xs.length) : cutD xs lo hi = xs := by
  unfold cutD
  rw [h.1, h.2]
  simp
theorem den_sl (h : Den c W te fe) (hl : DenO c W tl fl) (hh : DenO c W th fh) : Den c W (tSl (rSlG c.K) te tl th) (mSl fe fl fh) := fun B ts vs ρ σ H Q r q => by
  unfold mSl at q
  rw [post_then] at q
  refine h.dv r (q.imp1 fun x ρ1 q1 v H1 r1 => ?_)
  rw [post_then] at q1
  refine hl B _ _ ρ1 σ H1 _ r1 (q1.imp (fun lo ρ2 q2 H2 r2 => ?_) fun _ _ h => h.drop)
  rw [post_then] at q2
  refine hh B _ _ ρ2 σ H2 _ r2 (q2.imp (fun hi ρ3 q3 H3 r3 => ?_) fun _ _ h => h.drop)
  obtain ⟨G, O, hv⟩ := r3.one
  cases x with
  | tup xs =>
    obtain ⟨a, us, rfl, ha, k, n⟩ := hv.tupN
    refine .inl ⟨a, us, rfl, SqT.up O.sub ha, fun hw => ?_, fun hw p o hp ho => ?_⟩
    · rw [k.length] at hw
      have e : cutD xs lo hi = xs := cutD_all hw
      have q4 : OkP c B ts vs σ Q (.d (.tup (cutD xs lo hi))) ρ3 := q3
      rw [e] at q4
      exact q4 _ _ (O.val (.tup ha k n))
    · exact q3 _ _ (O.new hp rfl fun G' m e => .tup (.inl (.inr ⟨o, e⟩)) ((k.cut lo hi).mono m) fun _ => ⟨o, e, ho⟩)
  | lst xs =>
    obtain ⟨a, us, rfl, ha, k⟩ := hv.lstE
    exact .inr (.inl ⟨a, us, rfl, SqL.of (O.sub _ _ ha), fun p hp => q3 _ _ (O.newO hp fun H' e => ⟨_, e, k.cut lo hi⟩)⟩)
  | str z =>
    have q4 : Post (OkP c B ts vs σ Q) (ErrP c W B ts vs σ) (match (if small z.length then ok1 (.str (Txt.slice z lo hi)) else none) with
      | some s => .ok s ρ3
      | none => .stuck) := q3
    by_cases hz : small z.length = true
    · rw [if_pos hz] at q4
      cases hv
      exact .inr (.inr ⟨z, rfl, small_line hz, q4 _ _ (O.val (.str _))⟩)
    · rw [if_neg hz] at q4
      exact q4.elim
  | _ => exact q3.elim
/-! ### a op b op c -/
def mChain (g g' : D → D → Option S) (fa fb fc : M S) : M S := fun ρ => (dv fa ρ).then fun x ρ1 => (dv fb ρ1).then fun y ρ2 => match g x y with
  | some (.d (.bl true)) => (dv fc ρ2).then fun z ρ3 => match g' y z with
      | some s => .ok s ρ3
      | none => .stuck
  | some (.d (.bl false)) => .ok (.d (.bl false)) ρ2
  | _ => .stuck
theorem den_chain {r r' : R2} {g g' : D → D → Option S} (ho : OpDen c r g) (ho' : OpDen c r' g') (hmono : ∀ x y H Q Q', (∀ v H', Q v H' → Q' v H') → r x y H Q → r x y H Q') (ha : Den c W ta fa) (hb : Den c W tb fb) (hc : Den c W tc fc) : Den c W (tChain r r' ta tb tc) (mChain g g' fa fb fc) := fun B ts vs ρ σ H Q rp q => by
  unfold mChain at q
  rw [post_then] at q
  refine ha.dv rp (q.imp1 fun x ρ1 q1 v H1 r1 => ?_)
  rw [post_then] at q1
  refine hb.dv r1 (q1.imp (fun y ρ2 q2 u H2 r2 => ?_) fun _ _ h => h.drop)
  have fin : ∀ b, g x y = some (.d (.bl b)) → (if b = true then ∀ H3, Rep c B (some (.d y) :: ts) (some u :: vs) ρ2 σ H3 → tc σ H3 (fun w' H4 => r' u w' H4 Q) else ∀ H3, Rep c B ts vs ρ2 σ H3 → Q (.bl false) H3) → r v u H2 fun z H3 => ∃ k, z = .bl k ∧ (if k = true then tc σ H3 (fun w' H4 => r' u w' H4 Q) else Q (.bl false) H3) := by
    intro b hg hk
    -- keep y waiting
    have r3 : Rep c B (some (.d y) :: some (.d x) :: some (.d y) :: ts) (some u :: some v :: some u :: vs) ρ2 σ H2 := by
      obtain ⟨G, o1, o2, k, h1, h2⟩ := r2
      cases h1 with
      | d a h1 =>
        cases h1 with
        | d b h1 => exact ⟨G, o1, o2, k, .d a (.d b (.d a h1)), h2⟩
    refine ho B _ _ ρ2 σ H2 _ x y v u _ r3 hg fun w H3 r4 => ?_
    obtain ⟨G, O, hw⟩ := r4.one
    cases hw
    refine ⟨b, rfl, ?_⟩
    cases b with
    | true => exact hk H3 r4.drop
    | false => exact hk H3 r4.drop.drop
  split at q2
  · rename_i hg
    refine fin true hg fun H3 r3 => ?_
    rw [post_then] at q2
    refine hc.dv r3 (q2.imp (fun z ρ3 q3 w H4 r4 => ?_) fun _ _ h => h.drop)
    split at q3
    · rename_i s hs
      exact ho' B ts vs ρ3 σ H4 Q y z u w s r4 hs q3
    · exact q3.elim
  · rename_i hg
    exact fin false hg fun H3 r3 => OkP.bl q2 r3
  · exact q2.elim
end
/-! ### truth -/
def truD : D → Option Bool
  | .non => some false
  | .bl b => some b
  | .int i => some (i != 0)
  | .str z => if small z.length then some ((z.length : Int) != 0) else none
  | .tup ds => some (!ds.isEmpty)
  | .lst ds => some (!ds.isEmpty)
  | _ => none
def mTruth (fe : M S) : M Bool := fun ρ => (dv fe ρ).then fun x ρ1 => match truD x with
  | some b => .ok b ρ1
  | none => .stuck
/-- .. of a name's cell -/
def mTruthO (i : Nat) : M Bool := fun ρ => match ρ[i]? with
  | some (some (.o _ (.lst ds))) => .ok (!ds.isEmpty) ρ
  | some (some (.d x)) => match truD x with
    | some b => .ok b ρ
    | none => .stuck
  | _ => .stuck
section
variable {c : Cfg} {W : WX} {te : TE} {fe : M S} {i : Nat}
theorem isEmpty_len {α β : Type} {xs : List α} {ys : List β} (h : xs.length = ys.length) : xs.isEmpty = ys.isEmpty := by
  cases xs <;> cases ys <;> first | rfl | simp at h
theorem Rp.tru {G H : Hp} {v : V} {x : D} {b : Bool} (s : ∀ a o, G a = some o → H a = some o) (h : Rp c G v x) (e : truD x = some b) : TruV c.K v H b := by
  cases x with
  | non => cases e; cases h; rfl
  | bl b => cases e; cases h; rfl
  | int i => cases e; cases h; rfl
  | str z =>
    have e : (if small z.length then some ((z.length : Int) != 0) else none) = some b := e
    split at e
    · rename_i hz
      cases e
      cases h
      exact ⟨small_line hz, rfl⟩
    · cases e
  | tup ds =>
    cases e
    obtain ⟨a, us, rfl, ha, k⟩ := h.tupE
    exact .inr (.inl ⟨us, SqT.up s ha, by rw [isEmpty_len k.length]⟩)
  | lst ds =>
    cases e
    obtain ⟨a, us, rfl, ha, k⟩ := h.lstE
    exact .inl ⟨us, SqL.of (s _ _ ha), by rw [isEmpty_len k.length]⟩
  | _ => cases e
def tTru (K : PySem.W.Frag) (te : TE) : TT := fun σ H Q => te σ H fun x H1 => ∃ k, TruV K x H1 k ∧ Q k H1
theorem dt_truth (h : Den c W te fe) : DenT c W (tTru c.K te) (mTruth fe) := fun B ts vs ρ σ H Q r q => by
  unfold mTruth at q
  rw [post_then] at q
  refine h.dv r (q.imp1 fun x ρ1 q v H1 r1 => ?_)
  split at q
  · rename_i b e
    obtain ⟨G, O, hv⟩ := r1.one
    exact ⟨b, hv.tru O.sub e, q H1 r1.drop⟩
  · exact q.elim
theorem dt_truthO : DenT c W (tTru c.K (tVar i)) (mTruthO i) := fun B ts vs ρ σ H Q r q => by
  unfold mTruthO at q
  split at q
  · rename_i b ds e
    obtain ⟨a, ev, G, sub, us, ha, k⟩ := r.varO e
    exact ⟨.ref a, ev, _, .inl ⟨us, SqL.of ha, rfl⟩, by rw [isEmpty_len k.length]; exact q H r⟩
  · rename_i x e
    split at q
    · rename_i b eb
      obtain ⟨v, ev, r1⟩ := r.var e
      obtain ⟨G, O, hv⟩ := r1.one
      exact ⟨v, ev, b, hv.tru O.sub eb, q H r⟩
    · exact q.elim
  · exact q.elim
end
/-! ### isinstance -/
def tyD : D → Option String
  | .non => some "NoneType"
  | .bl _ => some "bool"
  | .int _ => some "int"
  | .str _ => some "str"
  | .tup _ => some "tuple"
  | .lst _ => some "list"
  | _ => none
theorem Rp.tyX {c : Cfg} {G H : Hp} {v : V} {x : D} {n : String} (s : ∀ a o, G a = some o → H a = some o) (h : Rp c G v x) (e : tyD x = some n) : TyX c.K H v (.type n) := by
  cases h with
  | non => cases e; exact .base .non
  | bl b => cases e; exact .base (.bl b)
  | int i => cases e; exact .base (.int i)
  | str z => cases e; exact .base (.str z)
  | tup ha _ =>
    cases e
    rcases SqT.up s ha with (ha | ⟨o, ha⟩) | ⟨o, its, m, hk, hc, _⟩
    · exact .base (.tup ha)
    · exact .fTuple ha
    · exact .kTuple hk hc
  | lst ha _ => cases e; exact .base (.lst (s _ _ ha))
  | _ => cases e
def isTy (n : String) (x : D) : Option Bool := match n, x with
  | "int", .int _ => some true
  | "int", .bl _ => some true
  | "int", .non => some false
  | "int", .str _ => some false
  | "int", .tup _ => some false
  | "int", .lst _ => some false
  | "bool", .bl _ => some true
  | "bool", .int _ => some false
  | "bool", .non => some false
  | "bool", .str _ => some false
  | "bool", .tup _ => some false
  | "bool", .lst _ => some false
  | "str", .str _ => some true
  | "str", .int _ => some false
  | "str", .bl _ => some false
  | "str", .non => some false
  | "str", .tup _ => some false
  | "str", .lst _ => some false
  | "tuple", .tup _ => some true
  | "tuple", .int _ => some false
  | "tuple", .bl _ => some false
  | "tuple", .non => some false
  | "tuple", .str _ => some false
  | "tuple", .lst _ => some false
  | "list", .lst _ => some true
  | "list", .int _ => some false
  | "list", .bl _ => some false
  | "list", .non => some false
  | "list", .str _ => some false
  | "list", .tup _ => some false
  | _, _ => none
theorem isTy_kit {n : String} {x : D} {b : Bool} (h : isTy n x = some b) : ∃ m, tyD x = some m ∧ kitB m n = some b := by
  unfold isTy at h
  split at h <;> first | cases h | skip
  all_goals exact ⟨_, rfl, by decide +kernel⟩
def gIsi : List D → Option S
  | [x, .ty n] => (isTy n x).bind fun b => ok1 (.bl b)
  | _ => none
theorem cd_isi {c : Cfg} : CbDen c (rIsi c.K) gIsi := by
  intro B ts vs ρ σ H Q ds us s hl r e q
  match ds, hl, r, e with
  | [x, .ty n], hl, r, e =>
    obtain ⟨v, w, rfl, G, O, h1, h2⟩ := r.two' hl
    have e : (isTy n x).bind (fun b => ok1 (.bl b)) = some s := e
    cases e1 : isTy n x with
    | none => rw [e1] at e; cases e
    | some b =>
      rw [e1] at e
      cases e
      cases h2
      obtain ⟨m, t1, t2⟩ := isTy_kit e1
      exact ⟨v, .ty n, .type m, .type n, b, rfl, .ty n, h1.tyX O.sub t1, kit_ty t2, q _ _ (O.val (.bl _))⟩
/-! ### cells of names: what is read of them, how they are changed -/
/-- what stands at a name, wherever -/
def peek (ρ : En) (i : Nat) : Option D := match ρ[i]? with
  | some (some (.d x)) => some x
  | some (some (.o _ x)) => some x
  | _ => none
section
variable {c : Cfg} {W : WX} {B : Base} {ts : En} {vs : List (Option V)} {ρ : En} {σ : L2.St} {H : Hp} {te : TE} {fe : M S} {i : Nat}
theorem Rep.peekL {ds : List D} (e : peek ρ i = some (.lst ds)) (r : Rep c B ts vs ρ σ H) : ∃ a us G o1 o2, σ[i]? = some (some (.ref a)) ∧ H a = some (.lst us) ∧ RpAll c G us ds ∧ OkB c B G H (o1 ++ o2) ∧ Sl c B G H ts vs o1 ∧ Sl c B G H ρ σ o2 := by
  unfold peek at e
  obtain ⟨G, o1, o2, k, h1, h2⟩ := r
  split at e
  · rename_i x e1
    cases e
    obtain ⟨v, ev, hv⟩ := h2.getD e1
    obtain ⟨a, us, rfl, ha, ka⟩ := hv.lstE
    exact ⟨a, us, G, o1, o2, ev, k.sub _ _ ha, ka, k, h1, h2⟩
  · rename_i b x e1
    cases e
    obtain ⟨a, ev, ⟨us, ha, ka⟩, _, _⟩ := h2.getO e1
    exact ⟨a, us, G, o1, o2, ev, ha, ka, k, h1, h2⟩
  · cases e
/-- len(x), x a name -/
def mLenO (i : Nat) : M S := fun ρ => match peek ρ i with
  | some (.lst ds) => .ok (.d (.int ds.length)) ρ
  | _ => match ρ[i]? with
    | some (some (.d x)) => match lenD x with
      | some n => .ok (.d (.int n)) ρ
      | none => .stuck
    | _ => .stuck
/-- x[e], x a name that holds a list -/
def peekL (ρ : En) (i : Nat) : Bool := match peek ρ i with
  | some (.lst _) => true
  | _ => false
def mIxO (i : Nat) (fe : M S) : M S := fun ρ => if peekL ρ i then (dv fe ρ).then fun y ρ1 => match peek ρ1 i, y with
    | some (.lst ds), .int k => match atI ds k with
      | some x => .ok (.d x) ρ1
      | none => .stuck
    | _, _ => .stuck
  else .stuck
theorem den_lenO : Den c W (tCB (rLenG c.K) (tCons (tVar i) tNil)) (mLenO i) := fun B ts vs ρ σ H Q r q => by
  unfold mLenO at q
  split at q
  · rename_i ds e
    obtain ⟨a, us, G, o1, o2, ev, ha, ka, k, h1, h2⟩ := r.peekL e
    exact ⟨.ref a, ev, .inl ⟨a, us, rfl, .inl (SqL.of ha), by rw [ka.length]; exact q _ _ (Rep.repl (ds := []) (us := []) r rfl fun G _ => .int _)⟩⟩
  · split at q
    · rename_i x ed
      split at q
      · rename_i n en
        obtain ⟨v, ev, r1⟩ := r.var ed
        refine ⟨v, ev, cd_len B ts vs ρ σ H Q [x] [v] (.d (.int n)) rfl r1 ?_ q⟩
        show (lenD x).bind (fun n => ok1 (.int n)) = _
        rw [en]
        rfl
      · exact q.elim
    · exact q.elim
theorem den_ixO (h : Den c W te fe) : Den c W (tOp (rIx c.K) (tVar i) te) (mIxO i fe) := fun B ts vs ρ σ H Q r q => by
  unfold mIxO at q
  split at q
  · rename_i hp
    unfold peekL at hp
    split at hp
    · rename_i ds0 e0
      obtain ⟨a0, us0, _, _, _, ev, _⟩ := r.peekL e0
      rw [post_then] at q
      refine ⟨.ref a0, ev, h.dv r (q.imp1 fun y ρ1 q1 v H1 r1 => ?_)⟩
      split at q1
      · rename_i ds k e1
        obtain ⟨G, O, hv⟩ := r1.one
        cases hv
        obtain ⟨a, us, G, o1, o2, ev1, ha, ka, kk, h1, h2⟩ := r1.peekL e1
        rw [ev] at ev1
        cases ev1
        split at q1
        · rename_i x ex
          obtain ⟨w, ew, hw⟩ := ka.atI ex
          refine .inl ⟨a0, us, k, w, rfl, rfl, SqL.of ha, ew, q1 _ _ ?_⟩
          cases h1 with
          | d _ h1 => exact ⟨G, o1, o2, kk, .d hw h1, h2⟩
        · exact q1.elim
      · exact q1.elim
    · cases hp
  · exact q.elim
/-- a name that holds a list -/
def ownL (ρ : En) (i : Nat) : Bool := match ρ[i]? with
  | some (some (.o _ (.lst _))) => true
  | _ => false
theorem ownL_at (h : ownL ρ i = true) (r : Rep c B ts vs ρ σ H) : ∃ a us, σ[i]? = some (some (.ref a)) ∧ H a = some (.lst us) := by
  unfold ownL at h
  split at h
  · rename_i b ds e
    obtain ⟨a, ev, G, sub, us, ha, k⟩ := r.varO e
    exact ⟨a, us, ev, ha⟩
  · cases h
def mMeth1 (i : Nat) (g : List D → D → Option (D × List D)) (fe : M S) : M S := fun ρ => if ownL ρ i then (dv fe ρ).then fun y ρ1 => match ρ1[i]? with
    | some (some (.o b (.lst ds))) => match g ds y with
      | some (z, es) => .ok (.d z) (ρ1.set i (some (.o b (.lst es))))
      | none => .stuck
    | _ => .stuck
  else .stuck
/-- how a method changes a list -/
def MthDen (c : Cfg) (r : V → List V → Hp → VK → Prop) (g : List D → D → Option (D × List D)) : Prop := ∀ (G H : Hp) (Q : VK) (a : Addr) (us : List V) (ds : List D) (y z : D) (v : V) (es : List D), (∀ b o, G b = some o → H b = some o) → H a = some (.lst us) → RpAll c G us ds → Rp c G v y → g ds y = some (z, es) →
  (∀ w us', Rp c G w z → RpAll c G us' es → Q w (upd H a (.lst us'))) → r (.ref a) [v] H Q
theorem den_meth1 {r : V → List V → Hp → VK → Prop} {g : List D → D → Option (D × List D)} (hm : MthDen c r g) (h : Den c W te fe) : Den c W (tBM c.K "list" r (tVar i) (tCons te tNil)) (mMeth1 i g fe) := fun B ts vs ρ σ H Q rp q => by
  unfold mMeth1 at q
  split at q
  · rename_i ho
    obtain ⟨a, us, ev, ha⟩ := ownL_at ho rp
    rw [post_then] at q
    refine ⟨.ref a, ev, .inl ⟨rfl, us, SqL.of ha⟩, h.dv rp (q.imp1 fun y ρ1 q1 v H1 r1 => ?_)⟩
    split at q1
    · rename_i b ds e1
      split at q1
      · rename_i z es eg
        obtain ⟨G, o1, o2, k, h1, h2⟩ := id r1
        obtain ⟨a', ev', ⟨us', ha', ka⟩, hmem, hb⟩ := h2.getO e1
        rw [ev] at ev'
        cases ev'
        cases h1 with
        | d hv h1 =>
          refine hm G H1 Q a us' ds y z v es k.sub ha' ka hv eg fun w us2 hw hk => q1 w _ ?_
          have nd := k.nd
          rw [List.nodup_append] at nd
          exact ⟨G, o1, o2, k.write (List.mem_append_right _ hmem) ha' (.lst _), .d hw (h1.mono (fun _ _ e => e) fun q hq => upd_ne fun z => nd.2.2 q hq a hmem z), h2.write nd.2.1 e1 ev (fun q hq => upd_ne hq) ⟨us2, upd_same, hk⟩⟩
      · exact q1.elim
    · exact q1.elim
  · exact q.elim
def mMeth0 (i : Nat) (g : List D → Option (D × List D)) : M S := fun ρ => match ρ[i]? with
  | some (some (.o b (.lst ds))) => match g ds with
    | some (z, es) => .ok (.d z) (ρ.set i (some (.o b (.lst es))))
    | none => .stuck
  | _ => .stuck
def Mth0Den (c : Cfg) (r : V → List V → Hp → VK → Prop) (g : List D → Option (D × List D)) : Prop := ∀ (G H : Hp) (Q : VK) (a : Addr) (us : List V) (ds : List D) (z : D) (es : List D), H a = some (.lst us) → RpAll c G us ds → g ds = some (z, es) →
  (∀ w us', Rp c G w z → RpAll c G us' es → Q w (upd H a (.lst us'))) → r (.ref a) [] H Q
theorem den_meth0 {r : V → List V → Hp → VK → Prop} {g : List D → Option (D × List D)} (hm : Mth0Den c r g) : Den c W (tBM0 c.K "list" r (tVar i)) (mMeth0 i g) := fun B ts vs ρ σ H Q rp q => by
  unfold mMeth0 at q
  split at q
  · rename_i b ds e1
    split at q
    · rename_i z es eg
      obtain ⟨G, o1, o2, k, h1, h2⟩ := id rp
      obtain ⟨a, ev, ⟨us, ha, ka⟩, hmem, hb⟩ := h2.getO e1
      refine ⟨.ref a, ev, .inl ⟨rfl, us, SqL.of ha⟩, hm G H Q a us ds z es ha ka eg fun w us2 hw hk => q w _ ?_⟩
      have nd := k.nd
      rw [List.nodup_append] at nd
      exact ⟨G, o1, o2, k.write (List.mem_append_right _ hmem) ha (.lst _), .d hw (h1.mono (fun _ _ e => e) fun q hq => upd_ne fun z => nd.2.2 q hq a hmem z), h2.write nd.2.1 e1 ev (fun q hq => upd_ne hq) ⟨us2, upd_same, hk⟩⟩
    · exact q.elim
  · exact q.elim
def gApp (ds : List D) (y : D) : Option (D × List D) := if small (ds.length + 1) then some (.non, ds ++ [y]) else none
theorem md_app : MthDen c rAppend gApp := by
  intro G H Q a us ds y z v es sub ha ka hv e q
  unfold gApp at e
  split at e
  · rename_i hz
    cases e
    refine ⟨a, us, v, rfl, rfl, ha, ?_, q _ _ .non (ka.snoc hv)⟩
    have := small_line hz
    rw [ka.length]
    omega
  · cases e
def gPop (ds : List D) : Option (D × List D) := match ds[ds.length - 1]? with
  | some y => some (y, ds.dropLast)
  | none => none
theorem RpAll.dropLast {G : Hp} {us : List V} {ds : List D} (k : RpAll c G us ds) : RpAll c G us.dropLast ds.dropLast := by
  rw [List.dropLast_eq_take, List.dropLast_eq_take, k.length]
  exact k.take _
theorem md_pop : Mth0Den c rPop gPop := by
  intro G H Q a us ds z es ha ka e q
  unfold gPop at e
  split at e
  · rename_i y ey
    cases e
    obtain ⟨w, ew, hw⟩ := ka.get ey
    exact ⟨a, us, w, rfl, rfl, ha, by rw [ka.length]; exact ew, q _ _ hw ka.dropLast⟩
  · cases e
theorem RpAll.eraseIdx {G : Hp} : ∀ {us : List V} {ds : List D} (i : Nat), RpAll c G us ds → RpAll c G (us.eraseIdx i) (ds.eraseIdx i)
  | _, _, _, .nil => .nil
  | _, _, 0, .cons _ k => k
  | _, _, i + 1, .cons h k => .cons h (RpAll.eraseIdx i k)
/-- x[e] = v, x a name -/
def gmItem (i : Nat) (fe : M S) : D → M Unit := fun x ρ => if ownL ρ i then (dv fe ρ).then fun y ρ1 => match ρ1[i]?, y with
    | some (some (.o b (.lst ds))), .int k => match ixN ds.length k with
      | some j => .ok () (ρ1.set i (some (.o b (.lst (ds.set j x)))))
      | none => .stuck
    | _, _ => .stuck
  else .stuck
theorem dg_item (h : Den c W te fe) : DenG c W (gSub (tVar i) te rSetL) (gmItem i fe) [] := fun B ts vs ρ σ H x v Q r q => by
  unfold gmItem at q
  split at q
  · rename_i ho
    obtain ⟨a, us, ev, ha⟩ := ownL_at ho r
    rw [post_then] at q
    refine ⟨.ref a, ev, h.dv r (q.imp (fun y ρ1 q1 w H1 r1 => ?_) fun _ _ h => h.drop.toP)⟩
    split at q1
    · rename_i b ds k e1
      split at q1
      · rename_i j ej
        obtain ⟨G, o1, o2, kk, h1, h2⟩ := id r1
        obtain ⟨a', ev', ⟨us', ha', ka⟩, hmem, hb⟩ := h2.getO e1
        rw [ev] at ev'
        cases ev'
        cases h1 with
        | d hw h1 =>
          cases hw
          cases h1 with
          | d hv h1 =>
            refine ⟨a, us', k, j, rfl, rfl, ha', by rw [ka.length]; exact ej, q1 σ _ ⟨rfl, fun _ _ => rfl⟩ ?_⟩
            have nd := kk.nd
            rw [List.nodup_append] at nd
            exact ⟨G, o1, o2, kk.write (List.mem_append_right _ hmem) ha' (.lst _), h1.mono (fun _ _ e => e) fun q hq => upd_ne fun z => nd.2.2 q hq a hmem z, h2.write nd.2.1 e1 ev (fun q hq => upd_ne hq) ⟨_, upd_same, ka.set j hv⟩⟩
      · exact q1.elim
    · exact q1.elim
  · exact q.elim
end
end Fx
/-! syntax and what it makes of a state -/
namespace Fx
open PySem PySem.Spec PyProof.Rows L2
open C8 (Cal Mak pe_c pe_mk)
structure QE (X : Cx) (c : Cfg) (W : WX) (e : Expr) (t : TE) (f : M S) : Prop where
  pe : PE X e t
  dn : Den c W t f
structure QT (X : Cx) (c : Cfg) (W : WX) (e : Expr) (t : TT) (f : M Bool) : Prop where
  pe : PT X e t
  dn : DenT c W t f
structure QW (X : Cx) (c : Cfg) (W : WX) (e : Expr) (t : TT) (f : M Bool) : Prop where
  pe : PW X e t
  dn : DenT c W t f
structure QA (X : Cx) (c : Cfg) (W : WX) (es : List Expr) (t : TA) (f : M (List D)) : Prop where
  pe : PA X es t
  dn : DenA c W t f
structure QC (X : Cx) (c : Cfg) (W : WX) (es : List Expr) (i j : Nat) (t : TA) (f : M (List D)) : Prop where
  pe : PA X es t
  dn : DenC c W t i j f
structure QI (X : Cx) (c : Cfg) (W : WX) (tg e : Expr) (t : TI) (f : M (List D)) : Prop where
  pe : PI X tg e t
  dn : DenI c W t f
structure QG (X : Cx) (c : Cfg) (W : WX) (e : Expr) (t : TG) (F : D → M Unit) (js : List Nat) : Prop where
  pe : PG X e t
  dn : DenG c W t F js
structure QGs (X : Cx) (c : Cfg) (W : WX) (es : List Expr) (t : TGs) (F : List D → M Unit) (js : List Nat) : Prop where
  pe : PGs X es t
  dn : DenGs c W t F js
structure QO (X : Cx) (c : Cfg) (W : WX) (e : Option Expr) (t : TO) (f : M (Option Int)) : Prop where
  pe : PO X e t
  dn : DenO c W t f
structure QS (X : Cx) (c : Cfg) (W : WX) (s : Stmt) (t : TS) (F : M Fl) : Prop where
  pe : PS X s t
  dn : DenS c W t F
structure QSs (X : Cx) (c : Cfg) (W : WX) (s : List Stmt) (t : TS) (F : M Fl) : Prop where
  pe : PSs X s t
  dn : DenS c W t F
section
variable {X : Cx} {c : Cfg} {W : WX} {a b e d : Expr} {es : List Expr} {fa fb fe fd : M S} {fA : M (List D)} {ft fu : M Bool} {pos p p2 : Pos} {k : Nat} {ta tb te td : TE} {tA : TA} {tt tu : TT}
/-! ### expressions -/
theorem qv (i : Nat) {x : Str} (hN : X.N[i]? = some x := by rfl) (hv : Vis X.env.scope x := by first | exact Or.inl rfl | exact Or.inr (Or.inl rfl) | exact Or.inr (Or.inr rfl)) (hd : (x == ("__debug__" : Str)) = false := by decide)
    (hcd : (x == ("__classdict__" : Str)) = false := by decide) : QE X c W (.Name x pos) (tVar i) (mVar i) := ⟨pe_var hN hv hd hcd, den_var⟩
theorem qint {i j} : QE X c W (.Constant (.int i) j pos) (tC (.int i)) (mC (.int i)) := ⟨pe_int, den_c fun _ => .int _⟩
theorem qbl {i j} : QE X c W (.Constant (.bool i) j pos) (tC (.bl i)) (mC (.bl i)) := ⟨pe_bl, den_c fun _ => .bl _⟩
theorem qnon {j} : QE X c W (.Constant .none j pos) (tC .non) (mC .non) := ⟨pe_non, den_c fun _ => .non⟩
theorem qty {x : Str} {n : String} (hm : X.mg x = none) (hg : Gl X x := by rfl) (hv : bootBuiltins x = some (.type n) := by decide +kernel) (hn : x ≠ "__name__" := by decide) (hd : (x == ("__debug__" : Str)) = false := by decide) : QE X c W (.Name x pos) (tC (.ty n)) (mC (.ty n)) := ⟨pe_bltn (v := .ty n) hg hm hv rfl hn hd, den_c fun _ => .ty _⟩
theorem qk {x : Str} {i : Int} (h : ∃ t, X.mg x = some (Value.int i t)) (hg : Gl X x := by rfl) (hd : (x == ("__debug__" : Str)) = false := by decide) : QE X c W (.Name x pos) (tC (.int i)) (mC (.int i)) := by
  obtain ⟨t, h⟩ := h
  exact ⟨pe_glob (v := .int i) hg h ⟨t, rfl⟩ hd, den_c fun _ => .int _⟩
theorem q_add (ha : QE X c W a ta fa) (hb : QE X c W b tb fb) (hK : X.K = c.K := by rfl) : QE X c W (.BinOp a .Add b pos) (tOp (rAddG c.K) ta tb) (mOp gAdd fa fb) := by
  obtain ⟨h1, h2⟩ := ha; obtain ⟨k1, k2⟩ := hb
  exact ⟨hK ▸ pe_op op_addG h1 k1, den_op od_add h2 k2⟩
theorem q_sub (ha : QE X c W a ta fa) (hb : QE X c W b tb fb) : QE X c W (.BinOp a .Sub b pos) (tOp (rI0 fun i j => .int (i - j)) ta tb) (mOp gMinus fa fb) := by
  obtain ⟨h1, h2⟩ := ha; obtain ⟨k1, k2⟩ := hb
  exact ⟨pe_op op_sub h1 k1, den_op od_sub h2 k2⟩
theorem q_mul (ha : QE X c W a ta fa) (hb : QE X c W b tb fb) : QE X c W (.BinOp a .Mult b pos) (tOp rMulG ta tb) (mOp gMul fa fb) := by
  obtain ⟨h1, h2⟩ := ha; obtain ⟨k1, k2⟩ := hb
  exact ⟨pe_op op_mulG h1 k1, den_op od_mul h2 k2⟩
theorem q_mod (ha : QE X c W a ta fa) (hb : QE X c W b tb fb) : QE X c W (.BinOp a .Mod b pos) (tOp (rI (fun _ j => 0 < j) fun i j => .int (i % j)) ta tb) (mOp gMod fa fb) := by
  obtain ⟨h1, h2⟩ := ha; obtain ⟨k1, k2⟩ := hb
  exact ⟨pe_op op_mod h1 k1, den_op od_mod h2 k2⟩
theorem q_fdiv (ha : QE X c W a ta fa) (hb : QE X c W b tb fb) : QE X c W (.BinOp a .FloorDiv b pos) (tOp (rI CDiv fun i j => .int (i / j)) ta tb) (mOp gDiv fa fb) := by
  obtain ⟨h1, h2⟩ := ha; obtain ⟨k1, k2⟩ := hb
  exact ⟨pe_op op_fdiv h1 k1, den_op od_div h2 k2⟩
theorem q_pow (ha : QE X c W a ta fa) (hb : QE X c W b tb fb) : QE X c W (.BinOp a .Pow b pos) (tOp (rI CPow fun i j => .int (i ^ j.toNat)) ta tb) (mOp gPow fa fb) := by
  obtain ⟨h1, h2⟩ := ha; obtain ⟨k1, k2⟩ := hb
  exact ⟨pe_op op_pow h1 k1, den_op od_pow h2 k2⟩
/-- an operator of comparison -/
structure QR (X : Cx) (c : Cfg) (op : CmpOp) (r : R2) (g : D → D → Option S) : Prop where
  pe : OpR X (compareOp op) r
  dn : OpDen c r g
  mono : ∀ x y H (Q Q' : VK), (∀ v H', Q v H' → Q' v H') → r x y H Q → r x y H Q'
theorem r_lt : QR X c .Lt (rI0 fun i j => .bl (decide (i < j))) gLt := ⟨op_lt, od_BB, fun x y H Q Q' h ⟨i, j, e1, e2, q⟩ => ⟨i, j, e1, e2, h _ _ q⟩⟩
theorem r_le : QR X c .LtE (rI0 fun i j => .bl (decide (i ≤ j))) gLe := ⟨op_le, od_BB, fun x y H Q Q' h ⟨i, j, e1, e2, q⟩ => ⟨i, j, e1, e2, h _ _ q⟩⟩
theorem r_gt : QR X c .Gt (rI0 fun i j => .bl (decide (j < i))) gGt := ⟨op_gt, od_BB, fun x y H Q Q' h ⟨i, j, e1, e2, q⟩ => ⟨i, j, e1, e2, h _ _ q⟩⟩
theorem r_ge : QR X c .GtE (rI0 fun i j => .bl (decide (j ≤ i))) gGe := ⟨op_ge, od_BB, fun x y H Q Q' h ⟨i, j, e1, e2, q⟩ => ⟨i, j, e1, e2, h _ _ q⟩⟩
theorem un66 {A : Around} (hr : Room k A) : A.units + 66 < cLine := by
  have := hr.un
  omega
theorem r_eq (hr : Room k X.A) (hK : X.K = c.K := by rfl) : QR X c .Eq (rEqP c.K false) gEq := ⟨hK ▸ op_eqP (un66 hr), od_eq, fun x y H Q Q' h ⟨d, e, a1, a2, a3, a4, a5, q⟩ => ⟨d, e, a1, a2, a3, a4, a5, h _ _ q⟩⟩
theorem r_ne (hr : Room k X.A) (hK : X.K = c.K := by rfl) : QR X c .NotEq (rEqP c.K true) gNe := ⟨hK ▸ op_neP (un66 hr), od_ne, fun x y H Q Q' h ⟨d, e, a1, a2, a3, a4, a5, q⟩ => ⟨d, e, a1, a2, a3, a4, a5, h _ _ q⟩⟩
theorem r_is : QR X c .Is (fun x y H Q => y = .non ∧ Q (.bl (decide (x = .non))) H) gIsN := ⟨op_isN, od_isN, fun x y H Q Q' h ⟨a1, q⟩ => ⟨a1, h _ _ q⟩⟩
theorem r_nis : QR X c .IsNot (fun x y H Q => y = .non ∧ Q (.bl (!decide (x = .non))) H) gNotN := ⟨op_notN, od_notN, fun x y H Q Q' h ⟨a1, q⟩ => ⟨a1, h _ _ q⟩⟩
theorem q_cmp {op : CmpOp} {g : D → D → Option S} {r : R2} (ho : QR X c op r g) (ha : QE X c W a ta fa) (hb : QE X c W b tb fb) (hm : behindInMarks op b = false := by first | exact nomark _ | with_unfolding_all rfl) : QE X c W (.Compare a [op] [b] pos) (tOp r ta tb) (mOp g fa fb) := by
  obtain ⟨h1, h2⟩ := ha; obtain ⟨k1, k2⟩ := hb; obtain ⟨r1, r2, _⟩ := ho
  exact ⟨pe_cmpR r1 h1 k1 hm, den_op r2 h2 k2⟩
theorem t_cmp {op : CmpOp} {g : D → D → Option S} {r : R2} (ho : QR X c op r g) (ha : QE X c W a ta fa) (hb : QE X c W b tb fb) (hm : behindInMarks op b = false := by first | exact nomark _ | with_unfolding_all rfl) : QT X c W (.Compare a [op] [b] pos) (tTest (tOp r ta tb)) (mTest (mOp g fa fb)) := by
  obtain ⟨h1, h2⟩ := ha; obtain ⟨k1, k2⟩ := hb; obtain ⟨r1, r2, _⟩ := ho
  exact ⟨pt_cmpR r1 h1 k1 hm, dt_test (den_op r2 h2 k2)⟩
theorem q_chain {op op' : CmpOp} {g g' : D → D → Option S} {r r' : R2} (ho : QR X c op r g) (ho' : QR X c op' r' g') (ha : QE X c W a ta fa) (hb : QE X c W b tb fb) (he : QE X c W e te fe) (hm : lastMarks [op, op'] [b, e] = false := by with_unfolding_all rfl) : QE X c W (.Compare a [op, op'] [b, e] pos) (tChain r r' ta tb te) (mChain g g' fa fb fe) := by
  obtain ⟨h1, h2⟩ := ha; obtain ⟨k1, k2⟩ := hb; obtain ⟨l1, l2⟩ := he; obtain ⟨r1, r2, m⟩ := ho; obtain ⟨s1, s2, _⟩ := ho'
  exact ⟨pe_chain r1 s1 h1 k1 l1 hm, den_chain r2 s2 m h2 k2 l2⟩
theorem t_val (he : QE X c W e te fe) (h : ∀ whole, isTrue e X.env whole = (do let v ← whole; standAt e.pos; holding [v] (truthy v)) := by intro _; rfl) : QT X c W e (tB te) (mTest fe) := by
  obtain ⟨h1, h2⟩ := he
  exact ⟨pt_val h1 h, dt_B h2⟩
theorem t_tru (he : QE X c W e te fe) (h : ∀ whole, isTrue e X.env whole = (do let v ← whole; standAt e.pos; holding [v] (truthy v)) := by intro _; rfl) (hK : X.K = c.K := by rfl) : QT X c W e (tTru c.K te) (mTruth fe) := by
  obtain ⟨h1, h2⟩ := he
  have h3 : PT X e (tTru X.K te) := pt_truth h1 h
  exact ⟨hK ▸ h3, dt_truth h2⟩
theorem t_truO (i : Nat) {x : Str} (hN : X.N[i]? = some x := by rfl) (hv : Vis X.env.scope x := by first | exact Or.inl rfl | exact Or.inr (Or.inl rfl) | exact Or.inr (Or.inr rfl)) (hd : (x == ("__debug__" : Str)) = false := by decide)
    (hcd : (x == ("__classdict__" : Str)) = false := by decide) (h : ∀ whole, isTrue (.Name x pos) X.env whole = (do let v ← whole; standAt (Expr.Name x pos).pos; holding [v] (truthy v)) := by intro _; rfl) (hK : X.K = c.K := by rfl) : QT X c W (.Name x pos) (tTru c.K (tVar i)) (mTruthO i) := by
  have h3 : PT X (.Name x pos) (tTru X.K (tVar i)) := pt_truth (pe_var hN hv hd hcd) h
  exact ⟨hK ▸ h3, dt_truthO⟩
theorem t_not (h : QT X c W a tt ft) : QT X c W (.UnaryOp .Not a pos) (tNot tt) (mNot ft) := by
  obtain ⟨h1, h2⟩ := h
  exact ⟨pt_not h1, dt_not h2⟩
theorem w_and1 (h : QT X c W a tt ft) : QW X c W (.BoolOp .And [a] pos) tt ft := by
  obtain ⟨h1, h2⟩ := h
  exact ⟨pw_and1 h1, h2⟩
theorem w_or1 (h : QT X c W a tt ft) : QW X c W (.BoolOp .Or [a] pos) tt ft := by
  obtain ⟨h1, h2⟩ := h
  exact ⟨pw_or1 h1, h2⟩
theorem w_and (h : QT X c W a tt ft) (k : QW X c W (.BoolOp .And (b :: es) pos) tu fu) : QW X c W (.BoolOp .And (a :: b :: es) pos) (tAnd tt tu) (mAnd ft fu) := by
  obtain ⟨h1, h2⟩ := h; obtain ⟨k1, k2⟩ := k
  exact ⟨pw_and h1 k1, dt_and h2 k2⟩
theorem w_or (h : QT X c W a tt ft) (k : QW X c W (.BoolOp .Or (b :: es) pos) tu fu) : QW X c W (.BoolOp .Or (a :: b :: es) pos) (tOr tt tu) (mOr ft fu) := by
  obtain ⟨h1, h2⟩ := h; obtain ⟨k1, k2⟩ := k
  exact ⟨pw_or h1 k1, dt_or h2 k2⟩
theorem QW.t (h : QW X c W a tt ft) : QT X c W a tt ft := by
  obtain ⟨h1, h2⟩ := h
  exact ⟨h1.pt, h2⟩
theorem q_one {op} (h : QE X c W a ta fa) : QE X c W (.BoolOp op [a] pos) ta fa := by
  obtain ⟨h1, h2⟩ := h
  exact ⟨pe_one h1, h2⟩
theorem q_and (h : QE X c W a ta fa) (k : QE X c W (.BoolOp .And (b :: es) pos) tb fb) : QE X c W (.BoolOp .And (a :: b :: es) pos) (tAndV ta tb) (mAndV fa fb) := by
  obtain ⟨h1, h2⟩ := h; obtain ⟨k1, k2⟩ := k
  exact ⟨pe_and h1 k1, den_andV h2 k2⟩
theorem q_or (h : QE X c W a ta fa) (k : QE X c W (.BoolOp .Or (b :: es) pos) tb fb) : QE X c W (.BoolOp .Or (a :: b :: es) pos) (tOrV ta tb) (mOrV fa fb) := by
  obtain ⟨h1, h2⟩ := h; obtain ⟨k1, k2⟩ := k
  exact ⟨pe_or h1 k1, den_orV h2 k2⟩
theorem q_not (h : QE X c W a ta fa) : QE X c W (.UnaryOp .Not a pos) (tNotV ta) (mNotV fa) := by
  obtain ⟨h1, h2⟩ := h
  exact ⟨pe_not h1, den_notV h2⟩
theorem q_if (h : QT X c W d tt ft) (ha : QE X c W a ta fa) (hb : QE X c W b tb fb) : QE X c W (.IfExp d a b pos) (tIf tt ta tb) (mIf ft fa fb) := by
  obtain ⟨h1, h2⟩ := h; obtain ⟨k1, k2⟩ := ha; obtain ⟨l1, l2⟩ := hb
  exact ⟨pe_ifExp h1 k1 l1, den_if h2 k2 l2⟩
theorem a_nil : QA X c W [] tNil aNil := ⟨pa_nil, den_nil⟩
theorem a_cons (h : QE X c W e te fe) (k : QA X c W es tA fA) (hs : starEach (e :: es) X.env = (false, eval e X.env) :: starEach es X.env := by rfl) : QA X c W (e :: es) (tCons te tA) (aCons fe fA) := by
  obtain ⟨h1, h2⟩ := h; obtain ⟨k1, k2⟩ := k
  exact ⟨pa_cons h1 k1 hs, den_cons h2 k2⟩
theorem c_own (i : Nat) {x : Str} (k : QA X c W es tA fA) (hN : X.N[i]? = some x := by rfl) (hv : Vis X.env.scope x := by first | exact Or.inl rfl | exact Or.inr (Or.inl rfl) | exact Or.inr (Or.inr rfl)) (hd : (x == ("__debug__" : Str)) = false := by decide)
    (hcd : (x == ("__classdict__" : Str)) = false := by decide) (hs : starEach (.Name x pos :: es) X.env = (false, eval (.Name x pos) X.env) :: starEach es X.env := by rfl) : QC X c W (.Name x pos :: es) i 0 (tCons (tVar i) tA) (aOwn i fA) := by
  obtain ⟨k1, k2⟩ := k
  exact ⟨pa_cons (pe_var hN hv hd hcd) k1 hs, dc_own k2⟩
theorem q_tup {x1} (h : QA X c W es tA fA) : QE X c W (.Tuple es x1 pos) (tTupN tA) (mTup fA) := by
  obtain ⟨h1, h2⟩ := h
  exact ⟨pe_tupN h1, den_tup h2⟩
theorem q_lst (h : QA X c W es tA fA) : QE X c W (.List es pos) (tLst tA) (mLst fA) := by
  obtain ⟨h1, h2⟩ := h
  exact ⟨pe_lst h1, den_lst h2⟩
theorem q_ix (ha : QE X c W a ta fa) (hb : QE X c W b tb fb) (hs : PlainIx b := by exact fun _ _ => rfl) (hK : X.K = c.K := by rfl) : QE X c W (.Subscript a b pos) (tOp (rIx c.K) ta tb) (mOp gIx fa fb) := by
  obtain ⟨h1, h2⟩ := ha; obtain ⟨k1, k2⟩ := hb
  exact ⟨hK ▸ pe_ix ix_seq h1 k1 hs, den_op od_ix h2 k2⟩
theorem q_ixO (i : Nat) {x : Str} (hb : QE X c W b tb fb) (hN : X.N[i]? = some x := by rfl) (hv : Vis X.env.scope x := by first | exact Or.inl rfl | exact Or.inr (Or.inl rfl) | exact Or.inr (Or.inr rfl)) (hd : (x == ("__debug__" : Str)) = false := by decide)
    (hcd : (x == ("__classdict__" : Str)) = false := by decide) (hs : PlainIx b := by exact fun _ _ => rfl) (hK : X.K = c.K := by rfl) : QE X c W (.Subscript (.Name x p) b pos) (tOp (rIx c.K) (tVar i) tb) (mIxO i fb) := by
  obtain ⟨k1, k2⟩ := hb
  exact ⟨hK ▸ pe_ix ix_seq (pe_var hN hv hd hcd) k1 hs, den_ixO k2⟩
theorem o_none : QO X c W none tNoPart oNone := ⟨po_none, do_none⟩
theorem o_some (h : QE X c W e te fe) : QO X c W (some e) (tPart te) (oSome fe) := by
  obtain ⟨h1, h2⟩ := h
  exact ⟨po_some h1, do_some h2⟩
theorem q_sl {lo hi : Option Expr} {fl fh : M (Option Int)} {tl th : TO} (h : QE X c W e te fe) (hl : QO X c W lo tl fl) (hh : QO X c W hi th fh) (hK : X.K = c.K := by rfl) : QE X c W (.Subscript e (.Slice lo hi none p2) pos) (tSl (rSlG c.K) te tl th) (mSl fe fl fh) := by
  obtain ⟨h1, h2⟩ := h; obtain ⟨k1, k2⟩ := hl; obtain ⟨l1, l2⟩ := hh
  exact ⟨hK ▸ pe_slice sl_G h1 k1 l1, den_sl h2 k2 l2⟩
/-! ### calls -/
theorem q_call {x : Str} {F : Fn} {j : Nat} (C : Cal X.prog X.w c.K X.mg X.base k x (spF c F) []) (hr : Room j X.A) (hk : k ≤ j) (ha : QA X c W (e :: es) tA fA) (hg : Gl X x := by rfl) (hK : X.K = c.K := by rfl)
    (hdb : (x == ("__debug__" : Str)) = false := by decide) (he : starEach (e :: es) X.env = (false, eval e X.env) :: starEach es X.env := by rfl) (hpl : (backTo pos (starEach es X.env)).any (·.1) = false := by rfl) : QE X c W (.Call (.Name x p) (e :: es) [] pos) (tCall (spF c F) [] C8.E0 tA) (mCall F fA) := by
  obtain ⟨h1, h2⟩ := ha
  exact ⟨pe_c (hK ▸ C) hr hk hg h1 hdb he hpl, den_call h2⟩
theorem q_callO {x : Str} {F : Fn} {j i l : Nat} (C : Cal X.prog X.w c.K X.mg X.base k x (spF c F) []) (hr : Room j X.A) (hk : k ≤ j) (ha : QC X c W (e :: es) i l tA fA) (hg : Gl X x := by rfl) (hK : X.K = c.K := by rfl)
    (hdb : (x == ("__debug__" : Str)) = false := by decide) (he : starEach (e :: es) X.env = (false, eval e X.env) :: starEach es X.env := by rfl) (hpl : (backTo pos (starEach es X.env)).any (·.1) = false := by rfl) : QE X c W (.Call (.Name x p) (e :: es) [] pos) (tCall (spF c F) [] C8.E0 tA) (mCallO F i l fA) := by
  obtain ⟨h1, h2⟩ := ha
  exact ⟨pe_c (hK ▸ C) hr hk hg h1 hdb he hpl, den_callO h2⟩
/-- a built-in by its name -/
structure QB (X : Cx) (c : Cfg) (x : Str) (r : List V → Hp → VK → Prop) (g : List D → Option S) : Prop where
  ex : (∃ id, CallR X (.builtin id) r ∧ bootBuiltins x = some (.builtin id)) ∨ (∃ T, CallR X (.type T) r ∧ bootBuiltins x = some (.type T))
  dn : CbDen c r g
theorem q_blt {x : Str} {g : List D → Option S} {r : List V → Hp → VK → Prop} (B : QB X c x r g) (hm : X.mg x = none) (ha : QA X c W (e :: es) tA fA) (hg : Gl X x := by rfl) (hn : x ≠ "__name__" := by decide)
    (hdb : (x == ("__debug__" : Str)) = false := by decide) (he : starEach (e :: es) X.env = (false, eval e X.env) :: starEach es X.env := by rfl) (hpl : (backTo pos (starEach es X.env)).any (·.1) = false := by rfl) : QE X c W (.Call (.Name x p) (e :: es) [] pos) (tCB r tA) (mCB g fA) := by
  obtain ⟨h1, h2⟩ := ha
  rcases B.ex with ⟨id, r1, r2⟩ | ⟨T, r1, r2⟩
  · exact ⟨pe_callB r1 hg hm r2 h1 hn hdb he hpl, den_cb B.dn h2⟩
  · exact ⟨pe_callTy r1 hg hm r2 h1 hn hdb he hpl, den_cb B.dn h2⟩
theorem b_len (hK : X.K = c.K := by rfl) : QB X c "len" (rLenG c.K) gLen := ⟨.inl ⟨_, hK ▸ cr_lenG, PySem.boot_len⟩, cd_len⟩
theorem b_tuple (hK : X.K = c.K := by rfl) : QB X c "tuple" (rTupN c.K) gTuple := ⟨.inr ⟨_, hK ▸ call_tupN, by decide +kernel⟩, cd_tuple⟩
theorem b_list (hK : X.K = c.K := by rfl) : QB X c "list" (fun xs H Q => ∃ p ys, xs = [.ref p] ∧ (SqL c.K H p ys ∨ SqT c.K H p ys) ∧ ∀ l, H l = none → Q (.ref l) (upd H l (.lst ys))) gList := ⟨.inr ⟨_, hK ▸ call_list_of, by decide +kernel⟩, cd_list⟩
theorem b_all (hc : X.calm = true := by rfl) (hK : X.K = c.K := by rfl) : QB X c "all" (rAll c.K) gAll := ⟨.inl ⟨_, hK ▸ cr_all hc, by decide +kernel⟩, cd_all⟩
theorem b_isi (hK : X.K = c.K := by rfl) : QB X c "isinstance" (rIsi c.K) gIsi := ⟨.inl ⟨_, hK ▸ call_isi, by decide +kernel⟩, cd_isi⟩
end
end Fx
/-! statements and what they make of a state -/
namespace Fx
open PySem PySem.Spec PyProof.Rows L2
open C8 (Cal Mak pe_c pe_mk)
section
variable {X : Cx} {c : Cfg} {W : WX} {a b e d tg it : Expr} {es : List Expr} {fa fb fe fd : M S} {fA fI : M (List D)} {ft fu : M Bool} {pos p p2 apos cpos : Pos} {k : Nat} {st : Stmt} {ss rs : List Stmt} {F G : M Fl} {g : D → M Unit} {gs : List D → M Unit} {js js' : List Nat} {ta tb te td : TE} {tA : TA} {tt tu : TT} {tgt : TG} {tgs : TGs} {wi : TI} {t u : TS}
/-! ### targets -/
theorem g_name (i : Nat) {x : Str} (hN : X.N.Nodup) (hi : X.N[i]? = some x := by rfl) (hx : Loc X.env.scope x := by first | exact Or.inl rfl | exact Or.inr rfl) (hf : X.fn x = true ∨ X.env.scope.names.lookup x = some .local := by first | exact Or.inl rfl | exact Or.inr rfl) : QG X c W (.Name x pos) (gName i) (gmName i) [i] := ⟨pg_name hN hi hx hf, dg_name⟩
theorem gs_nil : QGs X c W [] gNil gmNil [] := ⟨pgs_nil, dgs_nil⟩
theorem gs_cons (h : QG X c W e tgt g js) (k : QGs X c W es tgs gs js') (hs : (assignEach (e :: es) X.env).map (·.2) = assign e X.env :: (assignEach es X.env).map (·.2) := by rfl) : QGs X c W (e :: es) (gCons tgt tgs) (gmCons g gs) (js ++ js') := by
  obtain ⟨h1, h2⟩ := h; obtain ⟨k1, k2⟩ := k
  exact ⟨pgs_cons h1 k1 hs, dgs_cons h2 k2⟩
theorem g_tup (n : Nat) {kk : Nat} (h : QGs X c W es tgs gs js) (hc : X.calm = true := by rfl) (hn : (assignEach es X.env).length = n := by rfl) (hst : (assignEach es X.env).findIdx? (·.1) = none := by rfl) (hK : X.K = c.K := by rfl) : QG X c W (.Tuple es kk pos) (gTup c.K n tgs) (gmTup n gs) js := by
  obtain ⟨h1, h2⟩ := h
  exact ⟨hK ▸ pg_tup hc h1 hn hst, dg_tup h2⟩
theorem g_item (i : Nat) {x : Str} (h : QE X c W e te fe) (hN : X.N[i]? = some x := by rfl) (hv : Vis X.env.scope x := by first | exact Or.inl rfl | exact Or.inr (Or.inl rfl) | exact Or.inr (Or.inr rfl)) (hd : (x == ("__debug__" : Str)) = false := by decide)
    (hcd : (x == ("__classdict__" : Str)) = false := by decide)
    (ha : ∀ v, assign (.Subscript (.Name x p) e pos) X.env v = (do
      let ov ← holding [v] (eval (.Name x p) X.env)
      let iv ← holding [v, ov] (eval e X.env)
      standAt pos
      holding [v, ov, iv] (setItem ov iv v)
      release [v, ov, iv] []) := by intro _; rfl) : QG X c W (.Subscript (.Name x p) e pos) (gSub (tVar i) te rSetL) (gmItem i fe) [] := by
  obtain ⟨h1, h2⟩ := h
  exact ⟨pg_sub (pe_var hN hv hd hcd) h1 set_list ha, dg_item h2⟩
/-! ### blocks -/
theorem ss_nil : QSs X c W [] tNext mNx := ⟨pss_nil, ds_nx⟩
theorem ss_cons (h : QS X c W st t F) (k : QSs X c W ss u G) : QSs X c W (st :: ss) (tSeq t u) (mSeq F G) := by
  obtain ⟨h1, h2⟩ := h; obtain ⟨k1, k2⟩ := k
  exact ⟨pss_cons h1 k1, ds_seq h2 k2⟩
theorem ss_one (h : QS X c W st t F) : QSs X c W [st] t F := by
  obtain ⟨h1, h2⟩ := h
  exact ⟨pss_one h1, h2⟩
theorem ss_never : QSs X c W ss tNever mSt := ⟨pss_never, ds_never⟩
theorem s_ret (h : QE X c W e te fe) : QS X c W (.Return (some e) pos) (tRet te) (mRet fe) := by
  obtain ⟨h1, h2⟩ := h
  exact ⟨ps_ret h1, ds_ret h2⟩
theorem ds_retO {i : Nat} : DenS c W (tRet (tVar i)) (mRetO i) := fun B ts vs ρ σ H D r q => by
  unfold mRetO at q
  split at q
  · rename_i x e
    obtain ⟨G, o1, o2, kk, h1, h2⟩ := id r
    obtain ⟨a, own', ev, hc, hb, h3, m1, m2, m3, m4⟩ := h2.takeO e
    have nd := kk.nd
    rw [List.nodup_append] at nd
    obtain ⟨n4, n5⟩ := m4 nd.2.1
    refine ⟨.ref a, ev, q _ σ H ⟨G, a :: o1, own', kk.subO (fun p hp => ?_) ?_, .o hc (fun _ e => nomatch e) h1, h3⟩⟩
    · rcases List.mem_append.mp hp with hp | hp
      · rcases List.mem_cons.mp hp with rfl | hp
        · exact List.mem_append_right _ m3
        · exact List.mem_append_left _ hp
      · exact List.mem_append_right _ (m2 p hp)
    · rw [List.cons_append, List.nodup_cons, List.nodup_append]
      refine ⟨fun hm => ?_, nd.1, n4, fun x hx y hy => nd.2.2 x hx y (m2 y hy)⟩
      rcases List.mem_append.mp hm with hm | hm
      · exact nd.2.2 a hm a m3 rfl
      · exact n5 hm
  · rename_i x e
    obtain ⟨v, e1, r1⟩ := r.var e
    exact ⟨v, e1, q v σ H r1⟩
  · exact q.elim
theorem s_retO (i : Nat) {x : Str} (hN : X.N[i]? = some x := by rfl) (hv : Vis X.env.scope x := by first | exact Or.inl rfl | exact Or.inr (Or.inl rfl) | exact Or.inr (Or.inr rfl)) (hd : (x == ("__debug__" : Str)) = false := by decide)
    (hcd : (x == ("__classdict__" : Str)) = false := by decide) : QS X c W (.Return (some (.Name x p)) pos) (tRet (tVar i)) (mRetO i) := ⟨ps_ret (pe_var hN hv hd hcd), ds_retO⟩
theorem s_if (h : QT X c W d tt ft) (k : QSs X c W ss t F) (l : QSs X c W rs u G) : QS X c W (.If d ss rs pos) (tIfS tt t u) (mIfS ft F G) := by
  obtain ⟨h1, h2⟩ := h; obtain ⟨k1, k2⟩ := k; obtain ⟨l1, l2⟩ := l
  exact ⟨ps_if h1 k1 l1, ds_if h2 k2 l2⟩
theorem s_expr (h : QE X c W e te fe) (hs : swapsWith e none pos.line X.env = pure false := by rfl) : QS X c W (.Expr e pos) (tDrop te) (mDrop fe) := by
  obtain ⟨h1, h2⟩ := h
  exact ⟨ps_expr h1 hs, ds_drop h2⟩
theorem s_set (i : Nat) {x : Str} (hN : X.N.Nodup) (h : QE X c W e te fe) (hi : X.N[i]? = some x := by rfl) (hx : Loc X.env.scope x := by first | exact Or.inl rfl | exact Or.inr rfl) (hs : swapsWith e (some (.Name x p)) pos.line X.env = pure false := by rfl) (hf : X.fn x = true ∨ X.env.scope.names.lookup x = some .local := by first | exact Or.inl rfl | exact Or.inr rfl) :
    QS X c W (.Assign [.Name x p] e pos) (tAsg te (gName i)) (mAsg fe (gmName i)) := by
  obtain ⟨h1, h2⟩ := h
  exact ⟨ps_set hN hi hx h1 hs hf, ds_asg h2 dg_name⟩
theorem s_setO (i : Nat) {x : Str} (hN : X.N.Nodup) (h : QE X c W e te fe) (hi : X.N[i]? = some x := by rfl) (hx : Loc X.env.scope x := by first | exact Or.inl rfl | exact Or.inr rfl) (hs : swapsWith e (some (.Name x p)) pos.line X.env = pure false := by rfl) (hf : X.fn x = true ∨ X.env.scope.names.lookup x = some .local := by first | exact Or.inl rfl | exact Or.inr rfl) :
    QS X c W (.Assign [.Name x p] e pos) (tAsg te (gName i)) (mAsgO i fe) := by
  obtain ⟨h1, h2⟩ := h
  exact ⟨ps_set hN hi hx h1 hs hf, ds_asgO h2⟩
theorem s_asg (h : QE X c W e te fe) (k : QG X c W tg tgt g js) (hs : swapsWithSole [tg] e pos.line X.env = pure false := by rfl) (hw : swappedStores [tg] e X.env = pure none := by rfl)
    (h1 : (assignEach [tg] X.env).map (·.2) = [assign tg X.env] := by rfl) : QS X c W (.Assign [tg] e pos) (tAsg te tgt) (mAsg fe g) := by
  obtain ⟨h2, h3⟩ := h; obtain ⟨k1, k2⟩ := k
  exact ⟨ps_asg h2 k1 hs hw h1, ds_asg h3 k2⟩
/-! ### loops -/
theorem s_for (hp : PassesOwn (model X.prog X.w) X.A X.env X.xe) (h : QI X c W tg it wi fI) (k : QG X c W tg tgt g js) (l : QSs X c W ss t F) (hc : X.calm = true := by rfl) (hs : ∀ x, foldedSetIterable it X.env x = pure x := by intro _; rfl) : QS X c W (.For tg it ss [] pos) (tFor wi tgt t) (mFor fI g F) := by
  obtain ⟨h1, h2⟩ := h; obtain ⟨k1, k2⟩ := k; obtain ⟨l1, l2⟩ := l
  exact ⟨ps_for hp hc h1 k1 l1 hs, ds_for h2 k2 l2⟩
theorem s_while (n : Nat) (hp : PassesOwn (model X.prog X.w) X.A X.env X.xe) (h : QT X c W d tt ft) (l : QSs X c W ss t F) : QS X c W (.While d ss [] pos) (tWhile tt t) (mWhile ft F n) := by
  obtain ⟨h1, h2⟩ := h; obtain ⟨l1, l2⟩ := l
  exact ⟨ps_while hp h1 l1, ds_while h2 l2⟩
/-! ### what is walked -/
theorem i_seq (h : QE X c W e te fe) (hK : X.K = c.K := by rfl) : QI X c W tg e (iSeqT c.K te) (iSeq fe) := by
  obtain ⟨h1, h2⟩ := h
  have h3 : PI X tg e (iSeqT X.K te) := PI.or (pi_list h1) (pi_tup h1)
  exact ⟨hK ▸ h3, di_seq h2⟩
theorem i_range1 (hm : X.mg "range" = none) (h : QA X c W [a] tA fA) (hg : Gl X "range" := by rfl) (hs : starEach [a] X.env = [(false, eval a X.env)] := by rfl) : QI X c W tg (.Call (.Name "range" p) [a] [] pos) (iRng1 tA) (iRange1 fA) := by
  obtain ⟨h1, h2⟩ := h
  exact ⟨pi_range1 hg hm h1 hs, di_range1 h2⟩
end
section
variable {X : Cx} {c : Cfg} {W : WX} {a b : Expr} {fA : M (List D)} {tA : TA} {es : List Expr} {kk : Nat} {tpos pos p : Pos}
theorem i_enum (hm : X.mg "enumerate" = none) (h : QA X c W [a] tA fA) (hg : Gl X "enumerate" := by rfl) (hK : X.K = c.K := by rfl) (hs : starEach [a] X.env = [(false, eval a X.env)] := by rfl) : QI X c W (.Tuple es kk tpos) (.Call (.Name "enumerate" p) [a] [] pos) (iEnumG c.K tA) (iEnu fA) := by
  obtain ⟨h1, h2⟩ := h
  have h3 : PI X (.Tuple es kk tpos) (.Call (.Name "enumerate" p) [a] [] pos) (iEnumG X.K tA) := PI.or (pi_enum hg hm h1 hs) (Rw.pi_enumT hg hm h1 hs)
  exact ⟨hK ▸ h3, di_enu h2⟩
end
/-! ### comprehensions -/
/-- a test of a comprehension, none or one -/
structure QTs (X : Cx) (c : Cfg) (W : WX) (es : List Expr) (t : TT) (f : M Bool) : Prop where
  pe : PTs X es t
  dn : DenT c W t f
/-- the place of a comprehension's own names -/
abbrev Blk (X : Cx) (scope : Scope) (s : Shared) (H : Hp) (C : Addr) (cl : List (Str × Addr)) (fp : List Addr) : Cx := X.blk s H scope (compEnvC scope cl C X.env) fp
section
variable {X : Cx} {c : Cfg} {W : WX} {tg it elt tg1 it1 : Expr} {ifs ifs1 : List Expr} {fI fI1 : M (List D)} {g g1 : D → M Unit} {js js1 : List Nat} {ft ft1 : M Bool} {fe : M S} {scope : Scope} {own : List (Str × Nat)} {vs1 : List Nat} {pos spos py : Pos} {wi wi1 : TI} {tgt tgt1 : TG} {tt tt1 : TT} {te : TE}
theorem ts_nil : QTs X c W [] tYes mYes := ⟨pts_nil, dt_yes⟩
theorem ts_one {e : Expr} (h : QT X c W e tt ft) : QTs X c W [e] tt ft := by
  obtain ⟨h1, h2⟩ := h
  exact ⟨pts_one h1, h2⟩
theorem anyPlace (c : Cfg) (P : Shared → Hp → Addr → List (Str × Addr) → List Addr → Prop) (h : ∀ s H C cl fp, P s H C cl fp) : ∃ s H C cl fp, P s H C cl fp := ⟨({} : Shared), fun _ => none, 0, [], [], h _ _ _ _ _⟩
theorem q_lc (hN : X.N.Nodup) (hI : QI X c W tg it wi fI) (hB : BlkOk X.N X.env.scope scope own) (hG : ∀ s H C cl fp, QG (Blk X scope s H C cl fp) c W0 tg tgt g js) (hT : ∀ s H C cl fp, QTs (Blk X scope s H C cl fp) c W0 ifs tt ft)
    (hE : ∀ s H C cl fp, QE (Blk X scope s H C cl fp) c W0 elt te fe) (hj : ∀ j ∈ js, j ∈ own.map (·.2) := by decide) (hc : X.calm = true := by rfl) (hs : ∀ x, foldedSetIterable it X.env x = pure x := by intro _; rfl) :
    QE X c W (.ListComp elt [{ target := tg, iter := it, ifs := ifs, is_async := 0 }] scope pos) (tLc wi tgt tt te (own.map (·.2))) (mLc fI g ft fe (own.map (·.2))) := by
  obtain ⟨h1, h2⟩ := hI
  obtain ⟨s, H, C, cl, fp, g2, t2, e2⟩ := anyPlace c _ fun s H C cl fp => And.intro (hG s H C cl fp).dn (And.intro (hT s H C cl fp).dn (hE s H C cl fp).dn)
  exact ⟨pe_lc hc hN h1 hB (fun s H C cl fp => (hG s H C cl fp).pe) (fun s H C cl fp => (hT s H C cl fp).pe) (fun s H C cl fp => (hE s H C cl fp).pe) hs, den_lc h2 g2 t2 e2 hj⟩
end
end Fx
/-! lambdas: made, handed on, called -/
namespace Fx
open PySem PySem.Spec PyProof.Rows L2
open C8 (Cal Mak pe_c pe_mk)
open LamX (Tabs TabS TabB ExtN CodeO codeO_ne)
def runL (np nN : Nat) (fe : M S) : Fn := fun args => if args.length = np then fe (args.map some ++ List.replicate (nN - np) none) else .stuck
section
variable {c : Cfg} {W : WX} {B : Base} {G H : Hp} {ts : En} {vs : List (Option V)} {ρ : En} {σ : L2.St}
theorem Cell.at_ {a : Addr} {x : D} (hc : Cell c G H a x) : ∃ u, H a = some u ∧ isCell u := by
  cases x with
  | lst ds =>
    obtain ⟨vs, h, k⟩ := hc
    exact ⟨_, h, .lst _⟩
  | ins n ds =>
    obtain ⟨dx, fs, h, hn, k⟩ := hc
    exact ⟨_, h, .ins _ _ _⟩
  | dct ks ds =>
    obtain ⟨o, kv, us, h, d, k1, k2⟩ := hc
    have : ∃ es ep, o.data = .dict es ep := by cases d <;> assumption
    obtain ⟨es, ep, e⟩ := this
    exact ⟨_, h, .xd _ _ es ep e⟩
  | xo b o => exact ⟨_, hc.2.1, hc.2.2⟩
  | tup ds =>
    obtain ⟨vs, o, h, d, k⟩ := hc
    exact ⟨_, h, .frz _ _⟩
  | _ => exact hc.elim
theorem LsAll.at_ : ∀ {bs : List Addr} {dss : List (List D)}, LsAll c G H bs dss → ∀ p ∈ bs, ∃ u, H p = some u ∧ isCell u
  | _, _, .nil, p, hp => by simp at hp
  | _, _, .cons h _ l, p, hp => by
    rcases List.mem_cons.mp hp with rfl | hp
    · exact ⟨_, h, .lst _⟩
    · exact LsAll.at_ l p hp
theorem QCell.at_ {a : Addr} {ks : List D} {dss : List (List D)} {os : Owns} (h : QCell c B G H a ks dss os) : ∀ p ∈ os, ∃ u, H p = some u ∧ isCell u := fun p hp => by
  rcases h with ⟨kvs, bs, rfl, h1, _, _, h4⟩ | ⟨n, ds, p, dk, dv, dx, fs, b, o, kv, us, vs, rfl, rfl, rfl, h1, h2, h3, h4, h5, h6, h7, h8, h9⟩ | ⟨ks', o, kv, bs, rfl, rfl, h1, h2, h3, h4⟩
  · rcases List.mem_cons.mp hp with rfl | hp
    · exact ⟨_, h1, .dK _⟩
    · exact h4.at_ p hp
  · simp only [List.mem_cons, List.not_mem_nil, or_false] at hp
    rcases hp with rfl | rfl
    · exact ⟨_, h1, .ins _ _ _⟩
    · have : ∃ es ep, o.data = .dict es ep := by
        cases h6 <;> assumption
      obtain ⟨es, ep, e⟩ := this
      exact ⟨_, h5, .xd _ _ es ep e⟩
  · rcases List.mem_cons.mp hp with rfl | hp
    · have : ∃ es ep, o.data = .dict es ep := by
        cases h2 <;> assumption
      obtain ⟨es, ep, e⟩ := this
      exact ⟨_, h1, .xd _ _ es ep e⟩
    · exact h4.at_ p hp
end
end Fx
/-! more words: int, sorted, sums, borrowed operands, methods, several names at once -/
namespace Fx
open PySem PySem.Spec PyProof.Rows L2
open C8 (Cal Mak pe_c pe_mk)
/-! ### ints of a list -/
def intsD : List D → Option (List Int)
  | [] => some []
  | .int i :: ds => (intsD ds).map (i :: ·)
  | _ => none
def ins (i : Int) : List Int → List Int
  | [] => [i]
  | j :: js => if i ≤ j then i :: j :: js else j :: ins i js
def isort : List Int → List Int
  | [] => []
  | i :: is => ins i (isort is)
/-! ### int, min, max, sum -/
def gInt1 : List D → Option S
  | [.int i] => ok1 (.int i)
  | [.bl b] => ok1 (.int (if b = true then 1 else 0))
  | _ => none
theorem cd_int {c : Cfg} : CbDen c (fun xs H Q => (∃ i, xs = [V.int i] ∧ Q (V.int i) H) ∨ ∃ k, xs = [V.bl k] ∧ Q (V.int (if k = true then 1 else 0)) H) gInt1 := by
  intro B ts vs ρ σ H Q ds us s hl r e q
  match ds, hl, r, e with
  | [.int i], hl, r, e =>
    cases e
    obtain ⟨v, rfl, G, O, h⟩ := r.one' hl
    cases h
    exact .inl ⟨i, rfl, q _ _ (O.val (.int _))⟩
  | [.bl b], hl, r, e =>
    cases e
    obtain ⟨v, rfl, G, O, h⟩ := r.one' hl
    cases h
    exact .inr ⟨b, rfl, q _ _ (O.val (.int _))⟩
section
variable {X : Cx} {c : Cfg}
theorem b_int : QB X c "int" (fun xs H Q => (∃ i, xs = [V.int i] ∧ Q (V.int i) H) ∨ ∃ k, xs = [V.bl k] ∧ Q (V.int (if k = true then 1 else 0)) H) gInt1 := ⟨.inr ⟨_, call_int1, by decide +kernel⟩, cd_int⟩
end
/-! ### an operand that is a name's cell, lent -/
/-- an operation whose answer is flat and that leaves the heap -/
def FlatOp (c : Cfg) (r : R2) (g : D → D → Option S) : Prop := ∀ (G H : Hp) (Q : VK) (x y : D) (v u : V) (s : S), (∀ a o, G a = some o → H a = some o) → Rp c G v x → Rp c G u y → g x y = some s → (∀ b : Bool, s = .d (.bl b) → Q (.bl b) H) → r v u H Q
theorem fo_in {c : Cfg} {neg : Bool} : FlatOp c (rInP c.K neg) (gInN neg) := by
  intro G H Q x y v u s sub h1 h2 e q
  unfold gInN at e
  split at e
  · rename_i ds hi
    split at e
    · rename_i hp
      rw [Bool.and_eq_true] at hp
      cases e
      have e3 : (toPs ds).any (fun z => PyData.eqv z (toP x)) = inD x ds := by
        rw [toPs_map, List.any_map]
        rfl
      refine ⟨toP x, toPs ds, h1.dp sub hp.1, ?_, (pl60_shaped hp.1).1, (plA_plain hp.2).1, Nat.le_trans (pl60_shaped hp.1).2 (by decide), ?_⟩
      · cases y <;> first | cases hi | skip
        · have := h2.dp (n := 61) sub (by simpa [pl] using hp.2)
          simp only [toP] at this
          exact .inr this
        · have := h2.dp (n := 61) sub (by simpa [pl] using hp.2)
          simp only [toP] at this
          exact .inl this
      · rw [e3]
        exact q _ rfl
    · cases e
  · cases e
section
variable {c : Cfg} {W : WX} {B : Base} {ts : En} {vs : List (Option V)} {ρ : En} {σ : L2.St} {H : Hp} {ta tb : TE} {fa fb : M S} {i : Nat} {r : R2} {g : D → D → Option S}
def lendD (ρ : En) (i : Nat) : Option D := match ρ[i]? with
  | some (some (.d x)) => some x
  | some (some (.o _ x)) => if canFz x then some x else none
  | _ => none
theorem Rep.lend {x y : D} {v : V} (e : lendD ρ i = some y) (r : Rep c B (some (.d x) :: ts) (some v :: vs) ρ σ H) : ∃ u G, σ[i]? = some (some u) ∧ (∀ a o, G a = some o → H a = some o) ∧ Rp c G v x ∧ Rp c G u y := by
  obtain ⟨G, o1, o2, k, h1, h2⟩ := r
  have hv : Rp c G v x := by
    cases h1 with
    | d h _ => exact h
  unfold lendD at e
  split at e
  · rename_i x' e1
    cases e
    obtain ⟨u, ev, hu⟩ := h2.getD e1
    exact ⟨u, G, ev, k.sub, hv, hu⟩
  · rename_i b x' e1
    split at e
    · rename_i hz
      cases e
      obtain ⟨a, ev, hc, ho, _⟩ := h2.getO e1
      obtain ⟨o, ha, _, hf⟩ := hc.fz hz
      have gp := (k.out a (List.mem_append_right _ ho)).1
      have s : ∀ b u, G b = some u → upd G a o b = some u := fun b u e => by
        have : b ≠ a := fun z => by rw [z, gp] at e; cases e
        rw [upd_ne this]
        exact e
      refine ⟨.ref a, upd G a o, ev, fun b u e => ?_, hv.mono s, hf _ s upd_same⟩
      by_cases hb : b = a
      · rw [hb, upd_same] at e
        rw [hb, ha, ← e]
      · rw [upd_ne hb] at e
        exact k.sub _ _ e
    · cases e
  · cases e
def mOpR (g : D → D → Option S) (fa : M S) (i : Nat) : M S := fun ρ => (dv fa ρ).then fun x ρ1 => match lendD ρ1 i with
  | some y => match g x y with
    | some (.d (.bl b)) => .ok (.d (.bl b)) ρ1
    | _ => .stuck
  | none => .stuck
theorem Rep.unit1 {x : D} {v : V} {b : Bool} (r : Rep c B (some (.d x) :: ts) (some v :: vs) ρ σ H) : Rep c B (some (.d (.bl b)) :: ts) (some (.bl b) :: vs) ρ σ H := by
  obtain ⟨G, O, _⟩ := r.one
  exact O.val (.bl _)
theorem den_opR (ho : FlatOp c r g) (h : Den c W ta fa) : Den c W (tOp r ta (tVar i)) (mOpR g fa i) := fun B ts vs ρ σ H Q rp q => by
  unfold mOpR at q
  rw [post_then] at q
  refine h.dv rp (q.imp1 fun x ρ1 q v H1 r1 => ?_)
  split at q
  · rename_i y e
    obtain ⟨u, G, ev, sub, hx, hy⟩ := r1.lend e
    split at q
    · rename_i b eg
      refine ⟨u, ev, ho G H1 Q x y v u _ sub hx hy eg fun b' hb => ?_⟩
      cases hb
      exact q _ _ r1.unit1
    · exact q.elim
  · exact q.elim
end
section
variable {X : Cx} {c : Cfg} {W : WX} {a b e : Expr} {es : List Expr} {fa fb fe : M S} {pos p p2 apos cpos : Pos} {k : Nat} {ta tb te : TE}
/-- an operator of comparison whose operand may be lent -/
structure QF (X : Cx) (c : Cfg) (op : CmpOp) (r : R2) (g : D → D → Option S) : Prop where
  pe : OpR X (compareOp op) r
  dn : FlatOp c r g
theorem f_nin (hr : Room k X.A) (hK : X.K = c.K := by rfl) : QF X c .NotIn (rInP c.K true) gNotIn := ⟨hK ▸ op_ninP (un66 hr), fo_in⟩
variable {op : CmpOp} {g : D → D → Option S} {r : R2} {x : Str}
theorem t_cmpR (ho : QF X c op r g) (ha : QE X c W a ta fa) (i : Nat) (hN : X.N[i]? = some x := by rfl) (hv : Vis X.env.scope x := by first | exact Or.inl rfl | exact Or.inr (Or.inl rfl) | exact Or.inr (Or.inr rfl)) (hd : (x == ("__debug__" : Str)) = false := by decide)
    (hcd : (x == ("__classdict__" : Str)) = false := by decide) (hm : behindInMarks op (.Name x p) = false := by first | exact nomark _ | with_unfolding_all rfl) : QT X c W (.Compare a [op] [.Name x p] pos) (tTest (tOp r ta (tVar i))) (mTest (mOpR g fa i)) := by
  obtain ⟨h1, h2⟩ := ha; obtain ⟨r1, r2⟩ := ho
  exact ⟨pt_cmpR r1 h1 (pe_var hN hv hd hcd) hm, dt_test (den_opR r2 h2)⟩
/-! ### methods of a name's list, its length -/
theorem q_lenO (i : Nat) (hmg : X.mg "len" = none) (hN : X.N[i]? = some x := by rfl) (hv : Vis X.env.scope x := by first | exact Or.inl rfl | exact Or.inr (Or.inl rfl) | exact Or.inr (Or.inr rfl)) (hd : (x == ("__debug__" : Str)) = false := by decide)
    (hcd : (x == ("__classdict__" : Str)) = false := by decide) (hg : Gl X "len" := by rfl) (he : starEach [.Name x p2] X.env = (false, eval (.Name x p2) X.env) :: starEach [] X.env := by rfl) (hpl : (backTo pos (starEach [] X.env)).any (·.1) = false := by rfl) (hK : X.K = c.K := by rfl) :
    QE X c W (.Call (.Name "len" p) [.Name x p2] [] pos) (tCB (rLenG c.K) (tCons (tVar i) tNil)) (mLenO i) :=
  ⟨pe_callB (hK ▸ cr_lenG) hg hmg PySem.boot_len (pa_cons (pe_var hN hv hd hcd) pa_nil he) (by decide) (by decide) he hpl, den_lenO⟩
theorem q_append (i : Nat) (he : QE X c W e te fe) (hN : X.N[i]? = some x := by rfl) (hv : Vis X.env.scope x := by first | exact Or.inl rfl | exact Or.inr (Or.inl rfl) | exact Or.inr (Or.inr rfl)) (hd : (x == ("__debug__" : Str)) = false := by decide)
    (hcd : (x == ("__classdict__" : Str)) = false := by decide) (hbase : attributeBase (.Name x p) "append" X.env (eval (.Name x p) X.env) = eval (.Name x p) X.env := by rfl)
    (hfew : ((backTo cpos (starEach [e] X.env)).all (fun y => !y.1) && (backToKw cpos (keywordEach [] X.env)).all (fun y => y.1.isSome) && decide ([e].length + ([] : List Keyword).length + (if ([] : List Keyword).isEmpty then 0 else 1) < 30)) = true := by rfl) (hline : (apos.endLine == cpos.line) = true := by rfl)
    (hs : starEach [e] X.env = (false, eval e X.env) :: starEach [] X.env := by rfl) (hplain : (backTo cpos (starEach [] X.env)).any (·.1) = false := by rfl) (hK : X.K = c.K := by rfl) :
    QE X c W (.Call (.Attribute (.Name x p) "append" apos) [e] [] cpos) (tBM c.K "list" rAppend (tVar i) (tCons te tNil)) (mMeth1 i gApp fe) := by
  obtain ⟨h1, h2⟩ := he
  exact ⟨hK ▸ pe_bm PySem.F.plainAttrs_list PySem.F.slot_list_append PySem.F.type_list_append mt_append (pe_var hN hv hd hcd) (pa_cons h1 pa_nil hs) hbase hfew hline hs hplain, den_meth1 md_app h2⟩
theorem q_pop (i : Nat) (hN : X.N[i]? = some x := by rfl) (hv : Vis X.env.scope x := by first | exact Or.inl rfl | exact Or.inr (Or.inl rfl) | exact Or.inr (Or.inr rfl)) (hd : (x == ("__debug__" : Str)) = false := by decide)
    (hcd : (x == ("__classdict__" : Str)) = false := by decide) (hbase : attributeBase (.Name x p) "pop" X.env (eval (.Name x p) X.env) = eval (.Name x p) X.env := by rfl) (hline : (apos.endLine == cpos.line) = true := by rfl) (hK : X.K = c.K := by rfl) :
    QE X c W (.Call (.Attribute (.Name x p) "pop" apos) [] [] cpos) (tBM0 c.K "list" rPop (tVar i)) (mMeth0 i gPop) :=
  ⟨hK ▸ pe_bm0 PySem.F.plainAttrs_list PySem.F.slot_list_pop PySem.F.type_list_pop mt_pop (pe_var hN hv hd hcd) hbase hline, den_meth0 md_pop⟩
end
end Fx
/-! a, b = x, y and a, b, c = x, y, z -/
namespace Fx
open PySem PySem.Spec PyProof.Rows L2
open C8 (Cal Mak pe_c pe_mk)
abbrev stk (ss : List S) : En := ss.reverse.map some
def DenP (c : Cfg) (W : WX) (tA : TA) (f : M (List S)) : Prop := ∀ B ts vs ρ σ H Q, Rep c B ts vs ρ σ H → Post (fun ss ρ' => ∀ us H', us.length = ss.length → Rep c B (stk ss ++ ts) (tmv us ++ vs) ρ' σ H' → Q us H') (ErrP c W B ts vs σ) (f ρ) → tA σ H Q
def psNil : M (List S) := fun ρ => .ok [] ρ
def psCons (fa : M S) (fr : M (List S)) : M (List S) := fun ρ => (fa ρ).then fun s ρ1 => (fr ρ1).then fun ss ρ2 => .ok (s :: ss) ρ2
def stS (own : Bool) (s : S) : Option S := if own then match s with
    | .o none x => some (.o none x)
    | _ => (toD s).map .d
  else (toD s).map .d
section
variable {c : Cfg} {W : WX} {B : Base} {ts : En} {vs : List (Option V)} {ρ : En} {σ : L2.St} {H : Hp} {ta : TE} {fa : M S} {tr tA : TA} {fr fP : M (List S)}
theorem dp_nil : DenP c W tNil psNil := fun B ts vs ρ σ H Q r h => h [] H rfl r
theorem dp_cons (ha : Den c W ta fa) (hr : DenP c W tr fr) : DenP c W (tCons ta tr) (psCons fa fr) := fun B ts vs ρ σ H Q r q => by
  unfold psCons at q
  rw [post_then] at q
  refine ha B ts vs ρ σ H _ r (q.imp1 fun s ρ1 h v H1 r1 => ?_)
  rw [post_then] at h
  refine hr B _ _ ρ1 σ H1 _ r1 (h.imp (fun ss ρ2 h us H2 hl r2 => ?_) fun _ _ h => h.drop)
  refine h (v :: us) H2 (by simp [hl]) ?_
  unfold stk tmv
  rw [List.reverse_cons, List.map_append, List.reverse_cons, List.map_append, List.append_assoc, List.append_assoc]
  exact r2
theorem Rep.stS {own : Bool} {s s' : S} {v : V} (e : stS own s = some s') (r : Rep c B (some s :: ts) (some v :: vs) ρ σ H) : Rep c B (some s' :: ts) (some v :: vs) ρ σ H := by
  have key : ∀ {s' : S}, (Fx.toD s).map S.d = some s' → Rep c B (some s' :: ts) (some v :: vs) ρ σ H := by
    intro s' e
    cases e2 : Fx.toD s with
    | none => rw [e2] at e; cases e
    | some x =>
      rw [e2] at e
      cases e
      exact r.toD e2
  unfold Fx.stS at e
  split at e
  · split at e
    · cases e
      exact r
    · exact key e
  · exact key e
def mPar2 (i : Nat) (oi : Bool) (j : Nat) (oj : Bool) (fP : M (List S)) : M Fl := fun ρ => (fP ρ).then fun ss ρ1 => match ss with
  | [s, t] => match stS oi s, stS oj t with
    | some s', some t' => .ok .nx ((ρ1.set j (some t')).set i (some s'))
    | _, _ => .stuck
  | _ => .stuck
def mPar3 (i : Nat) (oi : Bool) (j : Nat) (oj : Bool) (k : Nat) (ok : Bool) (fP : M (List S)) : M Fl := fun ρ => (fP ρ).then fun ss ρ1 => match ss with
  | [s, t, u] => match stS oi s, stS oj t, stS ok u with
    | some s', some t', some u' => .ok .nx (((ρ1.set k (some u')).set j (some t')).set i (some s'))
    | _, _, _ => .stuck
  | _ => .stuck
theorem ds_par2 {i j : Nat} {oi oj : Bool} (hij : i ≠ j) (h : DenP c W tA fP) : DenS c W (tPar i j tA) (mPar2 i oi j oj fP) := fun B ts vs ρ σ H D r q => by
  unfold mPar2 at q
  rw [post_then] at q
  refine h B ts vs ρ σ H _ r (q.imp (fun ss ρ1 q us H1 hl r1 => ?_) fun _ _ h => h.toP)
  match ss, us, hl, q, r1 with
  | [s, t], [v, w], _, q, r1 =>
    dsimp only at q
    split at q
    · rename_i s' t' e1 e2
      refine ⟨v, w, rfl, ?_⟩
      have r2 : Rep c B (some t :: some s :: ts) (some w :: some v :: vs) ρ1 σ H1 := r1
      have r3 := (r2.stS e2).set (i := j)
      have r4 := (r3.stS e1).set (i := i)
      have q : EndP c B ts vs D .nx _ := q
      have e : (σ.set i (some v)).set j (some w) = (σ.set j (some w)).set i (some v) := List.set_comm _ _ hij
      rw [e]
      exact q _ _ r4
    · exact q.elim
def tPar3 (i j k : Nat) (ta : TA) : TS := fun D σ H => ta σ H fun vs H1 => ∃ u v w, vs = [u, v, w] ∧ D.nx (((σ.set i (some u)).set j (some v)).set k (some w)) H1
theorem ds_par3 {i j k : Nat} {oi oj ok : Bool} (hij : i ≠ j) (hik : i ≠ k) (hjk : j ≠ k) (h : DenP c W tA fP) : DenS c W (tPar3 i j k tA) (mPar3 i oi j oj k ok fP) := fun B ts vs ρ σ H D r q => by
  unfold mPar3 at q
  rw [post_then] at q
  refine h B ts vs ρ σ H _ r (q.imp (fun ss ρ1 q us H1 hl r1 => ?_) fun _ _ h => h.toP)
  match ss, us, hl, q, r1 with
  | [s, t, u], [v, w, x], _, q, r1 =>
    dsimp only at q
    split at q
    · rename_i s' t' u' e1 e2 e3
      refine ⟨v, w, x, rfl, ?_⟩
      have r2 : Rep c B (some u :: some t :: some s :: ts) (some x :: some w :: some v :: vs) ρ1 σ H1 := r1
      have r3 := (r2.stS e3).set (i := k)
      have r4 := (r3.stS e2).set (i := j)
      have r5 := (r4.stS e1).set (i := i)
      have q : EndP c B ts vs D .nx _ := q
      have e : (((σ.set i (some v)).set j (some w)).set k (some x)) = (((σ.set k (some x)).set j (some w)).set i (some v)) := by
        rw [List.set_comm _ _ hjk, List.set_comm _ _ hik, List.set_comm _ _ hij]
      rw [e]
      exact q _ _ r5
    · exact q.elim
end
section
variable {X : Cx}
theorem ps_par3 {i j k : Nat} {x y z : Str} {a b d : Expr} {ta : TA} {px py pz pt pos : Pos} {kt k2 pt2} (hc : X.calm = true) (hN : X.N.Nodup) (hi : X.N[i]? = some x) (hj : X.N[j]? = some y) (hk : X.N[k]? = some z) (hij : i ≠ j) (hik : i ≠ k) (hjk : j ≠ k)
    (hx : X.env.scope.names.lookup x = some .local) (hy : X.env.scope.names.lookup y = some .local) (hz : X.env.scope.names.lookup z = some .local) (ha : PA X [a, b, d] ta)
    (hw : swappedStores [.Tuple [.Name x px, .Name y py, .Name z pz] kt pt] (.Tuple [a, b, d] k2 pt2) X.env = pure (some [x, y, z]))
    (hs : swapsWithSole [.Tuple [.Name x px, .Name y py, .Name z pz] kt pt] (.Tuple [a, b, d] k2 pt2) pos.line X.env = pure false := by rfl) :
    PS X (.Assign [.Tuple [.Name x px, .Name y py, .Name z pz] kt pt] (.Tuple [a, b, d] k2 pt2) pos) (tPar3 i j k ta) := by
  refine ⟨fun pins s σ H D I h => ?_⟩
  rw [exec_Assign_arm]
  refine wpAny_bind (wpAny_standAt ?_)
  rw [hs]
  refine wpAny_bind (wpAny_pure ?_)
  rw [if_neg (by decide)]
  refine wpAny_bind (Tuple_ (thn (ha.run _ pins s σ H _ I h) fun us s1 ⟨vs, H1, I1, r1, q1⟩ => ?_))
  obtain ⟨v, w, t, e1, q1⟩ := q1
  subst e1
  obtain ⟨u1, u2, u3, rfl, rv, rw', rz⟩ : ∃ u1 u2 u3, us = [u1, u2, u3] ∧ RelV v u1 ∧ RelV w u2 ∧ RelV t u3 := by
    cases r1 with
    | cons p q =>
      cases q with
      | cons p' q' =>
        cases q' with
        | cons p2 q2 =>
          cases q2
          exact ⟨_, _, _, rfl, p, p', p2⟩
  refine wpAny_newObj_type ?_ (by show 3 ≤ sizeLine; decide)
  have I2 : Inv X pins σ H1 { s1 with heap := s1.heap.push { cls := .type "tuple", data := .seq [u1, u2, u3].toArray } } := I1.kept (t' := s1.toks) fun b o e => Heap.get?_push_of_some _ e
  rw [hw]
  refine wpAny_bind (wpAny_pure ?_)
  show wpAny (model X.prog X.w) X.A (do rule "assign.swapped-stores"; let items ← unpackItems (.ref s1.heap.objs.size) 3 none; assignInOrder [fun v => bindName X.env z v, fun v => bindName X.env y v, fun v => bindName X.env x v] items.reverse; pure Flow.next) _ _ _
  refine wpAny_bind (wpAny_rule (wpAny_bind (unpackItems_tuple (items := #[u1, u2, u3]) (I.ok.hd hc) (IsTup.new s1.heap _) fun h' hx' => ?_)))
  have I3 := I2.kept (h' := h') (t' := s1.toks) fun b o e => hx' b o (Nat.ne_of_lt (Heap.lt_size e)) e
  show wpAny _ _ (assignInOrder [fun v => bindName X.env z v, fun v => bindName X.env y v, fun v => bindName X.env x v] [u3, u2, u1] >>= fun _ => pure Flow.next) _ _ _
  refine wpAny_bind (assignInOrder_cons (wpAny_bindName (store_ok I3 hN hk (.inl hz) rz (fun s2 I4 => ?_) (.inr hz))))
  refine assignInOrder_cons (wpAny_bindName (store_ok I4 hN hj (.inl hy) rw' (fun s3 I5 => ?_) (.inr hy)))
  refine assignInOrder_cons (wpAny_bindName (store_ok I5 hN hi (.inl hx) rv (fun s4 I6 => assignInOrder_nil (wpAny_pure ?_)) (.inr hx)))
  have e : (((σ.set i (some v)).set j (some w)).set k (some t)) = (((σ.set k (some t)).set j (some w)).set i (some v)) := by
    rw [List.set_comm _ _ hjk, List.set_comm _ _ hik, List.set_comm _ _ hij]
  rw [← e] at I6
  exact ⟨_, H1, I6, q1⟩
end
structure QP (X : Cx) (c : Cfg) (W : WX) (es : List Expr) (t : TA) (f : M (List S)) : Prop where
  pe : PA X es t
  dn : DenP c W t f
section
variable {X : Cx} {c : Cfg} {W : WX} {a b d e : Expr} {es : List Expr} {te : TE} {fe : M S} {tA : TA} {fP : M (List S)} {pos : Pos} {oi oj ok : Bool}
theorem ps_nil : QP X c W [] tNil psNil := ⟨pa_nil, dp_nil⟩
theorem ps_cons (h : QE X c W e te fe) (k : QP X c W es tA fP) (hs : starEach (e :: es) X.env = (false, eval e X.env) :: starEach es X.env := by rfl) : QP X c W (e :: es) (tCons te tA) (psCons fe fP) := by
  obtain ⟨h1, h2⟩ := h; obtain ⟨k1, k2⟩ := k
  exact ⟨pa_cons h1 k1 hs, dp_cons h2 k2⟩
theorem s_par2 (i : Nat) (oi : Bool) (j : Nat) (oj : Bool) {x y : Str} {px py pt : Pos} {kt k2 pt2} (hN : X.N.Nodup) (ha : QP X c W [a, b] tA fP) (hij : i ≠ j := by decide) (hc : X.calm = true := by rfl) (hi : X.N[i]? = some x := by rfl) (hj : X.N[j]? = some y := by rfl)
    (hx : X.env.scope.names.lookup x = some .local := by rfl) (hy : X.env.scope.names.lookup y = some .local := by rfl)
    (hw : swappedStores [.Tuple [.Name x px, .Name y py] kt pt] (.Tuple [a, b] k2 pt2) X.env = pure (some [x, y]) := by rfl)
    (hs : swapsWithSole [.Tuple [.Name x px, .Name y py] kt pt] (.Tuple [a, b] k2 pt2) pos.line X.env = pure false := by rfl) :
    QS X c W (.Assign [.Tuple [.Name x px, .Name y py] kt pt] (.Tuple [a, b] k2 pt2) pos) (tPar i j tA) (mPar2 i oi j oj fP) := by
  obtain ⟨h1, h2⟩ := ha
  exact ⟨ps_par hc hN hi hj hij hx hy h1 hw hs, ds_par2 hij h2⟩
theorem s_par3 (i : Nat) (oi : Bool) (j : Nat) (oj : Bool) (k : Nat) (ok : Bool) {x y z : Str} {px py pz pt : Pos} {kt k2 pt2} (hN : X.N.Nodup) (ha : QP X c W [a, b, d] tA fP) (hij : i ≠ j := by decide) (hik : i ≠ k := by decide) (hjk : j ≠ k := by decide) (hc : X.calm = true := by rfl) (hi : X.N[i]? = some x := by rfl) (hj : X.N[j]? = some y := by rfl) (hk : X.N[k]? = some z := by rfl)
    (hx : X.env.scope.names.lookup x = some .local := by rfl) (hy : X.env.scope.names.lookup y = some .local := by rfl) (hz : X.env.scope.names.lookup z = some .local := by rfl)
    (hw : swappedStores [.Tuple [.Name x px, .Name y py, .Name z pz] kt pt] (.Tuple [a, b, d] k2 pt2) X.env = pure (some [x, y, z]) := by rfl)
    (hs : swapsWithSole [.Tuple [.Name x px, .Name y py, .Name z pz] kt pt] (.Tuple [a, b, d] k2 pt2) pos.line X.env = pure false := by rfl) :
    QS X c W (.Assign [.Tuple [.Name x px, .Name y py, .Name z pz] kt pt] (.Tuple [a, b, d] k2 pt2) pos) (tPar3 i j k tA) (mPar3 i oi j oj k ok fP) := by
  obtain ⟨h1, h2⟩ := ha
  exact ⟨ps_par3 hc hN hi hj hk hij hik hjk hx hy hz h1 hw hs, ds_par3 hij hik hjk h2⟩
end
/-! the same by a tuple (where a name is a cell) -/
section
variable {c : Cfg} {W : WX} {B : Base} {ts : En} {vs : List (Option V)} {ρ : En} {σ : L2.St} {H : Hp} {tA : TA} {fP : M (List S)}
theorem Rep.extra {p : Addr} {o : HO} (r : Rep c B ts vs ρ σ H) (hp : H p = none) (ho : isTbl o = false) : Rep c B ts vs ρ σ (upd H p o) := by
  obtain ⟨G, o1, o2, k, h1, h2⟩ := r
  have gp := k.gnone hp
  have s : ∀ a u, G a = some u → upd G p o a = some u := upd_sub gp
  have e := own_new (o := o) k hp
  exact ⟨_, o1, o2, k.alloc hp ho, h1.mono s fun q hq => e q (List.mem_append_left _ hq), h2.mono s fun q hq => e q (List.mem_append_right _ hq)⟩
theorem ds_parT2 {i j : Nat} {oi oj : Bool} (hij : i ≠ j) (h : DenP c W tA fP) : DenS c W (tAsg (tTup tA) (gTup c.K 2 (gCons (gName i) (gCons (gName j) gNil)))) (mPar2 i oi j oj fP) := fun B ts vs ρ σ H D r q => by
  unfold mPar2 at q
  rw [post_then] at q
  refine h B ts vs ρ σ H _ r (q.imp (fun ss ρ1 q us H1 hl r1 => ?_) fun _ _ h => h.toP)
  match ss, us, hl, q, r1 with
  | [s, t], [v, w], _, q, r1 =>
    dsimp only at q
    split at q
    · rename_i s' t' e1 e2
      refine ⟨(by show 2 ≤ sizeLine; decide), fun p hp => ⟨p, [v, w], rfl, .inl (.inl upd_same), rfl, v, [w], rfl, w, [], rfl, rfl, ?_⟩⟩
      have r2 : Rep c B (some t :: some s :: ts) (some w :: some v :: vs) ρ1 σ H1 := r1
      have r3 := (r2.stS e2).set (i := j)
      have r4 := ((r3.stS e1).set (i := i)).extra (o := .tup [v, w]) hp rfl
      have q : EndP c B ts vs D .nx _ := q
      have e : (σ.set i (some v)).set j (some w) = (σ.set j (some w)).set i (some v) := List.set_comm _ _ hij
      rw [e]
      exact q _ _ r4
    · exact q.elim
end
section
variable {X : Cx} {c : Cfg} {W : WX} {a b d e : Expr} {es : List Expr} {te : TE} {fe : M S} {tA : TA} {fP : M (List S)} {pos : Pos} {oi oj ok : Bool}
theorem s_parT2 (i : Nat) (oi : Bool) (j : Nat) (oj : Bool) {x y : Str} {px py pt : Pos} {kt k2 pt2} (hN : X.N.Nodup) (ha : QP X c W [a, b] tA fP) (hij : i ≠ j := by decide) (hc : X.calm = true := by rfl) (hi : X.N[i]? = some x := by rfl) (hj : X.N[j]? = some y := by rfl)
    (hx : Loc X.env.scope x := by first | exact Or.inl rfl | exact Or.inr rfl) (hy : Loc X.env.scope y := by first | exact Or.inl rfl | exact Or.inr rfl)
    (fx : X.fn x = true ∨ X.env.scope.names.lookup x = some .local := by first | exact Or.inl rfl | exact Or.inr rfl) (fy : X.fn y = true ∨ X.env.scope.names.lookup y = some .local := by first | exact Or.inl rfl | exact Or.inr rfl)
    (hs : swapsWithSole [.Tuple [.Name x px, .Name y py] kt pt] (.Tuple [a, b] k2 pt2) pos.line X.env = pure false := by rfl) (hw : swappedStores [.Tuple [.Name x px, .Name y py] kt pt] (.Tuple [a, b] k2 pt2) X.env = pure none := by rfl)
    (h1 : (assignEach [.Tuple [.Name x px, .Name y py] kt pt] X.env).map (·.2) = [assign (.Tuple [.Name x px, .Name y py] kt pt) X.env] := by rfl) (hn : (assignEach [.Name x px, .Name y py] X.env).length = 2 := by rfl) (hst : (assignEach [.Name x px, .Name y py] X.env).findIdx? (·.1) = none := by rfl)
    (hg : (assignEach [.Name x px, .Name y py] X.env).map (·.2) = assign (.Name x px) X.env :: (assignEach [.Name y py] X.env).map (·.2) := by rfl) (hg2 : (assignEach [.Name y py] X.env).map (·.2) = assign (.Name y py) X.env :: (assignEach [] X.env).map (·.2) := by rfl) (hK : X.K = c.K := by rfl) :
    QS X c W (.Assign [.Tuple [.Name x px, .Name y py] kt pt] (.Tuple [a, b] k2 pt2) pos) (tAsg (tTup tA) (gTup c.K 2 (gCons (gName i) (gCons (gName j) gNil)))) (mPar2 i oi j oj fP) := by
  obtain ⟨h2, h3⟩ := ha
  exact ⟨ps_asg (pe_tup h2) (hK ▸ pg_tup hc (pgs_cons (pg_name hN hi hx fx) (pgs_cons (pg_name hN hj hy fy) pgs_nil hg2) hg) hn hst) hs hw h1, ds_parT2 hij h3⟩
end
end Fx
/-! isinstance of a written pair of types -/
namespace Fx
open PySem PySem.Spec PyProof.Rows L2
def isTy2 (n m : String) (x : D) : Option Bool := match isTy n x with
  | some true => some true
  | some false => isTy m x
  | none => none
def gIsi2 (n m : String) (x : D) : Option S := (isTy2 n m x).bind fun b => ok1 (.bl b)
def mIsi2 (n m : String) (fe : M S) : M S := mUn (gIsi2 n m) fe
end Fx
/-! set(a tuple of ints), its length -/
namespace Rw
open PySem PySem.Spec PyProof.Rows L2
section
variable {X : Cx}
/-- how many unlike ones -/
def Card (ns : List Int) (c : Nat) : Prop := ∃ l : List Int, l.Nodup ∧ (∀ k, k ∈ l ↔ k ∈ ns) ∧ l.length = c
end
end Rw
/-! sorted lists without repetition, the products' mirrors -/
namespace Rw
/-- u is what is in ls, ascending, once each -/
def Srt (u ls : List Int) : Prop := u.Pairwise (· < ·) ∧ ∀ k, k ∈ u ↔ k ∈ ls
theorem pw_nodup : ∀ {u : List Int}, u.Pairwise (· < ·) → u.Nodup
  | [], _ => List.nodup_nil
  | a :: u, h => by
    rw [List.pairwise_cons] at h
    rw [List.nodup_cons]
    exact ⟨fun m => Int.lt_irrefl _ (h.1 a m), pw_nodup h.2⟩
theorem srt_inj : ∀ {u v : List Int}, u.Pairwise (· < ·) → v.Pairwise (· < ·) → (∀ k, k ∈ u ↔ k ∈ v) → u = v
  | [], [], _, _, _ => rfl
  | [], b :: v, _, _, h => by have := (h b).mpr List.mem_cons_self; cases this
  | a :: u, [], _, _, h => by have := (h a).mp List.mem_cons_self; cases this
  | a :: u, b :: v, p, q, h => by
    rw [List.pairwise_cons] at p q
    have ab : a = b := by
      have h1 := (h a).mp List.mem_cons_self
      have h2 := (h b).mpr List.mem_cons_self
      rcases List.mem_cons.mp h1 with e | m1
      · exact e
      · rcases List.mem_cons.mp h2 with e | m2
        · exact e.symm
        · have := q.1 a m1
          have := p.1 b m2
          omega
    subst ab
    have : u = v := srt_inj p.2 q.2 fun k => by
      constructor
      · intro m
        rcases List.mem_cons.mp ((h k).mp (List.mem_cons_of_mem _ m)) with e | m'
        · have := p.1 k m
          omega
        · exact m'
      · intro m
        rcases List.mem_cons.mp ((h k).mpr (List.mem_cons_of_mem _ m)) with e | m'
        · have := q.1 k m
          omega
        · exact m'
    rw [this]
theorem Srt.inj {u v ls : List Int} (p : Srt u ls) (q : Srt v ls) : u = v := srt_inj p.1 q.1 fun k => (p.2 k).trans (q.2 k).symm
theorem len_sub : ∀ {l m : List Int}, l.Nodup → (∀ k ∈ l, k ∈ m) → l.length ≤ m.length
  | [], m, _, _ => Nat.zero_le _
  | a :: l, m, nd, h => by
    rw [List.nodup_cons] at nd
    have ha := h a List.mem_cons_self
    have := len_sub (l := l) (m := m.erase a) nd.2 fun k hk => by
      have ne : k ≠ a := fun e => nd.1 (e ▸ hk)
      exact (List.mem_erase_of_ne ne).mpr (h k (List.mem_cons_of_mem _ hk))
    have e := List.length_erase_of_mem ha
    have : 0 < m.length := List.length_pos_of_mem ha
    simp only [List.length_cons]
    omega
def ins (x : Int) : List Int → List Int
  | [] => [x]
  | y :: l => if x < y then x :: y :: l else if x = y then y :: l else y :: ins x l
def uniq : List Int → List Int
  | [] => []
  | x :: l => ins x (uniq l)
theorem Srt.len {u ls : List Int} (p : Srt u ls) : u.length ≤ ls.length := len_sub (pw_nodup p.1) fun k hk => (p.2 k).mp hk
end Rw
/-! sets of a tuple's ints: sorted, counted; places in a list; the least of a tuple -/
namespace PySem
end PySem
namespace Fx
open PySem PySem.Spec PyProof.Rows L2
/-! ### on data -/
end Fx
/-! what the printed texts name -/
namespace Fx
open PySem PySem.Spec PyProof.Rows L2
def noE : Expr := .Name "" ⟨0, 0, 0, 0⟩
def lamQ (q : Str) : Expr → LamS
  | .Lambda params body scope _ => ⟨q, params, body, scope⟩
  | e => ⟨q, default, e, default⟩
theorem QSs.out {X : Cx} {c : Cfg} {W : WX} {ss : List Stmt} {t : TS} {F : M Fl} (h : QSs X c W ss t F) : ∃ t, PSs X ss t ∧ DenS c W t F := ⟨t, h.pe, h.dn⟩
theorem QE.out {X : Cx} {c : Cfg} {W : WX} {e : Expr} {t : TE} {f : M S} (h : QE X c W e t f) : ∃ t, PE X e t ∧ Den c W t f := ⟨t, h.pe, h.dn⟩
end Fx
/-! the law's call -/
namespace Fx
open PySem PySem.Spec PyProof.Rows L2
open C8 (Cal Mak pe_c pe_mk)
open LamX (Tabs TabS TabB ExtN CodeO codeO_ne)
def spLawX (c : Cfg) : Sp := fun vs H Q _ => ∃ (a : Addr) (ns : List Int), vs = [.ref a] ∧ ns.length ≤ 63 ∧ SqL c.K H a (ns.map V.int) ∧ Tabs c.T H ∧ ∀ H', Q (.bl true) H'
def noTbl (H : Hp) : Hp := fun a => match H a with
  | some o => if isTbl o then none else some o
  | none => none
theorem noTbl_sub {H : Hp} : ∀ a o, noTbl H a = some o → H a = some o ∧ isTbl o = false := fun a o e => by
  unfold noTbl at e
  split at e
  · rename_i u h
    split at e
    · cases e
    · rename_i hb
      cases e
      exact ⟨h, by simpa using hb⟩
  · cases e
theorem noTbl_at {H : Hp} {a : Addr} {o : HO} (h : H a = some o) (n : isTbl o = false) : noTbl H a = some o := by
  unfold noTbl
  rw [h]
  simp [n]
theorem law_ok {P : Program} {w : World} {c : Cfg} {mg : Str → Option Value} {base : Heap} {CX : CXT} {k : Nat} {f : Addr} {fd : FuncData} {F : Fn} (pure : ∀ ns : List Int, ns.length ≤ 63 → ∃ ρ, F [.d (.scr ns)] = .ok (.d (.bl true)) ρ)
    (o : FnOk P w c.K mg base CX k f fd ["script"] (spF c F)) : FnOk P w c.K mg base CX k f fd ["script"] (spLawX c) := by
  refine o.imp fun vs H Q E h => ?_
  obtain ⟨a, ns, rfl, hl, hs, hT, q⟩ := h
  obtain ⟨ρ, e⟩ := pure ns hl
  refine ⟨⟨fun _ => none, fun _ => none⟩, [], [], [.d (.scr ns)], ⟨noTbl H, [], [], ⟨fun a o e => (noTbl_sub a o e).1, fun a o e => (noTbl_sub a o e).2, List.nodup_nil, fun p hp => by simp at hp, hT, (fun a o e => nomatch e), (fun a o e => nomatch e)⟩, .nil, .d (.scr ?_) .nil⟩, ?_⟩
  · rcases hs with (h | ⟨o, h⟩) | h
    · exact .inl (.inl (noTbl_at h rfl))
    · exact .inl (.inr ⟨o, noTbl_at h rfl⟩)
    · exact .inr h
  · rw [e]
    intro v σ' H' r
    obtain ⟨G, O, hv⟩ := r.one
    cases hv
    exact q H'
theorem cal_mk {P : Program} {w : World} {K : PySem.W.Frag} {mg : Str → Option Value} {base : Heap} {f : Addr} {fd : FuncData} {x : Str} {st : Stmt} {ps : List Str} {k : Nat} {sp : Sp} (F : Fun K x x st f fd) (hm : mg x = some (.ref f)) (b : Binds K fd ps []) (o : FnOk P w K mg base CX0 k f fd ps sp) : Cal P w K mg base k x sp [] := ⟨f, fd, ps, [], o, hm, F.kp, b, .nil⟩
end Fx
/-! heaps, without data: a heap's sifting only puts its items in another order, and it ends -/
namespace Fx.Hp
section
variable {α : Type} {lt : α → α → Bool} {vs : List α}
def hSwap (vs : List α) (i j : Nat) : List α := match vs[i]?, vs[j]? with
  | some x, some y => (vs.set i y).set j x
  | _, _ => vs
theorem swap_perm {i j : Nat} : (hSwap vs i j).Perm vs := by
  unfold hSwap
  split
  · rename_i x y hx hy
    obtain ⟨h1, rfl⟩ := List.getElem?_eq_some_iff.mp hx
    obtain ⟨h2, rfl⟩ := List.getElem?_eq_some_iff.mp hy
    exact List.set_set_perm h1 h2
  · exact .refl _
/-- the lesser of the two below a place -/
def below (lt : α → α → Bool) (vs : List α) (left : Nat) : Nat := if left + 1 < vs.length then (match vs[left]?, vs[left + 1]? with
    | some l, some r => if lt l r then left else left + 1
    | _, _ => left) else left
theorem below_lt {left : Nat} (h : left < vs.length) : left ≤ below lt vs left ∧ below lt vs left < vs.length := by
  unfold below
  split
  · split
    · split <;> omega
    · omega
  · omega
/-- is an item less than the one above it -/
def up (lt : α → α → Bool) (vs : List α) (pos : Nat) : Bool := match vs[pos]?, vs[(pos - 1) / 2]? with
  | some x, some p => lt x p
  | _, _ => false
def sift (lt : α → α → Bool) : Nat → List α → Bool → Nat → Nat → Int → Option (List α)
  | 0, _, _, _, _, _ => none
  | f + 1, vs, true, pos, top, after => if pos < vs.length / 2 then sift lt f (hSwap vs (below lt vs (2 * pos + 1)) pos) true (below lt vs (2 * pos + 1)) top after else sift lt f vs false pos top after
  | f + 1, vs, false, pos, top, after => if top < pos ∧ up lt vs pos = true then sift lt f (hSwap vs ((pos - 1) / 2) pos) false ((pos - 1) / 2) top after
    else if after < 0 then some vs else sift lt f vs true after.toNat after.toNat (after - 1)
def cost (n : Nat) (down : Bool) (pos : Nat) (after : Int) : Nat := (if down then (n - pos) + n + 2 else pos + 1) + (after + 1).toNat * (2 * n + 4)
theorem sift_some : ∀ {f : Nat} {vs : List α} {down : Bool} {pos top : Nat} {after : Int}, pos ≤ vs.length → after.toNat ≤ vs.length → cost vs.length down pos after < f → ∃ vs', sift lt f vs down pos top after = some vs' ∧ vs'.Perm vs
  | 0, _, _, _, _, _, _, _, h => by omega
  | f + 1, vs, true, pos, top, after, hp, ha, h => by
    unfold sift
    unfold cost at h
    rw [if_pos rfl] at h
    split
    · rename_i q
      have hl : 2 * pos + 1 < vs.length := by omega
      obtain ⟨b1, b2⟩ := below_lt (lt := lt) hl
      have pm := swap_perm (vs := vs) (i := below lt vs (2 * pos + 1)) (j := pos)
      obtain ⟨vs', h1, h2⟩ := sift_some (f := f) (vs := hSwap vs (below lt vs (2 * pos + 1)) pos) (down := true) (pos := below lt vs (2 * pos + 1)) (top := top) (after := after) (by rw [pm.length_eq]; omega) (by rw [pm.length_eq]; exact ha) (by
        rw [pm.length_eq]
        unfold cost
        rw [if_pos rfl]
        omega)
      exact ⟨vs', h1, h2.trans pm⟩
    · exact sift_some (f := f) hp ha (by
        unfold cost
        rw [if_neg (by simp)]
        omega)
  | f + 1, vs, false, pos, top, after, hp, ha, h => by
    unfold sift
    unfold cost at h
    rw [if_neg (by simp)] at h
    split
    · rename_i q
      have pm := swap_perm (vs := vs) (i := (pos - 1) / 2) (j := pos)
      obtain ⟨vs', h1, h2⟩ := sift_some (f := f) (vs := hSwap vs ((pos - 1) / 2) pos) (down := false) (pos := (pos - 1) / 2) (top := top) (after := after) (by rw [pm.length_eq]; omega) (by rw [pm.length_eq]; exact ha) (by
        rw [pm.length_eq]
        unfold cost
        rw [if_neg (by simp)]
        omega)
      exact ⟨vs', h1, h2.trans pm⟩
    · split
      · exact ⟨vs, rfl, .refl _⟩
      · refine sift_some (f := f) ha (by omega) ?_
        unfold cost
        rw [if_pos rfl]
        have e1 : (after + 1).toNat = after.toNat + 1 := by omega
        have e2 : (after - 1 + 1).toNat = after.toNat := by omega
        rw [e1, Nat.add_mul, Nat.one_mul] at h
        rw [e2]
        omega
end
end Fx.Hp
/-! heapify and heappop of a list of one item at most -/
namespace Fx
open PySem PySem.Spec PyProof.Rows L2
namespace HQ
theorem entry_heapify : entryFor table "_heapq.heapify" = some Builtin.«_heapq.heapify» := entryFor_of_tree (by kernel_rfl)
theorem kind_heapify : builtinKind "_heapq.heapify" = none := by kernel_rfl
theorem plain_heapify : plainId "_heapq.heapify" = true := by decide +kernel
theorem args_heapify (a : Value) : argsOk "_heapq.heapify" ⟨[a], []⟩ := by unfold argsOk; kernel_rfl
theorem entry_heappop : entryFor table "_heapq.heappop" = some Builtin.«_heapq.heappop» := entryFor_of_tree (by kernel_rfl)
theorem kind_heappop : builtinKind "_heapq.heappop" = none := by kernel_rfl
theorem plain_heappop : plainId "_heapq.heappop" = true := by decide +kernel
theorem args_heappop (a : Value) : argsOk "_heapq.heappop" ⟨[a], []⟩ := by unfold argsOk; kernel_rfl
end HQ
theorem heapify_meets (a : Addr) : Meets (Builtin.«_heapq.heapify» ⟨[.ref a], []⟩) (fun A R s => ∃ (vs : Array Value) (n : Nat), s.heap.get? a = some (seqObj "list" vs n) ∧ vs.size < 2 ∧ R (.ok (.ret .none)) s) :=
  .of_wp fun prog w A R s h => by
    obtain ⟨hp, g, d, tk, os⟩ := s
    obtain ⟨vs, n, ho, hz, q⟩ := h
    have isub := sub_list_self
    have ho : hp.get? a = some { cls := .type "list", data := .seq vs n } := ho
    have ty : (⟨hp, g, d, tk, os⟩ : Shared).TypeIs (.ref a) "list" := ⟨_, ho, rfl⟩
    have h1 : ¬ vs.size > 2500 := by omega
    wp_walk
    exact ⟨_, rfl, q⟩
theorem heappop_meets (a : Addr) : Meets (Builtin.«_heapq.heappop» ⟨[.ref a], []⟩) (fun A R s => ∃ (v : Value) (n : Nat), s.heap.get? a = some (seqObj "list" #[v] n) ∧ R (.ok (.ret v)) { s with heap := s.heap.update a (Obj.mapSeq (·.pop)) }) :=
  .of_wp fun prog w A R s h => by
    obtain ⟨hp, g, d, tk, os⟩ := s
    obtain ⟨v, n, ho, q⟩ := h
    have isub := sub_list_self
    have ho : hp.get? a = some { cls := .type "list", data := .seq #[v] n } := ho
    have ty : (⟨hp, g, d, tk, os⟩ : Shared).TypeIs (.ref a) "list" := ⟨_, ho, rfl⟩
    wp_walk
    exact ⟨_, rfl, q⟩
end Fx
/-! heapq: sifting in the model -/
namespace HQ
open PySem PySem.Spec PyProof.Rows L2
open Fx.Hp
theorem entry_sift : entryFor table "_heapq.heapify.sift" = some Builtin.«_heapq.heapify.sift» := entryFor_of_tree (by kernel_rfl)
theorem plain_sift : plainId "_heapq.heapify.sift" = true := by decide +kernel
section
variable {prog : Program} {w : World} {A : Around} {R : Result → Shared → Prop} {a : Addr} {J : List Value → Shared → Prop} {lt : Value → Value → Bool} {result : Value}
theorem sift_one (j1 : ∀ vs s, J vs s → vs.length ≤ sizeLine ∧ ∃ n, s.heap.get? a = some { cls := .type "list", data := .seq vs.toArray n })
    (j2 : ∀ vs s i j f t, J vs s → f vs.toArray = (hSwap vs i j).toArray → J (hSwap vs i j) { s with heap := s.heap.update a (Obj.mapSeq f), toks := t })
    (cmp : ∀ vs s x y (E : Value → Shared → Prop) (Q : Value → Shared → Prop), J vs s → x ∈ vs → y ∈ vs → Q (.bool (lt x y)) s → wpAny (model prog w) A.in1 (richCompare .Lt x y) Q E s)
    {vs : List Value} {pos top : Nat} {after : Int} {s : Shared} {t1 t2 t3 : Tok} (h : J vs s) (hp : pos < vs.length) (ht : top < pos) (hu : up lt vs pos = true)
    (q : ∀ s' u1 u2 u3, J (hSwap vs ((pos - 1) / 2) pos) s' → codeAny (model prog w) A (.builtin "_heapq.heapify.sift" ⟨[.ref a, .bool false, .bool false, .int ((pos - 1) / 2 : Nat) u1, .int (top : Nat) u2, result, .int after u3], []⟩) R s') :
    codeAny (model prog w) A (.builtin "_heapq.heapify.sift" ⟨[.ref a, .bool false, .bool false, .int (pos : Nat) t1, .int (top : Nat) t2, result, .int after t3], []⟩) R s := by
  obtain ⟨hz, n, ho⟩ := j1 vs s h
  refine codeAny_builtin entry_sift ?_
  rw [Around.under_plainId plain_sift _]
  obtain ⟨hp', g, d, tk, os⟩ := s
  have ho : hp'.get? a = some { cls := .type "list", data := .seq vs.toArray n } := ho
  obtain ⟨x, hx⟩ : ∃ x, vs[pos]? = some x := ⟨_, List.getElem?_eq_getElem hp⟩
  have hpl : (pos - 1) / 2 < vs.length := by omega
  obtain ⟨p, hpx⟩ : ∃ p, vs[(pos - 1) / 2]? = some p := ⟨_, List.getElem?_eq_getElem hpl⟩
  have hlt : lt x p = true := by
    unfold up at hu
    rw [hx, hpx] at hu
    exact hu
  have x1 : vs.toArray[((pos : Nat) : Int).toNat]? = some x := by rw [Int.toNat_natCast, List.getElem?_toArray, hx]
  have x2 : vs.toArray[(((pos : Nat) : Int).toNat - 1) / 2]? = some p := by rw [Int.toNat_natCast, List.getElem?_toArray, hpx]
  wp_walk
  rw [x1]
  dsimp only
  wp_walk
  rw [x2]
  dsimp only
  have c0 : ∀ {E : Value → Shared → Prop} {Q : Value → Shared → Prop}, Q (.bool true) ⟨hp', g, d, tk, os⟩ → wpAny (model prog w) A.in1 (richCompare .Lt x p) Q E ⟨hp', g, d, tk, os⟩ := fun q => cmp vs _ x p _ _ h (List.mem_of_getElem? hx) (List.mem_of_getElem? hpx) (by rw [hlt]; exact q)
  wp_walk using c0
  rw [x2]
  dsimp only
  wp_walk
  rw [x1]
  dsimp only
  have hsz : vs.toArray.size ≤ sizeLine := by rw [List.size_toArray]; exact hz
  have hsz' : ((vs.toArray.setIfInBounds (((pos : Nat) : Int).toNat - 1 |> (· / 2)) x).setIfInBounds ((pos : Nat) : Int).toNat p).size ≤ sizeLine + 1 := by
    rw [Array.size_setIfInBounds, Array.size_setIfInBounds]
    omega
  wp_walk using (wpAny_updateSeq ho rfl (hz := hsz) (_hz' := hsz'))
  refine ⟨plainId_quiet plain_sift _, ?_⟩
  refine q _ 0 0 0 (j2 vs _ _ _ _ tk h ?_)
  rw [Int.toNat_natCast]
  unfold hSwap
  rw [hpx, hx]
  simp
theorem sift_up (j1 : ∀ vs s, J vs s → vs.length ≤ sizeLine ∧ ∃ n, s.heap.get? a = some { cls := .type "list", data := .seq vs.toArray n })
    (cmp : ∀ vs s x y (E : Value → Shared → Prop) (Q : Value → Shared → Prop), J vs s → x ∈ vs → y ∈ vs → Q (.bool (lt x y)) s → wpAny (model prog w) A.in1 (richCompare .Lt x y) Q E s)
    {vs : List Value} {pos top : Nat} {after : Int} {s : Shared} {t1 t2 t3 : Tok} (h : J vs s) (hp : pos < vs.length) (hu : ¬ (top < pos ∧ up lt vs pos = true))
    (q1 : after < 0 → R (.ok (.ret result)) s)
    (q2 : ¬ after < 0 → ∀ u1 u2 u3, codeAny (model prog w) A (.builtin "_heapq.heapify.sift" ⟨[.ref a, .bool false, .bool true, .int (after.toNat : Nat) u1, .int (after.toNat : Nat) u2, result, .int (after - 1) u3], []⟩) R s) :
    codeAny (model prog w) A (.builtin "_heapq.heapify.sift" ⟨[.ref a, .bool false, .bool false, .int (pos : Nat) t1, .int (top : Nat) t2, result, .int after t3], []⟩) R s := by
  obtain ⟨hz, n, ho⟩ := j1 vs s h
  refine codeAny_builtin entry_sift ?_
  rw [Around.under_plainId plain_sift _]
  obtain ⟨hp', g, d, tk, os⟩ := s
  have ho : hp'.get? a = some { cls := .type "list", data := .seq vs.toArray n } := ho
  obtain ⟨x, hx⟩ : ∃ x, vs[pos]? = some x := ⟨_, List.getElem?_eq_getElem hp⟩
  have hpl : (pos - 1) / 2 < vs.length := by omega
  obtain ⟨p, hpx⟩ : ∃ p, vs[(pos - 1) / 2]? = some p := ⟨_, List.getElem?_eq_getElem hpl⟩
  have x1 : vs.toArray[((pos : Nat) : Int).toNat]? = some x := by rw [Int.toNat_natCast, List.getElem?_toArray, hx]
  have x2 : vs.toArray[(((pos : Nat) : Int).toNat - 1) / 2]? = some p := by rw [Int.toNat_natCast, List.getElem?_toArray, hpx]
  by_cases ht : top < pos
  · have hlt : lt x p = false := by
      have hu : up lt vs pos = false := by
        cases e : up lt vs pos with
        | false => rfl
        | true => exact absurd ⟨ht, e⟩ hu
      unfold up at hu
      rw [hx, hpx] at hu
      exact hu
    have c0 : ∀ {E : Value → Shared → Prop} {Q : Value → Shared → Prop}, Q (.bool false) ⟨hp', g, d, tk, os⟩ → wpAny (model prog w) A.in1 (richCompare .Lt x p) Q E ⟨hp', g, d, tk, os⟩ := fun q => cmp vs _ x p _ _ h (List.mem_of_getElem? hx) (List.mem_of_getElem? hpx) (by rw [hlt]; exact q)
    by_cases ha : after < 0
    · wp_walk
      rw [x1]
      dsimp only
      wp_walk
      rw [x2]
      dsimp only
      wp_walk using c0
      exact q1 ha
    · wp_walk
      rw [x1]
      dsimp only
      wp_walk
      rw [x2]
      dsimp only
      wp_walk using c0
      exact ⟨plainId_quiet plain_sift _, q2 ha 0 0 0⟩
  · by_cases ha : after < 0
    · wp_walk
      exact q1 ha
    · wp_walk
      exact ⟨plainId_quiet plain_sift _, q2 ha 0 0 0⟩
/-- down, there is something below -/
theorem sift_down (j1 : ∀ vs s, J vs s → vs.length ≤ sizeLine ∧ ∃ n, s.heap.get? a = some { cls := .type "list", data := .seq vs.toArray n })
    (j2 : ∀ vs s i j f t, J vs s → f vs.toArray = (hSwap vs i j).toArray → J (hSwap vs i j) { s with heap := s.heap.update a (Obj.mapSeq f), toks := t })
    (cmp : ∀ vs s x y (E : Value → Shared → Prop) (Q : Value → Shared → Prop), J vs s → x ∈ vs → y ∈ vs → Q (.bool (lt x y)) s → wpAny (model prog w) A.in1 (richCompare .Lt x y) Q E s)
    {vs : List Value} {pos top : Nat} {after : Int} {s : Shared} {t1 t2 t3 : Tok} (h : J vs s) (hp : pos < vs.length / 2)
    (q : ∀ s' u1 u2 u3, J (hSwap vs (below lt vs (2 * pos + 1)) pos) s' → codeAny (model prog w) A (.builtin "_heapq.heapify.sift" ⟨[.ref a, .bool false, .bool true, .int (below lt vs (2 * pos + 1) : Nat) u1, .int (top : Nat) u2, result, .int after u3], []⟩) R s') :
    codeAny (model prog w) A (.builtin "_heapq.heapify.sift" ⟨[.ref a, .bool false, .bool true, .int (pos : Nat) t1, .int (top : Nat) t2, result, .int after t3], []⟩) R s := by
  obtain ⟨hz, n, ho⟩ := j1 vs s h
  refine codeAny_builtin entry_sift ?_
  rw [Around.under_plainId plain_sift _]
  obtain ⟨hp', g, d, tk, os⟩ := s
  have ho : hp'.get? a = some { cls := .type "list", data := .seq vs.toArray n } := ho
  have hsz : vs.toArray.size ≤ sizeLine := by rw [List.size_toArray]; exact hz
  have h1 : 2 * pos + 1 < vs.length := by omega
  obtain ⟨z, hz0⟩ : ∃ z, vs[pos]? = some z := ⟨_, List.getElem?_eq_getElem (by omega)⟩
  obtain ⟨l, hl⟩ : ∃ l, vs[2 * pos + 1]? = some l := ⟨_, List.getElem?_eq_getElem h1⟩
  have x0 : vs.toArray[((pos : Nat) : Int).toNat]? = some z := by rw [Int.toNat_natCast, List.getElem?_toArray, hz0]
  have x1 : vs.toArray[2 * ((pos : Nat) : Int).toNat + 1]? = some l := by rw [Int.toNat_natCast, List.getElem?_toArray, hl]
  have c1 : ((pos : Nat) : Int).toNat < vs.toArray.size / 2 := by rw [Int.toNat_natCast, List.size_toArray]; exact hp
  have sw : ∀ (i : Nat) (x : Value), ((vs.toArray.setIfInBounds i z).setIfInBounds ((pos : Nat) : Int).toNat x).size ≤ sizeLine + 1 := fun i x => by
    rw [Array.size_setIfInBounds, Array.size_setIfInBounds]
    omega
  have fin : ∀ (i : Nat) (x : Value), vs[i]? = some x → (vs.toArray.setIfInBounds i z).setIfInBounds ((pos : Nat) : Int).toNat x = (hSwap vs i pos).toArray := fun i x hi => by
    rw [Int.toNat_natCast]
    unfold hSwap
    rw [hi, hz0]
    simp
  by_cases h2 : 2 * pos + 1 + 1 < vs.length
  · obtain ⟨r, hr⟩ : ∃ r, vs[2 * pos + 1 + 1]? = some r := ⟨_, List.getElem?_eq_getElem h2⟩
    have x2 : vs.toArray[2 * ((pos : Nat) : Int).toNat + 1 + 1]? = some r := by rw [Int.toNat_natCast, List.getElem?_toArray, hr]
    have c2 : 2 * ((pos : Nat) : Int).toNat + 1 + 1 < vs.toArray.size := by rw [Int.toNat_natCast, List.size_toArray]; exact h2
    have eb : below lt vs (2 * pos + 1) = if lt l r then 2 * pos + 1 else 2 * pos + 1 + 1 := by
      unfold below
      rw [if_pos h2, hl, hr]
    rw [eb] at q
    cases hlt : lt l r with
    | true =>
      rw [hlt, if_pos rfl] at q
      have c0 : ∀ {E : Value → Shared → Prop} {Q : Value → Shared → Prop}, Q (.bool true) ⟨hp', g, d, tk, os⟩ → wpAny (model prog w) A.in1 (richCompare .Lt l r) Q E ⟨hp', g, d, tk, os⟩ := fun q => cmp vs _ l r _ _ h (List.mem_of_getElem? hl) (List.mem_of_getElem? hr) (by rw [hlt]; exact q)
      wp_walk
      rw [x1]
      dsimp only
      wp_walk
      rw [x2]
      dsimp only
      wp_walk using c0
      rw [x1]
      dsimp only
      wp_walk
      rw [x0]
      dsimp only
      wp_walk using (wpAny_updateSeq ho rfl (hz := hsz) (_hz' := sw _ _))
      refine ⟨plainId_quiet plain_sift _, ?_⟩
      exact q _ 0 0 0 (j2 vs _ _ _ _ tk h (fin _ _ hl))
    | false =>
      rw [hlt, if_neg (by simp)] at q
      have c0 : ∀ {E : Value → Shared → Prop} {Q : Value → Shared → Prop}, Q (.bool false) ⟨hp', g, d, tk, os⟩ → wpAny (model prog w) A.in1 (richCompare .Lt l r) Q E ⟨hp', g, d, tk, os⟩ := fun q => cmp vs _ l r _ _ h (List.mem_of_getElem? hl) (List.mem_of_getElem? hr) (by rw [hlt]; exact q)
      wp_walk
      rw [x1]
      dsimp only
      wp_walk
      rw [x2]
      dsimp only
      wp_walk using c0
      rw [x2]
      dsimp only
      wp_walk
      rw [x0]
      dsimp only
      wp_walk using (wpAny_updateSeq ho rfl (hz := hsz) (_hz' := sw _ _))
      refine ⟨plainId_quiet plain_sift _, ?_⟩
      exact q _ 0 0 0 (j2 vs _ _ _ _ tk h (fin _ _ hr))
  · have eb : below lt vs (2 * pos + 1) = 2 * pos + 1 := by
      unfold below
      rw [if_neg h2]
    rw [eb] at q
    have c2 : ¬ 2 * ((pos : Nat) : Int).toNat + 1 + 1 < vs.toArray.size := by rw [Int.toNat_natCast, List.size_toArray]; exact h2
    wp_walk
    rw [x1]
    dsimp only
    wp_walk
    rw [x0]
    dsimp only
    wp_walk using (wpAny_updateSeq ho rfl (hz := hsz) (_hz' := sw _ _))
    refine ⟨plainId_quiet plain_sift _, ?_⟩
    exact q _ 0 0 0 (j2 vs _ _ _ _ tk h (fin _ _ hl))
end
end HQ
/-! heapq: sifting in the model, to its end -/
namespace HQ
open PySem PySem.Spec PyProof.Rows L2
open Fx.Hp
section
variable {prog : Program} {w : World} {A : Around} {R : Result → Shared → Prop} {a : Addr} {J : List Value → Shared → Prop} {lt : Value → Value → Bool} {result : Value}
theorem sift_flat (j1 : ∀ vs s, J vs s → vs.length ≤ sizeLine ∧ ∃ n, s.heap.get? a = some { cls := .type "list", data := .seq vs.toArray n })
    {vs : List Value} {pos top : Nat} {after : Int} {s : Shared} {t1 t2 t3 : Tok} (h : J vs s) (hp : ¬ pos < vs.length / 2)
    (q : ∀ u1 u2 u3, codeAny (model prog w) A (.builtin "_heapq.heapify.sift" ⟨[.ref a, .bool false, .bool false, .int (pos : Nat) u1, .int (top : Nat) u2, result, .int after u3], []⟩) R s) :
    codeAny (model prog w) A (.builtin "_heapq.heapify.sift" ⟨[.ref a, .bool false, .bool true, .int (pos : Nat) t1, .int (top : Nat) t2, result, .int after t3], []⟩) R s := by
  obtain ⟨hz, n, ho⟩ := j1 vs s h
  refine codeAny_builtin entry_sift ?_
  rw [Around.under_plainId plain_sift _]
  obtain ⟨hp', g, d, tk, os⟩ := s
  have ho : hp'.get? a = some { cls := .type "list", data := .seq vs.toArray n } := ho
  have c1 : ¬ ((pos : Nat) : Int).toNat < vs.toArray.size / 2 := by rw [Int.toNat_natCast, List.size_toArray]; exact hp
  wp_walk
  exact ⟨plainId_quiet plain_sift _, q 0 0 0⟩
theorem codeAny_sift (j1 : ∀ vs s, J vs s → vs.length ≤ sizeLine ∧ ∃ n, s.heap.get? a = some { cls := .type "list", data := .seq vs.toArray n })
    (j2 : ∀ vs s i j f t, J vs s → f vs.toArray = (hSwap vs i j).toArray → J (hSwap vs i j) { s with heap := s.heap.update a (Obj.mapSeq f), toks := t })
    (cmp : ∀ vs s x y (E : Value → Shared → Prop) (Q : Value → Shared → Prop), J vs s → x ∈ vs → y ∈ vs → Q (.bool (lt x y)) s → wpAny (model prog w) A.in1 (richCompare .Lt x y) Q E s) :
    ∀ {fuel : Nat} {vs vs' : List Value} {down : Bool} {pos top : Nat} {after : Int} {s : Shared} {t1 t2 t3 : Tok}, J vs s → pos < vs.length → after.toNat < vs.length → sift lt fuel vs down pos top after = some vs' → (∀ s', J vs' s' → R (.ok (.ret result)) s') →
    codeAny (model prog w) A (.builtin "_heapq.heapify.sift" ⟨[.ref a, .bool false, .bool down, .int (pos : Nat) t1, .int (top : Nat) t2, result, .int after t3], []⟩) R s
  | 0, vs, vs', down, pos, top, after, s, t1, t2, t3, h, hp, ha, e, q => by cases e
  | f + 1, vs, vs', true, pos, top, after, s, t1, t2, t3, h, hp, ha, e, q => by
    unfold sift at e
    split at e
    · rename_i hc
      refine sift_down j1 j2 cmp h hc fun s' u1 u2 u3 h' => ?_
      have pm := swap_perm (vs := vs) (i := below lt vs (2 * pos + 1)) (j := pos)
      exact codeAny_sift j1 j2 cmp (fuel := f) h' (by rw [pm.length_eq]; exact (below_lt (by omega)).2) (by rw [pm.length_eq]; exact ha) e q
    · rename_i hc
      exact sift_flat j1 h hc fun u1 u2 u3 => codeAny_sift j1 j2 cmp (fuel := f) h hp ha e q
  | f + 1, vs, vs', false, pos, top, after, s, t1, t2, t3, h, hp, ha, e, q => by
    unfold sift at e
    split at e
    · rename_i hc
      refine sift_one j1 j2 cmp h hp hc.1 hc.2 fun s' u1 u2 u3 h' => ?_
      have pm := swap_perm (vs := vs) (i := (pos - 1) / 2) (j := pos)
      exact codeAny_sift j1 j2 cmp (fuel := f) h' (by rw [pm.length_eq]; omega) (by rw [pm.length_eq]; exact ha) e q
    · rename_i hc
      refine sift_up j1 cmp h hp hc (fun hn => ?_) fun hn u1 u2 u3 => ?_
      · rw [if_pos hn] at e
        cases e
        exact q s h
      · rw [if_neg hn] at e
        exact codeAny_sift j1 j2 cmp (fuel := f) h ha (by omega) e q
end
end HQ
/-! heapq.heappush in the model -/
namespace HQ
open PySem PySem.Spec PyProof.Rows L2
open Fx.Hp
theorem entry_push : entryFor table "_heapq.heappush" = some Builtin.«_heapq.heappush» := entryFor_of_tree (by kernel_rfl)
theorem kind_push : builtinKind "_heapq.heappush" = none := by kernel_rfl
theorem plain_push : plainId "_heapq.heappush" = true := by decide +kernel
theorem args_push (a b : Value) : argsOk "_heapq.heappush" ⟨[a, b], []⟩ := by unfold argsOk; kernel_rfl
section
variable {prog : Program} {w : World} {A : Around} {R : Result → Shared → Prop} {a : Addr} {J : List Value → Shared → Prop} {lt : Value → Value → Bool}
theorem push_wp (j1 : ∀ vs s, J vs s → vs.length ≤ sizeLine ∧ ∃ n, s.heap.get? a = some { cls := .type "list", data := .seq vs.toArray n })
    (j2 : ∀ vs s i j f t, J vs s → f vs.toArray = (hSwap vs i j).toArray → J (hSwap vs i j) { s with heap := s.heap.update a (Obj.mapSeq f), toks := t })
    (cmp : ∀ vs s x y (E : Value → Shared → Prop) (Q : Value → Shared → Prop), J vs s → x ∈ vs → y ∈ vs → Q (.bool (lt x y)) s → wpAny (model prog w) A.in1 (richCompare .Lt x y) Q E s)
    {vs vs' : List Value} {y : Value} {s : Shared} {n f : Nat} (ho : s.heap.get? a = some { cls := .type "list", data := .seq vs.toArray n }) (hz : vs.length < sizeLine)
    (hJ : ∀ t, J (vs ++ [y]) { s with heap := s.heap.update a (Obj.mapSeq (·.push y)), toks := t }) (e : sift lt f (vs ++ [y]) false vs.length 0 (-1) = some vs') (q : ∀ s', J vs' s' → R (.ok (.ret .none)) s') :
    wpAny (model prog w) A.in1 (Builtin.«_heapq.heappush» ⟨[.ref a, y], []⟩) (fun fin s' => match fin with | .done f => R (.ok f) s' | .again c' => c'.quiet = true ∧ codeAny (model prog w) A c' R s') (fun e s' => R (.error e) s') s := by
  obtain ⟨hp, g, d, tk, os⟩ := s
  have isub := sub_list_self
  have ho : hp.get? a = some { cls := .type "list", data := .seq vs.toArray n } := ho
  have ty : (⟨hp, g, d, tk, os⟩ : Shared).TypeIs (.ref a) "list" := ⟨_, ho, rfl⟩
  have hsz : vs.toArray.size ≤ sizeLine := by rw [List.size_toArray]; omega
  have hsz' : (vs.toArray.push y).size ≤ sizeLine + 1 := by rw [Array.size_push]; omega
  wp_walk using (wpAny_updateSeq ho rfl (hz := hsz) (_hz' := hsz'))
  refine ⟨plainId_quiet plain_sift _, ?_⟩
  have e1 : (vs.toArray.push y).size - 1 = vs.length := by rw [Array.size_push, List.size_toArray]; omega
  show codeAny (model prog w) A (.builtin "_heapq.heapify.sift" ⟨[.ref a, .bool false, .bool false, rawInt (((vs.toArray.push y).size - 1 : Nat) : Int), rawInt ((0 : Nat) : Int), .none, rawInt (-1)], []⟩) R _
  rw [e1]
  exact codeAny_sift j1 j2 cmp (fuel := f) (hJ tk) (by simp) (by simp) e q
theorem heapify_wp (j1 : ∀ vs s, J vs s → vs.length ≤ sizeLine ∧ ∃ n, s.heap.get? a = some { cls := .type "list", data := .seq vs.toArray n })
    (j2 : ∀ vs s i j f t, J vs s → f vs.toArray = (hSwap vs i j).toArray → J (hSwap vs i j) { s with heap := s.heap.update a (Obj.mapSeq f), toks := t })
    (cmp : ∀ vs s x y (E : Value → Shared → Prop) (Q : Value → Shared → Prop), J vs s → x ∈ vs → y ∈ vs → Q (.bool (lt x y)) s → wpAny (model prog w) A.in1 (richCompare .Lt x y) Q E s)
    {vs vs' : List Value} {s : Shared} {f : Nat} (hJ : J vs s) (h2 : 2 ≤ vs.length) (h3 : vs.length ≤ 2500) (e : sift lt f vs true (vs.length / 2 - 1) (vs.length / 2 - 1) ((vs.length / 2 : Nat) - 2 : Int) = some vs') (q : ∀ s', J vs' s' → R (.ok (.ret .none)) s') :
    wpAny (model prog w) A.in1 (Builtin.«_heapq.heapify» ⟨[.ref a], []⟩) (fun fin s' => match fin with | .done f => R (.ok f) s' | .again c' => c'.quiet = true ∧ codeAny (model prog w) A c' R s') (fun e s' => R (.error e) s') s := by
  obtain ⟨hz, n, ho⟩ := j1 vs s hJ
  obtain ⟨hp, g, d, tk, os⟩ := s
  have isub := sub_list_self
  have ho : hp.get? a = some { cls := .type "list", data := .seq vs.toArray n } := ho
  have ty : (⟨hp, g, d, tk, os⟩ : Shared).TypeIs (.ref a) "list" := ⟨_, ho, rfl⟩
  have c1 : ¬ vs.toArray.size > 2500 := by rw [List.size_toArray]; omega
  have c2 : ¬ vs.toArray.size < 2 := by rw [List.size_toArray]; omega
  wp_walk
  refine ⟨plainId_quiet plain_sift _, ?_⟩
  show codeAny (model prog w) A (.builtin "_heapq.heapify.sift" ⟨[.ref a, .bool false, .bool true, rawInt ((vs.toArray.size / 2 - 1 : Nat) : Int), rawInt ((vs.toArray.size / 2 - 1 : Nat) : Int), .none, rawInt ((vs.toArray.size / 2 : Nat) - 2 : Int)], []⟩) R _
  rw [List.size_toArray]
  exact codeAny_sift j1 j2 cmp (fuel := f) hJ (by omega) (by omega) e q
theorem pop_wp (j1 : ∀ vs s, J vs s → vs.length ≤ sizeLine ∧ ∃ n, s.heap.get? a = some { cls := .type "list", data := .seq vs.toArray n })
    (j2 : ∀ vs s i j f t, J vs s → f vs.toArray = (hSwap vs i j).toArray → J (hSwap vs i j) { s with heap := s.heap.update a (Obj.mapSeq f), toks := t })
    (cmp : ∀ vs s x y (E : Value → Shared → Prop) (Q : Value → Shared → Prop), J vs s → x ∈ vs → y ∈ vs → Q (.bool (lt x y)) s → wpAny (model prog w) A.in1 (richCompare .Lt x y) Q E s)
    {x l : Value} {mid vs' : List Value} {s : Shared} {n f : Nat} (ho : s.heap.get? a = some { cls := .type "list", data := .seq (x :: mid ++ [l]).toArray n }) (hz : mid.length + 2 ≤ sizeLine)
    (hJ : ∀ t, J (l :: mid) { s with heap := (s.heap.update a (Obj.mapSeq (·.pop))).update a (Obj.mapSeq (·.setIfInBounds 0 l)), toks := t }) (e : sift lt f (l :: mid) true 0 0 (-1) = some vs') (q : ∀ s', J vs' s' → R (.ok (.ret x)) s') :
    wpAny (model prog w) A.in1 (Builtin.«_heapq.heappop» ⟨[.ref a], []⟩) (fun fin s' => match fin with | .done f => R (.ok f) s' | .again c' => c'.quiet = true ∧ codeAny (model prog w) A c' R s') (fun e s' => R (.error e) s') s := by
  obtain ⟨hp, g, d, tk, os⟩ := s
  have isub := sub_list_self
  have ho : hp.get? a = some { cls := .type "list", data := .seq (x :: mid ++ [l]).toArray n } := ho
  have ty : (⟨hp, g, d, tk, os⟩ : Shared).TypeIs (.ref a) "list" := ⟨_, ho, rfl⟩
  have hsz : (x :: mid ++ [l]).toArray.size ≤ sizeLine := by rw [List.size_toArray]; simp; omega
  have hsz' : ((x :: mid ++ [l]).toArray.pop).size ≤ sizeLine + 1 := by rw [Array.size_pop]; omega
  have hb : (x :: mid ++ [l]).toArray.back? = some l := by
    rw [List.back?_toArray, show x :: mid ++ [l] = (x :: mid) ++ [l] from rfl, List.getLast?_append]
    rfl
  have h0 : (x :: mid ++ [l]).toArray[0]? = some x := by simp
  have h1 : ¬ ((x :: mid ++ [l]).toArray.size == 1) = true := by simp
  wp_walk
  rw [hb]
  dsimp only
  have ho2 := PySem.IsL.update ho (·.pop)
  have hs2 : ((x :: mid ++ [l]).toArray.pop).size ≤ sizeLine := by
    rw [Array.size_pop]
    omega
  have hs3 : (((x :: mid ++ [l]).toArray.pop).setIfInBounds 0 l).size ≤ sizeLine + 1 := by
    rw [Array.size_setIfInBounds]
    omega
  wp_walk using (wpAny_updateSeq ho rfl (hz := hsz) (_hz' := hsz')), (wpAny_updateSeq ho2 rfl (hz := hs2) (_hz' := hs3))
  refine ⟨plainId_quiet plain_sift _, ?_⟩
  show codeAny (model prog w) A (.builtin "_heapq.heapify.sift" ⟨[.ref a, .bool false, .bool true, rawInt ((0 : Nat) : Int), rawInt ((0 : Nat) : Int), (x :: mid ++ [l]).toArray[0], rawInt (-1)], []⟩) R _
  have ex : (x :: mid ++ [l]).toArray[0] = x := by simp
  rw [ex]
  exact codeAny_sift j1 j2 cmp (fuel := f) (hJ tk) (by simp) (by simp) e q
end
end HQ
/-! defs that raise, try .. except X -/
namespace Fx
open PySem PySem.Spec PyProof.Rows L2
open C8 (Cal Mak pe_c pe_mk)
end Fx
/-! tuple(range(n)), list(range(n)), a starred element, reversed(xs) -/
namespace Fx
open PySem PySem.Spec PyProof.Rows L2
open C8 (Cal Mak pe_c pe_mk)
open StX (tStar pa_star)
section
variable {c : Cfg} {B : Base} {W : WX} {ts : En} {vs : List (Option V)} {ρ : En} {σ : L2.St} {H : Hp} {ta te : TE} {fa fe : M S} {tA : TA} {fA fr : M (List D)}
/-! ### tuple(range(n)) -/
/-! ### (.., *xs, ..) -/
def aStar (fe : M S) (fr : M (List D)) : M (List D) := fun ρ => (dv fe ρ).then fun x ρ1 => match itemsD x with
  | some ds => (fr ρ1).then fun es ρ2 => .ok (ds ++ es) ρ2
  | none => .stuck
theorem Rep.spread {x : D} {v : V} {ds : List D} (e : itemsD x = some ds) (r : Rep c B (some (.d x) :: ts) (some v :: vs) ρ σ H) : ∃ a us, v = .ref a ∧ SqI c.K (isLst x) H a us ∧ us.length = ds.length ∧ Rep c B (tmp ds ++ ts) (tmv us ++ vs) ρ σ H := by
  obtain ⟨G, O, hv⟩ := r.top
  obtain ⟨a, us, rfl, h1, k⟩ := hv.seq O.sub e
  obtain ⟨G', o1, o2, kk, g1, g2⟩ := r
  cases g1 with
  | d g0 g1 =>
    obtain ⟨a', us', e1, h1', k'⟩ := g0.seq kk.sub e
    cases e1
    refine ⟨a, us', rfl, h1', k'.length, G', o1, o2, kk, ?_, g2⟩
    have := (k'.rev).sl (B := B) (H := H) g1
    unfold tmp tmv
    exact this
theorem den_star (he : Den c W te fe) (hr : DenA c W tA fr) : DenA c W (tStar c.K te tA) (aStar fe fr) := fun B ts vs ρ σ H Q r q => by
  unfold aStar at q
  rw [post_then] at q
  refine he.dv r (q.imp1 fun x ρ1 q v H1 r1 => ?_)
  have q : Post (OkA c B ts vs σ Q) (ErrP c W B ts vs σ) (match itemsD x with
    | some ds => (fr ρ1).then fun es ρ2 => .ok (ds ++ es) ρ2
    | none => .stuck) := q
  cases e : itemsD x with
  | none => rw [e] at q; exact q.elim
  | some ds =>
    rw [e] at q
    have q : Post (OkA c B ts vs σ Q) (ErrP c W B ts vs σ) ((fr ρ1).then fun es ρ2 => .ok (ds ++ es) ρ2) := q
    rw [post_then] at q
    obtain ⟨a, us, rfl, h1, hl, r2⟩ := Rep.spread e r1
    refine ⟨a, us, rfl, ?_, ?_⟩
    · cases hx : isLst x with
      | true => rw [hx] at h1; exact .inr h1
      | false => rw [hx] at h1; exact .inl h1
    · refine hr B _ _ ρ1 σ H1 _ r2 (q.imp (fun es ρ2 q ws H2 hl2 r3 => ?_) fun e' ρ' q k d H' he' r' => q k d H' he' (r'.dropN hl))
      refine q (us ++ ws) H2 (by rw [List.length_append, List.length_append, hl, hl2]) ?_
      unfold tmp tmv at r3 ⊢
      rw [List.reverse_append, List.map_append, List.reverse_append, List.map_append, List.append_assoc, List.append_assoc]
      exact r3
/-! ### reversed(xs) -/
end
section
variable {X : Cx} {c : Cfg} {W : WX} {a e tg : Expr} {es : List Expr} {ta te : TE} {tA : TA} {fa fe : M S} {fA fr : M (List D)} {pos p p2 pos2 : Pos}
theorem a_star (h : QE X c W e te fe) (k : QA X c W es tA fr) (hK : X.K = c.K := by rfl) (hs : starEach (.Starred e p :: es) X.env = (true, eval e X.env) :: starEach es X.env := by rfl) : QA X c W (.Starred e p :: es) (tStar c.K te tA) (aStar fe fr) := by
  obtain ⟨h1, h2⟩ := h; obtain ⟨k1, k2⟩ := k
  exact ⟨hK ▸ pa_star h1 k1 hs, den_star h2 k2⟩
end
end Fx
/-! dicts whose objects are known: keys ints and texts, or tuples: read, written -/
namespace Fx
open PySem PySem.Spec PyProof.Rows L2
open C8 (Cal Mak pe_c pe_mk)
/-! ### keys -/
def isKey : D → Bool
  | .int _ => true
  | .str _ => true
  | _ => false
def isKeyT : D → Bool
  | .tup ds => match nkDs ds with
    | some ks => decide (NestedKey.depthAll ks + 1 ≤ 8)
    | none => false
  | _ => false
def keyEq : D → D → Bool
  | .int i, .int j => decide (i = j)
  | .str x, .str y => decide (x = y)
  | .tup xs, .tup ys => match nkDs xs, nkDs ys with
    | some a, some b => NestedKey.beqAll a b
    | _, _ => false
  | _, _ => false
theorem keyEq_keyD {k k' : Key} : keyEq (keyD k) (keyD k') = decide (k = k') := by
  cases k <;> cases k' <;> simp [keyEq, keyD]
/-- the place of a key -/
def keyAt (ks : List D) (k : D) : Option Nat := ks.findIdx? (keyEq k)
def hasKey (ks : List D) (k : D) : Bool := ks.any (keyEq k)
/-- a key that the dict can be asked for -/
def homog (ks : List D) (k : D) : Bool := (isKey k && ks.all isKey) || (isKeyT k && ks.all isKeyT)
def putKs {α : Type} (ks : List D) (k : D) (l : List α) (x : α) : List α := if hasKey ks k then l else l ++ [x]
def putVs {α : Type} (ks : List D) (k : D) (l : List α) (x : α) : List α := if hasKey ks k then List.zipWith (fun k' d => if keyEq k k' then x else d) ks l else l ++ [x]
theorem find_at {β : Type} (q : β → Bool) : ∀ l : List β, l.find? q = (l.findIdx? q).bind fun i => l[i]?
  | [] => rfl
  | x :: l => by
    rw [List.find?_cons, List.findIdx?_cons]
    cases e : q x with
    | true => simp
    | false =>
      simp only [Bool.false_eq_true, if_false]
      rw [find_at q l]
      cases l.findIdx? q <;> simp
theorem idx_map {α β : Type} {p : α → Bool} {q : β → Bool} {l1 : List α} {l2 : List β} (h : l1.map p = l2.map q) : l1.findIdx? p = l2.findIdx? q := by
  have e1 := List.findIdx?_map (f := p) (l := l1) (p := id)
  have e2 := List.findIdx?_map (f := q) (l := l2) (p := id)
  rw [h] at e1
  exact e1.symm.trans e2
theorem any_map2 {α β : Type} {p : α → Bool} {q : β → Bool} {l1 : List α} {l2 : List β} (h : l1.map p = l2.map q) : l1.any p = l2.any q := by
  have e1 : (l1.map p).any id = l1.any p := by rw [List.any_map]; rfl
  have e2 : (l2.map q).any id = l2.any q := by rw [List.any_map]; rfl
  rw [← e1, ← e2, h]
theorem any_idx {α : Type} {p : α → Bool} : ∀ {l : List α}, l.any p = (l.findIdx? p).isSome
  | [] => rfl
  | x :: l => by
    rw [List.any_cons, List.findIdx?_cons]
    cases e : p x with
    | true => rfl
    | false =>
      rw [any_idx (l := l)]
      simp only [Bool.false_or, Bool.false_eq_true, if_false, Option.isSome_map]
theorem key_of {c : Cfg} {G : Hp} {v : V} {x : D} (h : Rp c G v x) (e : isKey x = true) : ∃ k : Key, x = keyD k ∧ v = kV k := by
  cases x <;> first | cases e | skip
  · cases h
    exact ⟨.inl _, rfl, rfl⟩
  · cases h
    exact ⟨.inr _, rfl, rfl⟩
theorem keyT_of {x : D} (e : isKeyT x = true) : ∃ ds ks, x = .tup ds ∧ nkDs ds = some ks ∧ nkD x = some (.tup ks) ∧ (NestedKey.tup ks).depth ≤ 8 := by
  cases x <;> first | cases e | skip
  rename_i ds
  have e : (match nkDs ds with
    | some ks => decide (NestedKey.depthAll ks + 1 ≤ 8)
    | none => false) = true := e
  cases h : nkDs ds with
  | none => rw [h] at e; cases e
  | some ks =>
    rw [h] at e
    exact ⟨ds, ks, rfl, h, by rw [nkD, h], of_decide_eq_true e⟩
theorem keyEqT {ds : List D} {ks : List NestedKey} {k' : D} {n' : NestedKey} (h : nkDs ds = some ks) (h' : nkD k' = some n') : keyEq (.tup ds) k' = decide (n' = .tup ks) := by
  rw [NestedKey.decide_eq]
  cases k' with
  | tup es =>
    rw [nkD] at h'
    cases e : nkDs es with
    | none => rw [e] at h'; cases h'
    | some ls =>
      rw [e] at h'
      cases h'
      show (match nkDs ds, nkDs es with
        | some a, some b => NestedKey.beqAll a b
        | _, _ => false) = NestedKey.beqAll ls ks
      rw [h, e]
      show NestedKey.beqAll ks ls = NestedKey.beqAll ls ks
      have a := NestedKey.decide_eq (.tup ks) (.tup ls)
      have b := NestedKey.decide_eq (.tup ls) (.tup ks)
      show NestedKey.beq (.tup ks) (.tup ls) = NestedKey.beq (.tup ls) (.tup ks)
      rw [← a, ← b]
      by_cases q : NestedKey.tup ks = .tup ls
      · rw [decide_eq_true q, decide_eq_true q.symm]
      · rw [decide_eq_false q, decide_eq_false fun z => q z.symm]
  | non => rw [nkD] at h'; cases h'; rfl
  | int i => rw [nkD] at h'; cases h'; rfl
  | str i => rw [nkD] at h'; cases h'; rfl
  | bl _ => rw [nkD] at h'; cases h'
  | ty _ => rw [nkD] at h'; cases h'
  | lst _ => rw [nkD] at h'; cases h'
  | ins _ _ => rw [nkD] at h'; cases h'
  | dct _ _ => rw [nkD] at h'; cases h'
  | dcq _ _ => rw [nkD] at h'; cases h'
  | xo _ _ => rw [nkD] at h'; cases h'
  | exc => rw [nkD] at h'; cases h'
  | rng _ _ => rw [nkD] at h'; cases h'
  | fu => rw [nkD] at h'; cases h'
  | scr _ => rw [nkD] at h'; cases h'
  | fn _ => rw [nkD] at h'; cases h'
section
variable {X : Cx} {pins : List (Addr × Obj)} {σ : L2.St} {H : Hp} {s : Shared} {c : Cfg} {G : Hp}
mutual
theorem rp_nested (I : Inv X pins σ H s) (hK : X.K = c.K) (sub : ∀ a o, G a = some o → H a = some o) : ∀ {v : V} {d : D} {k : NestedKey} {u : Value}, Rp c G v d → nkD d = some k → RelV v u → NestedIs s.heap k u
  | _, _, k, u, .non, e, r => by rw [nkD] at e; cases e; cases r; exact .none
  | _, _, k, u, .bl b, e, r => by rw [nkD] at e; cases e
  | _, _, k, u, .int i, e, r => by
    rw [nkD] at e
    cases e
    obtain ⟨t, rfl⟩ := r
    exact .int _ _
  | _, _, k, u, .str x, e, r => by
    rw [nkD] at e
    cases e
    obtain ⟨t, rfl⟩ := r
    exact .text _ _
  | _, _, k, u, .ty n, e, r => by rw [nkD] at e; cases e
  | _, _, k, u, .tup (ds := ds) h ka n, e, r => by
    rw [nkD] at e
    cases er : nkDs ds with
    | none => rw [er] at e; cases e
    | some ks =>
      rw [er] at e
      cases e
      cases r
      obtain ⟨its, rv, ⟨o, ho, hc, m, hd⟩, _⟩ := I.tuple (hK ▸ SqT.up sub h)
      exact .tup ho hc hd (by simpa using rps_nested I hK sub ka er rv)
  | _, _, k, u, .lst h ka, e, r => by rw [nkD] at e; cases e
  | _, _, k, u, .scr h, e, r => by rw [nkD] at e; cases e
  | _, _, k, u, .ins h n ka, e, r => by rw [nkD] at e; cases e
  | _, _, k, u, .dct h ka, e, r => by rw [nkD] at e; cases e
  | _, _, k, u, .dcx h o k1 k2, e, r => by rw [nkD] at e; cases e
  | _, _, k, u, .xo h, e, r => by rw [nkD] at e; cases e
  | _, _, k, u, .exc h h2 h3, e, r => by rw [nkD] at e; cases e
  | _, _, k, u, .rng h, e, r => by rw [nkD] at e; cases e
  | _, _, k, u, .fu h, e, r => by rw [nkD] at e; cases e
  | _, _, k, u, .fn h ka, e, r => by rw [nkD] at e; cases e
termination_by structural _ _ _ _ h => h
theorem rps_nested (I : Inv X pins σ H s) (hK : X.K = c.K) (sub : ∀ a o, G a = some o → H a = some o) : ∀ {vs : List V} {ds : List D} {ks : List NestedKey} {us : List Value}, RpAll c G vs ds → nkDs ds = some ks → Vals vs us → NestedAll s.heap ks us
  | _, _, ks, us, .nil, e, r => by rw [nkDs] at e; cases e; cases r; exact .nil
  | _, _, ks, us, .cons (d := d) (ds := ds) h ka, e, r => by
    rw [nkDs] at e
    cases e1 : nkD d with
    | none => rw [e1] at e; cases e
    | some k =>
      cases e2 : nkDs ds with
      | none => rw [e1, e2] at e; cases e
      | some ks' =>
        rw [e1, e2] at e
        cases e
        cases r with
        | cons r1 r2 => exact .cons (rp_nested I hK sub h e1 r1) (rps_nested I hK sub ka e2 r2)
termination_by structural _ _ _ _ h => h
end
/-! ### what the object tells -/
theorem DcO.sys {w : World} {a : Addr} {o : Obj} {ks : List D} {kv us : List V} (d : DcO w a o ks kv us) : (a == sysModules) = false := by cases d <;> assumption
theorem DcO.exact {w : World} {a : Addr} {o : Obj} {ks : List D} {kv us : List V} (d : DcO w a o ks kv us) : o.ExactDict := by cases d <;> assumption
theorem DcO.dat {w : World} {a : Addr} {o : Obj} {ks : List D} {kv us : List V} (d : DcO w a o ks kv us) : ∃ es ep, o.data = .dict es ep := by cases d <;> assumption
theorem DcO.len {w : World} {a : Addr} {o : Obj} {ks : List D} {kv us : List V} (d : DcO w a o ks kv us) : ks.length ≤ sizeLine := by
  cases d with
  | mix _ _ _ _ h _ => rw [List.length_map]; exact h
  | nk _ _ _ _ h _ e _ =>
    have := congrArg List.length e
    rw [List.length_map, List.length_map] at this
    omega
theorem xd_get {a : Addr} {o : Obj} (I : Inv X pins σ H s) (h : H a = some (xdO a o)) : s.heap.get? a = some o := (I.hok a _ h).1
theorem xd_ok {P : Program} {w : World} {H' : Hp} {h : Heap} {a : Addr} {o : Obj} (e : h.get? a = some o) : ObjOk P w H' h a (xdO a o) := ⟨e, ⟨o, e⟩, fun _ _ q k => k o q⟩
/-- the two forms of what is known, over the heap that stands -/
theorem DcO.real {a : Addr} {o : Obj} {ks : List D} {kv us : List V} (I : Inv X pins σ H s) (hK : X.K = c.K) (hw : X.w = c.w) (sub : ∀ a o, G a = some o → H a = some o) (hD : H a = some (xdO a o)) (d : DcO c.w a o ks kv us) (ka : RpAll c G kv ks) :
    (∃ kvs : List (Key × Value), s.heap.DictOf (mixKind X.prog X.w) a kvs ∧ ks = kvs.map (fun p => keyD p.1) ∧ kv = kvs.map (fun p => kV p.1) ∧ Vals us (kvs.map (·.2)) ∧ kvs.length ≤ sizeLine) ∨
    ∃ xs : List (NestedKey × Addr × Value), s.heap.DictOfH (nestedKind X.prog X.w) a xs ∧ ks.map nkD = xs.map (fun x => some x.1) ∧ kv = xs.map (fun x => V.ref x.2.1) ∧ Vals us (xs.map (·.2.2)) ∧ xs.length ≤ sizeLine ∧ (∀ x ∈ xs, (nestedKind X.prog X.w).is s.heap x.1 x.2.1) ∧ ∀ x ∈ xs, x.1.depth ≤ 8 := by
  have got := xd_get I hD
  cases d with
  | @mix kvs us h1 h2 h3 h4 h5 h6 => exact .inl ⟨kvs, hw ▸ h4 X.prog s.heap a got, rfl, rfl, h6, h5⟩
  | @nk xs us ks h1 h2 h3 h4 h5 h6 h7 h8 =>
    have his : ∀ x ∈ xs, (nestedKind X.prog X.w).is s.heap x.1 x.2.1 := by
      intro x hx
      obtain ⟨i, hi⟩ := List.mem_iff_getElem?.mp hx
      have e1 : (xs.map fun x => V.ref x.2.1)[i]? = some (.ref x.2.1) := by rw [List.getElem?_map, hi]; rfl
      obtain ⟨k, e2, hr⟩ := ka.getV e1
      have e3 : (ks.map nkD)[i]? = some (some x.1) := by rw [h7, List.getElem?_map, hi]; rfl
      rw [List.getElem?_map, e2] at e3
      exact ⟨rp_nested I hK sub hr (Option.some.inj e3) rfl, h8 x hx⟩
    exact .inr ⟨xs, hw ▸ h4 X.prog s.heap a got (by rw [← hw]; exact his), h7, rfl, h6, h5, his, h8⟩
/-- an empty dict is of both kinds -/
theorem DictOf.flip {P : Program} {w : World} {h : Heap} {a : Addr} (d : h.DictOf (mixKind P w) a []) : h.DictOfH (nestedKind P w) a [] := by
  obtain ⟨o, es, ep, ho, hc, hd, _, hp, _⟩ := d
  have := hp.length
  have e : es = #[] := by
    have : es.size = 0 := by simpa using this
    exact Array.eq_empty_of_size_eq_zero this
  subst e
  exact ⟨o, #[], ep, ho, hc, hd, rfl, (fun _ hx => nomatch hx), List.nodup_nil⟩
theorem DictOfH.flip {P : Program} {w : World} {h : Heap} {a : Addr} (d : h.DictOfH (nestedKind P w) a []) : h.DictOf (mixKind P w) a [] := by
  obtain ⟨o, es, ep, ho, hc, hd, he, _, _⟩ := d
  have e : es = #[] := by
    have : es.toList = [] := he
    cases es
    simp at this
    rw [this]
  subst e
  exact ⟨o, #[], ep, ho, hc, hd, (fun e he => by simp at he), .nil, List.nodup_nil⟩
end
theorem pairs_mix {P0 P : Program} {w : World} {es : List DictEntry} {kvs : List (Key × Value)} (h : Pairs (mixKind P0 w) es kvs) : Pairs (mixKind P w) es kvs := by
  induction h with
  | nil => exact .nil
  | cons h1 h2 _ ih => exact .cons h1 h2 ih
theorem dictOf_mix {P0 P : Program} {w : World} {h h' : Heap} {a b : Addr} {o : Obj} {kvs : List (Key × Value)} (d : h.DictOf (mixKind P0 w) a kvs) (e : h.get? a = some o) (e' : h'.get? b = some o) : h'.DictOf (mixKind P w) b kvs := by
  obtain ⟨o', es, ep, ho, hc, hd, hk, hp, hn⟩ := d
  rw [e] at ho
  cases ho
  exact ⟨o, es, ep, e', hc, hd, hk, pairs_mix hp, hn⟩
theorem mixObj_of {P0 : Program} {w : World} {h : Heap} {a : Addr} {o : Obj} {kvs : List (Key × Value)} (d : h.DictOf (mixKind P0 w) a kvs) (e : h.get? a = some o) : MixObj w o kvs := fun P h' b e' => dictOf_mix d e e'
theorem nkObj_of {P0 : Program} {w : World} {h : Heap} {a : Addr} {o : Obj} {xs : List (NestedKey × Addr × Value)} (d : h.DictOfH (nestedKind P0 w) a xs) (e : h.get? a = some o) : NkObj w o xs := fun P h' b e' his => by
  obtain ⟨o', es, ep, ho, hc, hd, he, _, hn⟩ := d
  rw [e] at ho
  cases ho
  exact ⟨o, es, ep, e', hc, hd, he, his, hn⟩
theorem vals_at {us : List V} {ws : List Value} (h : Vals us ws) : ∀ i : Nat, RelO us[i]? ws[i]? := by
  unfold Vals at h
  induction h with
  | nil => intro i; simp [RelO]
  | cons r _ ih =>
    intro i
    cases i with
    | zero => exact r
    | succ i => simpa using ih i
theorem relO_bind {us : List V} {ws : List Value} (h : Vals us ws) (o : Option Nat) : RelO (o.bind fun i => us[i]?) (o.bind fun i => ws[i]?) := by
  cases o with
  | none => exact True.intro
  | some i => exact vals_at h i
/-- what is found at a key -/
def look {α : Type} (ks : List D) (k : D) (l : List α) : Option α := (keyAt ks k).bind fun i => l[i]?
def XLook (X : Cx) (s : Shared) (a : Addr) (u : Value) (vo : Option V) : Prop :=
  (∃ kvs k0, s.heap.DictOf (mixKind X.prog X.w) a kvs ∧ RelV (kV k0) u ∧ RelO vo (valueAt kvs k0)) ∨
  ∃ xs n b, u = .ref b ∧ s.heap.DictOfH (nestedKind X.prog X.w) a xs ∧ (nestedKind X.prog X.w).is s.heap n b ∧ RelO vo ((atKey xs n).map (·.2))
theorem mix_keys {kvs : List (Key × Value)} (k0 : Key) : (kvs.map fun p => keyD p.1).map (keyEq (keyD k0)) = kvs.map fun kv => decide (kv.1 = k0) := by
  rw [List.map_map]
  apply List.map_congr_left
  intro p _
  show keyEq (keyD k0) (keyD p.1) = _
  rw [keyEq_keyD]
  by_cases e : p.1 = k0
  · rw [decide_eq_true e, decide_eq_true e.symm]
  · rw [decide_eq_false e, decide_eq_false fun z => e z.symm]
theorem nk_keys {ds : List D} {n : List NestedKey} (h : nkDs ds = some n) : ∀ {ks : List D} {xs : List (NestedKey × Addr × Value)}, ks.map nkD = xs.map (fun x => some x.1) → ks.map (keyEq (.tup ds)) = xs.map fun x => decide (x.1 = .tup n)
  | [], [], _ => rfl
  | [], _ :: _, e => by cases e
  | _ :: _, [], e => by cases e
  | k :: ks, x :: xs, e => by
    rw [List.map_cons, List.map_cons] at e
    injection e with e1 e2
    rw [List.map_cons, List.map_cons, nk_keys h e2, keyEqT h e1]
theorem valueAt_at (kvs : List (Key × Value)) (k0 : Key) : valueAt kvs k0 = (kvs.findIdx? fun kv => decide (kv.1 = k0)).bind fun i => (kvs.map (·.2))[i]? := by
  unfold valueAt
  rw [find_at]
  cases kvs.findIdx? fun kv => decide (kv.1 = k0) with
  | none => rfl
  | some i => show ((kvs[i]?).map (·.2)) = (kvs.map (·.2))[i]?; rw [List.getElem?_map]
theorem atKey_at (xs : List (NestedKey × Addr × Value)) (n : NestedKey) : (atKey xs n).map (·.2) = (xs.findIdx? fun x => decide (x.1 = n)).bind fun i => (xs.map (·.2.2))[i]? := by
  unfold atKey
  rw [find_at]
  cases xs.findIdx? fun x => decide (x.1 = n) with
  | none => rfl
  | some i => show ((xs[i]?.map (·.2)).map (·.2)) = (xs.map (·.2.2))[i]?; rw [List.getElem?_map, Option.map_map]; rfl
theorem key_notT {k : Key} : isKeyT (keyD k) = false := by cases k <;> rfl
section
variable {X : Cx} {pins : List (Addr × Obj)} {σ : L2.St} {H : Hp} {s : Shared} {c : Cfg} {G : Hp}
/-- which of the two kinds a question is of -/
theorem DcO.ask {a : Addr} {o : Obj} {ks : List D} {kv us : List V} {y : V} {k : D} (I : Inv X pins σ H s) (hK : X.K = c.K) (hw : X.w = c.w) (sub : ∀ a o, G a = some o → H a = some o) (hD : H a = some (xdO a o)) (d : DcO c.w a o ks kv us) (ka : RpAll c G kv ks) (hk : Rp c G y k) (hm : homog ks k = true) :
    (∃ (kvs : List (Key × Value)) (k0 : Key), s.heap.DictOf (mixKind X.prog X.w) a kvs ∧ ks = kvs.map (fun p => keyD p.1) ∧ kv = kvs.map (fun p => kV p.1) ∧ Vals us (kvs.map (·.2)) ∧ kvs.length ≤ sizeLine ∧ k = keyD k0 ∧ y = kV k0) ∨
    ∃ (xs : List (NestedKey × Addr × Value)) (ds : List D) (n : List NestedKey) (b : Addr), s.heap.DictOfH (nestedKind X.prog X.w) a xs ∧ ks.map nkD = xs.map (fun x => some x.1) ∧ kv = xs.map (fun x => V.ref x.2.1) ∧ Vals us (xs.map (·.2.2)) ∧ xs.length ≤ sizeLine ∧ (∀ x ∈ xs, (nestedKind X.prog X.w).is s.heap x.1 x.2.1) ∧ (∀ x ∈ xs, x.1.depth ≤ 8) ∧
      k = .tup ds ∧ y = .ref b ∧ nkDs ds = some n ∧ (NestedKey.tup n).depth ≤ 8 ∧ (nestedKind X.prog X.w).is s.heap (.tup n) b := by
  have tkey : isKeyT k = true → ∃ (ds : List D) (n : List NestedKey) (b : Addr), k = .tup ds ∧ y = .ref b ∧ nkDs ds = some n ∧ (NestedKey.tup n).depth ≤ 8 ∧ (nestedKind X.prog X.w).is s.heap (.tup n) b := by
    intro e
    obtain ⟨ds, n, rfl, e1, e2, e3⟩ := keyT_of e
    obtain ⟨b, vs, rfl, _⟩ := hk.tupE
    exact ⟨ds, n, b, rfl, rfl, e1, e3, rp_nested I hK sub hk e2 rfl, e3⟩
  unfold homog at hm
  rw [Bool.or_eq_true, Bool.and_eq_true, Bool.and_eq_true] at hm
  rcases d.real I hK hw sub hD ka with ⟨kvs, d1, e1, e2, e3, e4⟩ | ⟨xs, d1, e1, e2, e3, e4, e5, e6⟩
  · rcases hm with ⟨m1, _⟩ | ⟨m1, m2⟩
    · obtain ⟨k0, rfl, rfl⟩ := key_of hk m1
      exact .inl ⟨kvs, k0, d1, e1, e2, e3, e4, rfl, rfl⟩
    · obtain ⟨ds, n, b, rfl, rfl, q1, q2, q3⟩ := tkey m1
      cases kvs with
      | nil =>
        subst e1 e2
        exact .inr ⟨[], ds, n, b, DictOf.flip d1, rfl, rfl, e3, Nat.zero_le _, (fun _ h => nomatch h), (fun _ h => nomatch h), rfl, rfl, q1, q2, q3⟩
      | cons p r =>
        subst e1
        rw [List.map_cons, List.all_cons, key_notT] at m2
        cases m2
  · rcases hm with ⟨m1, m2⟩ | ⟨m1, _⟩
    · obtain ⟨k0, rfl, rfl⟩ := key_of hk m1
      cases xs with
      | nil =>
        have : ks = [] := by cases ks with
          | nil => rfl
          | cons _ _ => cases e1
        subst this e2
        exact .inl ⟨[], k0, DictOfH.flip d1, rfl, rfl, e3, Nat.zero_le _, rfl, rfl⟩
      | cons x r =>
        subst e2
        rw [List.map_cons] at ka
        cases ka with
        | cons h _ =>
          rw [List.all_cons, Bool.and_eq_true] at m2
          obtain ⟨k1, _, e⟩ := key_of h m2.1
          cases k1 <;> cases e
    · obtain ⟨ds, n, b, rfl, rfl, q1, q2, q3⟩ := tkey m1
      exact .inr ⟨xs, ds, n, b, d1, e1, e2, e3, e4, e5, e6, rfl, rfl, q1, q2, q3⟩
theorem xd_look {a : Addr} {o : Obj} {ks : List D} {kv us : List V} {y : V} {k : D} {u : Value} (I : Inv X pins σ H s) (hK : X.K = c.K) (hw : X.w = c.w) (sub : ∀ a o, G a = some o → H a = some o) (hD : H a = some (xdO a o)) (d : DcO c.w a o ks kv us) (ka : RpAll c G kv ks) (hk : Rp c G y k) (hm : homog ks k = true) (ry : RelV y u) :
    XLook X s a u (look ks k us) := by
  rcases d.ask I hK hw sub hD ka hk hm with ⟨kvs, k0, d1, rfl, rfl, e3, e4, rfl, rfl⟩ | ⟨xs, ds, n, b, d1, e1, rfl, e3, e4, e5, e6, rfl, rfl, q1, q2, q3⟩
  · refine .inl ⟨kvs, k0, d1, ry, ?_⟩
    rw [valueAt_at]
    unfold look keyAt
    rw [idx_map (mix_keys k0)]
    exact relO_bind e3 _
  · cases ry
    refine .inr ⟨xs, .tup n, b, rfl, d1, q3, ?_⟩
    rw [atKey_at]
    unfold look keyAt
    rw [idx_map (nk_keys q1 e1)]
    exact relO_bind e3 _
theorem hasKey_look {ks : List D} {k : D} {kv us : List V} {w : World} {a : Addr} {o : Obj} (d : DcO w a o ks kv us) : (look ks k us).isSome = hasKey ks k := by
  have hl : us.length = ks.length := by
    cases d with
    | mix _ _ _ _ _ h => rw [h.length, List.length_map, List.length_map]
    | nk _ _ _ _ _ h e _ =>
      have := congrArg List.length e
      rw [List.length_map, List.length_map] at this
      rw [h.length, List.length_map, this]
  unfold look hasKey keyAt
  rw [any_idx]
  cases e : ks.findIdx? (keyEq k) with
  | none => rfl
  | some i =>
    have hi : i < ks.length := by
      have := List.findIdx?_eq_some_iff_findIdx_eq.mp e
      exact this.1
    show (us[i]?).isSome = true
    rw [List.getElem?_eq_getElem (by omega)]
    rfl
end
section
variable {X : Cx} {pins : List (Addr × Obj)} {σ : L2.St} {H : Hp} {s : Shared} {a : Addr} {y v d : V} {u r : Value} {o : Option V} {A : Around} {E : Value → Shared → Prop}
theorem nk_room {A : Around} {P : Program} {w : World} (hu : A.units + 10 < cLine) : (nestedKind P w).room A.in1 := by
  show A.units + 1 + 8 < cLine
  omega
theorem x_getItem {Q : Value → Shared → Prop} (hu : A.units + 10 < cLine) (I : Inv X pins σ H s) (g : XLook X s a u (some v)) (h : ∀ w' s', Inv X pins σ H s' → RelV v w' → Q w' s') : wpAny (model X.prog X.w) A (getItem (.ref a) u) Q E s := by
  rcases g with ⟨kvs, k0, d1, ry, rel⟩ | ⟨xs, n, b, rfl, d1, hk, rel⟩
  · obtain ⟨w', hw, rw'⟩ := RelO.some_of (v := v) (o := valueAt kvs k0) rel
    exact wpAny_getItem_of (kV_is ry) d1.mapOf hw (h w' _ (I.tok _) rw')
  · obtain ⟨w', hw, rw'⟩ := RelO.some_of (v := v) (o := (atKey xs n).map (·.2)) rel
    obtain ⟨p, hp, hp2⟩ := Option.map_eq_some_iff.mp hw
    refine wpAny_getItem_heap (nk_room hu) hk d1 hp ?_
    rw [hp2]
    exact h w' _ (I.tok _) rw'
theorem x_in {Q : Value → Shared → Prop} (hu : A.units + 10 < cLine) (I : Inv X pins σ H s) (hd : (a == sysModules) = false) (g : XLook X s a u o) (h : ∀ s', Inv X pins σ H s' → Q (.bool o.isSome) s') : wpAny (model X.prog X.w) A (compareOp .In u (.ref a)) Q E s := by
  rcases g with ⟨kvs, k0, d1, ry, rel⟩ | ⟨xs, n, b, rfl, d1, hk, rel⟩
  · refine wpAny_in_of (kV_is ry) hd d1.mapOf ?_
    rw [← rel.isSome_eq]
    exact h _ (I.tok _)
  · refine wpAny_in_heap (nk_room hu) hk hd d1 ?_
    have q := rel.isSome_eq
    rw [Option.isSome_map] at q
    rw [← q]
    exact h _ (I.tok _)
theorem x_notIn {Q : Value → Shared → Prop} (hu : A.units + 10 < cLine) (I : Inv X pins σ H s) (hd : (a == sysModules) = false) (g : XLook X s a u o) (h : ∀ s', Inv X pins σ H s' → Q (.bool (!o.isSome)) s') : wpAny (model X.prog X.w) A (compareOp .NotIn u (.ref a)) Q E s := by
  rcases g with ⟨kvs, k0, d1, ry, rel⟩ | ⟨xs, n, b, rfl, d1, hk, rel⟩
  · refine wpAny_notIn_of (kV_is ry) hd d1.mapOf ?_
    rw [← rel.isSome_eq]
    exact h _ (I.tok _)
  · refine wpAny_notIn_heap (nk_room hu) hk hd d1 ?_
    have q := rel.isSome_eq
    rw [Option.isSome_map] at q
    rw [← q]
    exact h _ (I.tok _)
theorem x_get1 {Q : Value → Shared → Prop} (hu : A.units + 10 < cLine) (I : Inv X pins σ H s) (hd : (a == sysModules) = false) (g : XLook X s a u o) (h : ∀ w' s', Inv X pins σ H s' → RelV (o.getD .non) w' → Q w' s') : wpAny (model X.prog X.w) A (call (.builtin "dict.get") [.ref a, u]) Q E s := by
  rcases g with ⟨kvs, k0, d1, ry, rel⟩ | ⟨xs, n, b, rfl, d1, hk, rel⟩
  · exact call_meetsIn PySem.F.slot_dict_get d1.typeIs PySem.F.entry_dict_get (PySem.F.args_dict_get_2 _ _) (meets_dict_get (mixKind X.prog X.w) a (kV_is ry) hd) ⟨_, d1.mapOf, h _ _ (I.tok _) (rel.getD rfl)⟩
  · exact call_meetsIn PySem.F.slot_dict_get d1.typeIs PySem.F.entry_dict_get (PySem.F.args_dict_get_2 _ _) (meetsH_dict_get (nestedKind X.prog X.w) a b hd) ⟨nk_room hu, n, xs, hk, d1, h _ _ (I.tok _) (rel.getD rfl)⟩
end
/-! ### the store -/
theorem vals_zip {kvs : List (Key × Value)} {k0 : Key} {v : V} {r : Value} (rv : RelV v r) : ∀ {us : List V}, Vals us (kvs.map (·.2)) → Vals (List.zipWith (fun k' d => if keyEq (keyD k0) k' then v else d) (kvs.map fun p => keyD p.1) us) ((kvs.map fun kv => if kv.1 = k0 then (kv.1, r) else kv).map (·.2)) := by
  induction kvs with
  | nil => intro us h; cases h; exact .nil
  | cons p kvs ih =>
    intro us h
    rw [List.map_cons] at h
    cases h with
    | cons h1 h2 =>
      simp only [List.map_cons, List.zipWith_cons_cons, keyEq_keyD]
      refine .cons ?_ (ih h2)
      by_cases e : p.1 = k0
      · rw [if_pos (by rw [e]; simp), if_pos e]
        exact rv
      · rw [if_neg (by simp; exact fun z => e z.symm), if_neg e]
        exact h1
theorem vals_zipH {ds : List D} {n : List NestedKey} (hn : nkDs ds = some n) {v : V} {r : Value} (rv : RelV v r) : ∀ {xs : List (NestedKey × Addr × Value)} {ks : List D} {us : List V}, ks.map nkD = xs.map (fun x => some x.1) → Vals us (xs.map (·.2.2)) →
    Vals (List.zipWith (fun k' d => if keyEq (.tup ds) k' then v else d) ks us) ((xs.map (putAt (.tup n) r)).map (·.2.2))
  | [], [], us, _, h => by cases h; exact .nil
  | [], _ :: _, us, e, h => by cases e
  | _ :: _, [], us, e, h => by cases e
  | x :: xs, k :: ks, us, e, h => by
    rw [List.map_cons, List.map_cons] at e
    injection e with e1 e2
    rw [List.map_cons] at h
    cases h with
    | cons h1 h2 =>
      simp only [List.map_cons, List.zipWith_cons_cons, keyEqT hn e1]
      refine .cons ?_ (vals_zipH hn rv e2 h2)
      unfold putAt
      by_cases q : x.1 = .tup n
      · rw [if_pos (decide_eq_true q), if_pos q]
        exact rv
      · rw [if_neg (by simp [q]), if_neg q]
        exact h1
theorem hasKey_mix {kvs : List (Key × Value)} {k0 : Key} : hasKey (kvs.map fun p => keyD p.1) (keyD k0) = kvs.any fun kv => decide (kv.1 = k0) := any_map2 (mix_keys k0)
theorem mix_stored {kvs : List (Key × Value)} {k0 : Key} {v : V} {r : Value} {us : List V} (rv : RelV v r) (e3 : Vals us (kvs.map (·.2))) :
    (stored kvs k0 r).map (fun p => keyD p.1) = putKs (kvs.map fun p => keyD p.1) (keyD k0) (kvs.map fun p => keyD p.1) (keyD k0) ∧
    (stored kvs k0 r).map (fun p => kV p.1) = putKs (kvs.map fun p => keyD p.1) (keyD k0) (kvs.map fun p => kV p.1) (kV k0) ∧
    Vals (putVs (kvs.map fun p => keyD p.1) (keyD k0) us v) ((stored kvs k0 r).map (·.2)) := by
  unfold stored putKs putVs
  rw [hasKey_mix]
  by_cases e : (kvs.any fun kv => decide (kv.1 = k0)) = true
  · rw [if_pos e, if_pos e, if_pos e, if_pos e]
    refine ⟨?_, ?_, vals_zip rv e3⟩
    · rw [List.map_map]
      apply List.map_congr_left
      intro p _
      show keyD (if p.1 = k0 then (p.1, r) else p).1 = _
      split <;> rfl
    · rw [List.map_map]
      apply List.map_congr_left
      intro p _
      show kV (if p.1 = k0 then (p.1, r) else p).1 = _
      split <;> rfl
  · rw [if_neg e, if_neg e, if_neg e, if_neg e]
    refine ⟨?_, ?_, ?_⟩
    · rw [List.map_append]; rfl
    · rw [List.map_append]; rfl
    · rw [List.map_append]
      exact e3.append (.cons rv .nil)
theorem hasKey_nk {ds : List D} {n : List NestedKey} {ks : List D} {xs : List (NestedKey × Addr × Value)} (hn : nkDs ds = some n) (e1 : ks.map nkD = xs.map (fun x => some x.1)) : hasKey ks (.tup ds) = (atKey xs (.tup n)).isSome := by
  have h1 : hasKey ks (.tup ds) = xs.any fun x => decide (x.1 = .tup n) := any_map2 (nk_keys hn e1)
  rw [h1, any_idx]
  unfold atKey
  rw [find_at, Option.isSome_map]
  cases e : xs.findIdx? fun x => decide (x.1 = .tup n) with
  | none => rfl
  | some i =>
    have hi := (List.findIdx?_eq_some_iff_findIdx_eq.mp e).1
    show true = (xs[i]?).isSome
    rw [List.getElem?_eq_getElem hi]
    rfl
theorem nk_stored {ds : List D} {n : List NestedKey} {ks : List D} {xs : List (NestedKey × Addr × Value)} {b : Addr} {v : V} {r : Value} {us : List V} (hn : nkDs ds = some n) (hk : nkD (.tup ds) = some (.tup n)) (hd : (NestedKey.tup n).depth ≤ 8) (e1 : ks.map nkD = xs.map (fun x => some x.1)) (rv : RelV v r) (e3 : Vals us (xs.map (·.2.2))) (e6 : ∀ x ∈ xs, x.1.depth ≤ 8) :
    (putKs ks (.tup ds) ks (.tup ds)).map nkD = (storedH xs (.tup n) b r).map (fun x => some x.1) ∧
    (storedH xs (.tup n) b r).map (fun x => V.ref x.2.1) = putKs ks (.tup ds) (xs.map fun x => V.ref x.2.1) (.ref b) ∧
    Vals (putVs ks (.tup ds) us v) ((storedH xs (.tup n) b r).map (·.2.2)) ∧ ∀ x ∈ storedH xs (.tup n) b r, x.1.depth ≤ 8 := by
  unfold storedH putKs putVs
  rw [hasKey_nk hn e1]
  by_cases e : (atKey xs (.tup n)).isSome = true
  · rw [if_pos e, if_pos e, if_pos e, if_pos e]
    refine ⟨?_, ?_, vals_zipH hn rv e1 e3, ?_⟩
    · rw [e1, List.map_map]
      apply List.map_congr_left
      intro p _
      show _ = some (putAt (.tup n) r p).1
      unfold putAt
      split <;> rfl
    · rw [List.map_map]
      apply List.map_congr_left
      intro p _
      show V.ref (putAt (.tup n) r p).2.1 = _
      unfold putAt
      split <;> rfl
    · intro x hx
      obtain ⟨p, hp, rfl⟩ := List.mem_map.mp hx
      have := e6 p hp
      unfold putAt
      split <;> exact this
  · rw [if_neg e, if_neg e, if_neg e, if_neg e]
    refine ⟨?_, ?_, ?_, ?_⟩
    · rw [List.map_append, List.map_append, e1, List.map_cons, hk]; rfl
    · rw [List.map_append]; rfl
    · rw [List.map_append]
      exact e3.append (.cons rv .nil)
    · intro x hx
      rcases List.mem_append.mp hx with hx | hx
      · exact e6 x hx
      · rw [List.mem_singleton] at hx
        subst hx
        exact hd
theorem stored_len (kvs : List (Key × Value)) (k : Key) (r : Value) : (stored kvs k r).length ≤ kvs.length + 1 := by
  unfold stored
  split
  · rw [List.length_map]; omega
  · rw [List.length_append]; exact Nat.le_refl _
theorem storedH_len (xs : List (NestedKey × Addr × Value)) (k : NestedKey) (b : Addr) (r : Value) : (storedH xs k b r).length ≤ xs.length + 1 := by
  unfold storedH
  split
  · rw [List.length_map]; omega
  · rw [List.length_append]; exact Nat.le_refl _
theorem RpAll.put {c : Cfg} {G : Hp} {ks kd : List D} {kv : List V} {k x : D} {y : V} (ka : RpAll c G kv kd) (hk : Rp c G y x) : RpAll c G (putKs ks k kv y) (putKs ks k kd x) := by
  unfold putKs
  split
  · exact ka
  · exact ka.snoc hk
section
variable {X : Cx} {pins : List (Addr × Obj)} {σ : L2.St} {H : Hp} {s : Shared} {c : Cfg} {G : Hp} {A : Around} {E : Value → Shared → Prop}
/-- what a store leaves -/
theorem xd_store {a : Addr} {o : Obj} {ks : List D} {kv us : List V} {y v : V} {k : D} {u r : Value} {m : Sem Unit} {Q : Unit → Shared → Prop} (I : Inv X pins σ H s) (hK : X.K = c.K) (hw : X.w = c.w) (sub : ∀ a o, G a = some o → H a = some o) (hD : H a = some (xdO a o)) (d : DcO c.w a o ks kv us) (ka : RpAll c G kv ks) (hk : Rp c G y k) (hm : homog ks k = true)
    (hz : ks.length < sizeLine) (ry : RelV y u) (rv : RelV v r)
    (step1 : ∀ kvs k0, RelV (kV k0) u → s.heap.DictOf (mixKind X.prog X.w) a kvs → kvs.length ≤ sizeLine → (∀ h', h'.DictOf (mixKind X.prog X.w) a (stored kvs k0 r) → Heap.SameBut a s.heap h' → ∀ t, Q () { s with heap := h', toks := t }) → wpAny (model X.prog X.w) A m Q E s)
    (step2 : ∀ xs n b, u = .ref b → (nestedKind X.prog X.w).is s.heap n b → s.heap.DictOfH (nestedKind X.prog X.w) a xs → xs.length ≤ sizeLine → (∀ h', h'.DictOfH (nestedKind X.prog X.w) a (storedH xs n b r) → Heap.SameBut a s.heap h' → ∀ t, Q () { s with heap := h', toks := t }) → wpAny (model X.prog X.w) A m Q E s)
    (q : ∀ s' o', Inv X pins σ (upd H a (xdO a o')) s' → DcO c.w a o' (putKs ks k ks k) (putKs ks k kv y) (putVs ks k us v) → Q () s') : wpAny (model X.prog X.w) A m Q E s := by
  have sys := d.sys
  rcases d.ask I hK hw sub hD ka hk hm with ⟨kvs, k0, d1, rfl, rfl, e3, e4, rfl, rfl⟩ | ⟨xs, ds, n, b, d1, e1, rfl, e3, e4, e5, e6, rfl, rfl, q1, q2, q3⟩
  · refine step1 kvs k0 ry d1 e4 fun h' dd same t => ?_
    obtain ⟨o', es, ep, ho, hc, hd, _⟩ := id dd
    have I' : Inv X pins σ (upd H a (xdO a o')) { s with heap := h', toks := t } := d_write I (by rw [hD]; exact True.intro) same ⟨o', ho⟩ (xd_ok ho)
    have mo : MixObj c.w o' (stored kvs k0 r) := hw ▸ mixObj_of dd ho
    rw [List.length_map] at hz
    have lk : (stored kvs k0 r).length ≤ sizeLine := Nat.le_trans (stored_len _ _ _) hz
    obtain ⟨f1, f2, f3⟩ := mix_stored (k0 := k0) rv e3
    have dc := DcO.mix (w := c.w) (a := a) sys hc ⟨es, ep, hd⟩ mo lk f3
    rw [f1, f2] at dc
    exact q _ o' I' dc
  · cases ry
    refine step2 xs (.tup n) b rfl q3 d1 e4 fun h' dd same t => ?_
    obtain ⟨o', es, ep, ho, hc, hd, _⟩ := id dd
    have I' : Inv X pins σ (upd H a (xdO a o')) { s with heap := h', toks := t } := d_write I (by rw [hD]; exact True.intro) same ⟨o', ho⟩ (xd_ok ho)
    have mo : NkObj c.w o' (storedH xs (.tup n) b r) := hw ▸ nkObj_of dd ho
    have hl : ks.length = xs.length := by
      have := congrArg List.length e1
      rw [List.length_map, List.length_map] at this
      exact this
    have lk : (storedH xs (.tup n) b r).length ≤ sizeLine := Nat.le_trans (storedH_len _ _ _ _) (by omega)
    have hk2 : nkD (.tup ds) = some (.tup n) := by rw [nkD, q1]
    obtain ⟨f1, f2, f3, f4⟩ := nk_stored (b := b) q1 hk2 q2 e1 rv e3 e6
    have dc := DcO.nk (w := c.w) (a := a) sys hc ⟨es, ep, hd⟩ mo lk f3 f1 f4
    rw [f2] at dc
    exact q _ o' I' dc
theorem x_setItem {a : Addr} {o : Obj} {ks : List D} {kv us : List V} {y v : V} {k : D} {u r : Value} {Q : Unit → Shared → Prop} (hu : A.units + 10 < cLine) (I : Inv X pins σ H s) (hK : X.K = c.K) (hw : X.w = c.w) (sub : ∀ a o, G a = some o → H a = some o) (hD : H a = some (xdO a o)) (d : DcO c.w a o ks kv us) (ka : RpAll c G kv ks) (hk : Rp c G y k) (hm : homog ks k = true)
    (hz : ks.length < sizeLine) (ry : RelV y u) (rv : RelV v r) (q : ∀ s' o', Inv X pins σ (upd H a (xdO a o')) s' → DcO c.w a o' (putKs ks k ks k) (putKs ks k kv y) (putVs ks k us v) → Q () s') :
    wpAny (model X.prog X.w) A (setItem (.ref a) u r) Q E s :=
  xd_store I hK hw sub hD d ka hk hm hz ry rv (fun kvs k0 r0 dd hl f => wpAny_setItem_pairs (hsz := hl) (kV_is r0) dd fun h' d' sm => f h' d' sm _)
    (fun xs n b e hk dd hl f => by subst e; exact wpAny_setItem_heap (hsz := hl) (nk_room hu) hk dd fun h' d' sm => f h' d' sm _) q
theorem nk_room0 {A : Around} {P : Program} {w : World} (hu : A.units + 10 < cLine) : (nestedKind P w).room A := by
  show A.units + 8 < cLine
  omega
theorem x_dictSet {a : Addr} {o : Obj} {ks : List D} {kv us : List V} {y v : V} {k : D} {u r : Value} {Q : Unit → Shared → Prop} (hu : A.units + 10 < cLine) (I : Inv X pins σ H s) (hK : X.K = c.K) (hw : X.w = c.w) (sub : ∀ a o, G a = some o → H a = some o) (hD : H a = some (xdO a o)) (d : DcO c.w a o ks kv us) (ka : RpAll c G kv ks) (hk : Rp c G y k) (hm : homog ks k = true)
    (hz : ks.length < sizeLine) (ry : RelV y u) (rv : RelV v r) (q : ∀ s' o', Inv X pins σ (upd H a (xdO a o')) s' → DcO c.w a o' (putKs ks k ks k) (putKs ks k kv y) (putVs ks k us v) → Q () s') :
    wpAny (model X.prog X.w) A (dictSet a u r) Q E s :=
  xd_store I hK hw sub hD d ka hk hm hz ry rv (fun kvs k0 r0 dd hl f => wpAny_dictSet_pairs (hsz := hl) (kV_is r0) dd fun h' d' sm => f h' d' sm _)
    (fun xs n b e hk dd hl f => by subst e; exact wpAny_dictSet_heap (hsz := hl) (nk_room0 hu) hk dd fun h' d' sm => f h' d' sm _) q
/-- a new dict -/
theorem DcO.new {w : World} {h : Heap} (hb : sysModules < h.objs.size) : DcO w h.objs.size { cls := .type "dict", data := .dict #[] } [] [] [] :=
  .mix (kvs := []) (beq_eq_false_iff_ne.mpr (Ne.symm (Nat.ne_of_lt hb))) ⟨rfl, rfl, rfl⟩ ⟨#[], 0, rfl⟩ (fun P h' b e => ⟨_, #[], 0, e, ⟨rfl, rfl, rfl⟩, rfl, (fun e he => by simp at he), .nil, List.nodup_nil⟩) (Nat.zero_le _) .nil
theorem pairs_keys {P : Program} {w : World} {l : List DictEntry} {kvs : List (Key × Value)} (hp : Pairs (mixKind P w) l kvs) : Vals (kvs.map fun p => kV p.1) (l.map (·.key)) := by
  induction hp with
  | nil => exact .nil
  | cons h1 h2 _ ih =>
    rw [List.map_cons, List.map_cons]
    exact .cons (relV_key (show keyIs _ _ = true from h1)) ih
theorem pairs_vals {P : Program} {w : World} {l : List DictEntry} {kvs : List (Key × Value)} (hp : Pairs (mixKind P w) l kvs) : l.map (·.val) = kvs.map (·.2) := by
  induction hp with
  | nil => rfl
  | cons h1 h2 _ ih => rw [List.map_cons, List.map_cons, h2, ih]
theorem vals_refs : ∀ xs : List (NestedKey × Addr × Value), Vals (xs.map fun x => V.ref x.2.1) (xs.map fun x => Value.ref x.2.1)
  | [] => .nil
  | x :: xs => by
    rw [List.map_cons, List.map_cons]
    exact .cons rfl (vals_refs xs)
/-- its entries -/
theorem DcO.raw {a : Addr} {o : Obj} {ks : List D} {kv us : List V} (I : Inv X pins σ H s) (hK : X.K = c.K) (hw : X.w = c.w) (sub : ∀ a o, G a = some o → H a = some o) (hD : H a = some (xdO a o)) (d : DcO c.w a o ks kv us) (ka : RpAll c G kv ks) :
    ∃ es ep, o.data = .dict es ep ∧ s.heap.DictRaw a es ep ∧ Vals kv (es.toList.map (·.key)) ∧ Vals us (es.toList.map (·.val)) ∧ es.size = ks.length := by
  have got := xd_get I hD
  rcases d.real I hK hw sub hD ka with ⟨kvs, ⟨o', es, ep, ho, hc, hd, hk, hp, hn⟩, rfl, rfl, e3, e4⟩ | ⟨xs, ⟨o', es, ep, ho, hc, hd, he, his, hn⟩, e1, rfl, e3, e4, e5, e6⟩
  · rw [got] at ho
    cases ho
    refine ⟨es, ep, hd, ⟨o, got, hc, hd⟩, pairs_keys hp, by rw [pairs_vals hp]; exact e3, ?_⟩
    · have := hp.length
      rw [Array.length_toList] at this
      rw [List.length_map]
      exact this
  · rw [got] at ho
    cases ho
    refine ⟨es, ep, hd, ⟨o, got, hc, hd⟩, by rw [he, List.map_map]; exact vals_refs xs, by rw [he, List.map_map]; exact e3, ?_⟩
    · have h1 := congrArg List.length e1
      have h2 := congrArg List.length he
      rw [List.length_map, List.length_map] at h1
      rw [List.length_map, Array.length_toList] at h2
      omega
end
end Fx
/-! dicts as data: comprehensions, reads, stores -/
namespace Fx
open PySem PySem.Spec PyProof.Rows L2
open C8 (Cal Mak pe_c pe_mk)
theorem valV_no : ∀ {kvs : List (Key × V)} {k : Key}, (kvs.map fun p => keyD p.1).any (keyEq (keyD k)) = false → valV kvs k = none
  | [], _, _ => rfl
  | p :: r, k, e => by
    rw [List.map_cons, List.any_cons, Bool.or_eq_false_iff, keyEq_keyD] at e
    have h : p.1 ≠ k := fun z => by simp [z] at e
    have := valV_no e.2
    unfold valV at this ⊢
    rw [List.find?_cons]
    simp [h, this]
theorem valV_at {c : Cfg} {G : Hp} : ∀ {kvs : List (Key × V)} {ds : List D} {k : Key} {i : Nat} {x : D}, RpAll c G (kvs.map (·.2)) ds → keyAt (kvs.map fun p => keyD p.1) (keyD k) = some i → ds[i]? = some x → ∃ v, valV kvs k = some v ∧ Rp c G v x
  | [], _, _, _, _, _, e, _ => by simp [keyAt] at e
  | p :: r, ds, k, i, x, ka, e, ex => by
    cases ka with
    | cons h ka =>
      rename_i d ds
      unfold keyAt at e
      rw [List.map_cons, List.findIdx?_cons] at e
      by_cases hk : keyEq (keyD k) (keyD p.1) = true
      · rw [hk] at e
        simp at e
        subst e
        rw [keyEq_keyD, decide_eq_true_eq] at hk
        simp at ex
        subst ex
        refine ⟨p.2, ?_, h⟩
        unfold valV
        rw [List.find?_cons]
        simp [hk]
      · have hk' : keyEq (keyD k) (keyD p.1) = false := by simpa using hk
        rw [hk'] at e
        simp at e
        obtain ⟨j, ej, rfl⟩ := e
        have hne : p.1 ≠ k := fun z => by
          rw [z, keyEq_keyD] at hk
          simp at hk
        obtain ⟨v, e1, e2⟩ := valV_at (k := k) (i := j) ka (by unfold keyAt; rw [List.findIdx?_map]; exact ej) (by simpa using ex)
        refine ⟨v, ?_, e2⟩
        unfold valV at e1 ⊢
        rw [List.find?_cons]
        simp only [hne, decide_false]
        exact e1
theorem RpAll.zip {c : Cfg} {G : Hp} {k x : D} {v : V} (hv : Rp c G v x) : ∀ {ks : List D} {us : List V} {ds : List D}, RpAll c G us ds → RpAll c G (List.zipWith (fun k' d => if keyEq k k' then v else d) ks us) (List.zipWith (fun k' d => if keyEq k k' then x else d) ks ds)
  | [], _, _, _ => by rw [List.zipWith_nil_left, List.zipWith_nil_left]; exact .nil
  | _ :: _, _, _, .nil => by rw [List.zipWith_nil_right, List.zipWith_nil_right]; exact .nil
  | k' :: ks, _, _, .cons h r => by
    rw [List.zipWith_cons_cons, List.zipWith_cons_cons]
    refine .cons ?_ (RpAll.zip hv r)
    split
    · exact hv
    · exact h
theorem RpAll.putV {c : Cfg} {G : Hp} {ks ds : List D} {us : List V} {k x : D} {v : V} (ka : RpAll c G us ds) (hv : Rp c G v x) : RpAll c G (putVs ks k us v) (putVs ks k ds x) := by
  unfold putVs
  split
  · exact ka.zip hv
  · exact ka.snoc hv
/-! ### readings -/
def LookX (c : Cfg) (H : Hp) (a : Addr) (y : V) (vo : Option V) : Prop := ∃ (o : Obj) (ks : List D) (kv us : List V) (k : D) (G : Hp), H a = some (xdO a o) ∧ DcO c.w a o ks kv us ∧ (∀ a o, G a = some o → H a = some o) ∧ RpAll c G kv ks ∧ Rp c G y k ∧ homog ks k = true ∧ vo = look ks k us
def PutX (c : Cfg) (H : Hp) (a : Addr) (y v : V) (Nx : Hp → Prop) : Prop := ∃ (o : Obj) (ks : List D) (kv us : List V) (k : D) (G : Hp), H a = some (xdO a o) ∧ DcO c.w a o ks kv us ∧ (∀ a o, G a = some o → H a = some o) ∧ RpAll c G kv ks ∧ Rp c G y k ∧ homog ks k = true ∧ ks.length < sizeLine ∧
  ∀ o', DcO c.w a o' (putKs ks k ks k) (putKs ks k kv y) (putVs ks k us v) → Nx (upd H a (xdO a o'))
def IsX (c : Cfg) (H : Hp) (a : Addr) : Prop := ∃ (o : Obj) (ks : List D) (kv us : List V), H a = some (xdO a o) ∧ DcO c.w a o ks kv us
section
variable {X : Cx} {pins : List (Addr × Obj)} {σ : L2.St} {H : Hp} {s : Shared} {c : Cfg} {a : Addr} {y : V} {u : Value} {vo : Option V}
theorem LookX.isX (h : LookX c H a y vo) : IsX c H a := let ⟨o, ks, kv, us, _, _, h1, h2, _⟩ := h; ⟨o, ks, kv, us, h1, h2⟩
theorem LookX.x (I : Inv X pins σ H s) (hK : X.K = c.K) (hw : X.w = c.w) (ry : RelV y u) (h : LookX c H a y vo) : XLook X s a u vo := by
  obtain ⟨o, ks, kv, us, k, G, h1, h2, h3, h4, h5, h6, rfl⟩ := h
  exact xd_look I hK hw h3 h1 h2 h4 h5 h6 ry
theorem IsX.at_ (I : Inv X pins σ H s) (h : IsX c H a) : s.TypeIs (.ref a) "dict" ∧ (∀ b, Value.ref a = .ref b → ∃ ob, s.heap.get? b = some ob ∧ ob.dict = none) ∧ (a == sysModules) = false := by
  obtain ⟨o, ks, kv, us, h1, h2⟩ := h
  have got := xd_get I h1
  refine ⟨⟨o, got, h2.exact.1⟩, fun b e => ?_, h2.sys⟩
  cases e
  exact ⟨o, got, h2.exact.2.1⟩
end
/-- .. of a dict told by its keys and values alone -/
def LookK (H : Hp) (a : Addr) (y : V) (vo : Option V) : Prop := ∃ kvs k, H a = some (.dK kvs) ∧ y = kV k ∧ vo = valV kvs k
def LookE (c : Cfg) (H : Hp) (a : Addr) (y : V) (vo : Option V) : Prop := H a = some (.dK []) ∧ (∃ (G : Hp) (k : D), (∀ a o, G a = some o → H a = some o) ∧ Rp c G y k ∧ isKeyT k = true) ∧ vo = none
def LookA (c : Cfg) (H : Hp) (a : Addr) (y : V) (vo : Option V) : Prop := LookX c H a y vo ∨ LookK H a y vo ∨ LookE c H a y vo
def IsA (c : Cfg) (H : Hp) (a : Addr) : Prop := IsX c H a ∨ ∃ kvs, H a = some (.dK kvs)
section
variable {X : Cx} {pins : List (Addr × Obj)} {σ : L2.St} {H : Hp} {s : Shared} {c : Cfg} {a : Addr} {y : V} {u : Value} {vo : Option V}
theorem LookA.isA (h : LookA c H a y vo) : IsA c H a := by
  rcases h with h | ⟨kvs, k, h, _⟩ | ⟨h, _⟩
  · exact .inl h.isX
  · exact .inr ⟨_, h⟩
  · exact .inr ⟨_, h⟩
theorem IsA.at_ (I : Inv X pins σ H s) (h : IsA c H a) : s.TypeIs (.ref a) "dict" ∧ (∀ b, Value.ref a = .ref b → ∃ ob, s.heap.get? b = some ob ∧ ob.dict = none) ∧ (a == sysModules) = false := by
  rcases h with h | ⟨kvs, h⟩
  · exact h.at_ I
  · exact isD_at I (.inl ⟨kvs, .inl h⟩)
theorem LookA.x (I : Inv X pins σ H s) (hK : X.K = c.K) (hw : X.w = c.w) (ry : RelV y u) (h : LookA c H a y vo) : XLook X s a u vo := by
  rcases h with h | ⟨kvs, k, h, rfl, rfl⟩ | ⟨h, ⟨G, k, sub, hk, ht⟩, rfl⟩
  · exact h.x I hK hw ry
  · obtain ⟨z, hd, vs, rel, dd⟩ := dk_of I.hok h
    exact .inl ⟨vs, k, dd, ry, rel.val k⟩
  · obtain ⟨z, hd, vs, rel, dd⟩ := dk_of I.hok h
    cases rel
    obtain ⟨ds, n, rfl, e1, e2, e3⟩ := keyT_of ht
    obtain ⟨b, vs, rfl, _⟩ := hk.tupE
    cases ry
    exact .inr ⟨[], .tup n, b, rfl, DictOf.flip dd, ⟨rp_nested I hK sub hk e2 rfl, e3⟩, True.intro⟩
end
def rInX (c : Cfg) (neg : Bool) : R2 := fun y x H Q => ∃ a o, x = .ref a ∧ LookA c H a y o ∧ Q (.bl (if neg then !o.isSome else o.isSome)) H
def tGet1X (c : Cfg) (td ty : TE) : TE := fun σ H Q => td σ H fun x H1 => ∃ a, x = .ref a ∧ IsA c H1 a ∧ ty σ H1 fun y H2 => ∃ o, LookA c H2 a y o ∧ Q (o.getD .non) H2
def rSetX (c : Cfg) : TSet := fun o i v H Q => ∃ p, o = .ref p ∧ PutX c H p i v Q
def tDNewX (c : Cfg) : TE := fun _ H Q => ∀ p o, H p = none → DcO c.w p o [] [] [] → Q (.ref p) (upd H p (xdO p o))
section
variable {X : Cx} {c : Cfg} {o i e f value : Expr} {pos pos' apos cpos : Pos} {td ty tv tx : TE}
/-- d[y] by values -/
def rGetX (c : Cfg) : R2 := fun x y H Q => ∃ a v, x = .ref a ∧ LookA c H a y (some v) ∧ Q v H
theorem ix_X (hK : X.K = c.K) (hw : X.w = c.w) (hu : X.A.units + 10 < cLine) : IxR X (rGetX c) := by
  intro ve se pins st σ H x y xv yv Q I rx ry ⟨a, v, ex, look, fin⟩ plain
  subst ex
  cases rx
  have ty := (look.isA.at_ I).1
  unfold subscriptTail
  refine wpAny_bind ?_
  rw [getitemInPython_of_ne ty.not_modules]
  refine wpAny_bind (wpAny_specialOf ty PySem.F.slot_dict_getitem.lookup ?_)
  have got := x_getItem (E := X.xe) (Q := EP X pins σ Q) hu I (look.x I hK hw ry) fun w' s' I' rw' => ⟨v, H, I', rw', fin⟩
  first
    | exact wpAny_pure (wpAny_bind (by rw [plain]; exact wpAny_operating (wpAny_mono got (fun _ _ h => wpAny_bind (wpAny_letTemporaryGo (wpAny_pure h))) fun _ _ h => h)))
    | exact wpAny_bind (wpAny_pure (wpAny_bind (by rw [plain]; exact wpAny_operating (wpAny_mono got (fun _ _ h => wpAny_bind (wpAny_letTemporaryGo (wpAny_pure h))) fun _ _ h => h))))
    | exact wpAny_bind (by rw [plain]; exact wpAny_operating (wpAny_mono got (fun _ _ h => wpAny_bind (wpAny_letTemporaryGo (wpAny_pure h))) fun _ _ h => h))
theorem op_inX (hK : X.K = c.K) (hw : X.w = c.w) (hu : X.A.units + 10 < cLine) : OpR X (compareOp .In) (rInX c false) := by
  rintro pins st σ H y x yv xv Q I ry rx ⟨a, vo, ex, look, fin⟩
  subst ex
  cases rx
  exact x_in hu I (look.isA.at_ I).2.2 (look.x I hK hw ry) fun s' I' => ⟨.bl vo.isSome, H, I', rfl, fin⟩
theorem op_ninX (hK : X.K = c.K) (hw : X.w = c.w) (hu : X.A.units + 10 < cLine) : OpR X (compareOp .NotIn) (rInX c true) := by
  rintro pins st σ H y x yv xv Q I ry rx ⟨a, vo, ex, look, fin⟩
  subst ex
  cases rx
  exact x_notIn hu I (look.isA.at_ I).2.2 (look.x I hK hw ry) fun s' I' => ⟨.bl (!vo.isSome), H, I', rfl, fin⟩
/-- a method of a dict: the receiver first, then the arguments -/
theorem call_ofX {pins : List (Addr × Obj)} {σ : L2.St} {H : Hp} {s : Shared} {name : Str} {id : String} {args : List Expr} {Q : VK} {R : Addr → Hp → Prop} (base : attributeBase o name X.env (eval o X.env) = eval o X.env)
    (few : ((backTo cpos (starEach args X.env)).all (fun x => !x.1) && (backToKw cpos (keywordEach [] X.env)).all (fun x => x.1.isSome) && decide (args.length + ([] : List Keyword).length + (if ([] : List Keyword).isEmpty then 0 else 1) < 30)) = true) (line : (apos.endLine == cpos.line) = true)
    (slot : Slot "dict" name id) (hty : typeOf (.builtin id) = pure (.type "method_descriptor")) (ho : PE X o td) (I : Inv X pins σ H s) (h : td σ H fun x H1 => ∃ a, x = .ref a ∧ IsA c H1 a ∧ R a H1)
    (q : ∀ a H1 s1, Inv X pins σ H1 s1 → R a H1 → (a == sysModules) = false → wpAny (model X.prog X.w) X.A (callWith cpos (.builtin id) [.ref a] (backTo cpos (starEach args X.env)) []) (EP X pins σ Q) X.xe s1) :
    wpAny (model X.prog X.w) X.A (eval (.Call (.Attribute o name apos) args [] cpos) X.env) (EP X pins σ Q) X.xe s :=
  wpAny_Call_method base few line PySem.F.plainAttrs_dict slot hty (thn (ho.run pins s σ H _ I h) fun w s1 ⟨x, H1, I1, rx, a, ex, ia, rest⟩ => by
    subst ex
    cases rx
    have at_ := ia.at_ I1
    exact ⟨at_.1, at_.2.1, q a H1 s1 I1 rest at_.2.2⟩)
theorem pe_get1X (hK : X.K = c.K) (hw : X.w = c.w) (hu : X.A.units + 10 < cLine) (ho : PE X o td) (he : PE X e ty) (m : M1 X o "get" apos e cpos) : PE X (.Call (.Attribute o "get" apos) [e] [] cpos) (tGet1X c td ty) :=
  ⟨fun pins s σ H Q I h => call_ofX (c := c) m.base m.few m.line PySem.F.slot_dict_get PySem.F.type_dict_get ho I h fun a H1 s1 I1 key low => by
    rw [m.trees]
    refine Calls.callWith_builtin rfl (Calls.evalArgs_plain (Calls.spliced_cons (thn (he.run pins s1 σ H1 _ I1 key) fun yv s2 ⟨y, H2, I2, ry, vo, look, fin⟩ => Calls.spliced_nil ?_)))
    exact x_get1 hu I2 low (look.x I2 hK hw ry) fun w' s' I' rw' => ⟨_, H2, I', rw', fin⟩⟩
theorem set_X (hK : X.K = c.K) (hw : X.w = c.w) (hu : X.A.units + 10 < cLine) : PSet X (rSetX c) := by
  rintro pins st σ H x y v xv yv zv Q I rx ry rz ⟨p, ex, ob, ks, kv, us, k, G, p1, p2, p3, p4, p5, p6, p7, fin⟩
  subst ex
  cases rx
  exact x_setItem hu I hK hw p3 p1 p2 p4 p5 p6 p7 ry rz fun s' o' I' d => ⟨_, I', fin o' d⟩
theorem pe_dnewX (hw : X.w = c.w) : PE X (.Dict [] [] pos) (tDNewX c) := ⟨fun pins s σ H Q I h => by
  have made := I.laid (a := s.heap.objs.size) (o := xdO s.heap.objs.size { cls := .type "dict", data := .dict #[] }) (t' := s.toks) (fun _ _ e => Heap.get?_push_of_some _ e) (Nat.le_refl _) (xd_ok (Heap.get?_push_size _ rfl))
  exact wpAny_Dict_empty ⟨.ref s.heap.objs.size, _, made, rfl, h _ _ (I.hok.fresh (Nat.le_refl _)) (DcO.new I.big)⟩⟩
end
end Fx
/-! dicts on data -/
namespace Fx
open PySem PySem.Spec PyProof.Rows L2
open C8 (Cal Mak pe_c pe_mk)
/-! ### reads -/
def gDget : D → D → Option S
  | .dct ks ds, k => if homog ks k then (look ks k ds).bind ok1 else none
  | .dcq ks ds, k => if homog ks k then (look ks k ds).bind ok1 else none
  | _, _ => none
def gInD (neg : Bool) : D → D → Option S
  | k, .dct ks _ => if homog ks k then ok1 (.bl (if neg then !hasKey ks k else hasKey ks k)) else none
  | _, _ => none
/-- a name that holds a dict, whether it may still be changed or not -/
def isDc : D → Bool
  | .dct _ _ => true
  | .dcq _ _ => true
  | _ => false
def peekD (ρ : En) (i : Nat) : Bool := match peek ρ i with
  | some x => isDc x
  | none => false
section
variable {c : Cfg} {B : Base} {W : WX} {ts : En} {vs : List (Option V)} {ρ : En} {σ : L2.St} {H : Hp} {ta tb tx : TE} {fa fb fx : M S} {i : Nat}
theorem look_rp {G : Hp} {us : List V} {ds ks : List D} {k x : D} (ka : RpAll c G us ds) (e : look ks k ds = some x) : ∃ v, look ks k us = some v ∧ Rp c G v x := by
  unfold look at e ⊢
  cases h : keyAt ks k with
  | none => rw [h] at e; cases e
  | some j =>
    rw [h] at e
    exact ka.get e
theorem look_no {G : Hp} {us : List V} {ds ks : List D} {k : D} (ka : RpAll c G us ds) (e : look ks k ds = none) : look ks k us = none := by
  unfold look at e ⊢
  cases h : keyAt ks k with
  | none => rfl
  | some j =>
    rw [h] at e
    have e : ds[j]? = none := e
    show us[j]? = none
    rw [List.getElem?_eq_none_iff] at e ⊢
    rw [ka.length]
    exact e
/-- a dict at a, either of its two forms -/
def DcAt (c : Cfg) (G H : Hp) (a : Addr) (ks ds : List D) : Prop := (∃ kvs : List (Key × V), H a = some (.dK kvs) ∧ ks = kvs.map (fun p => keyD p.1) ∧ RpAll c G (kvs.map (·.2)) ds) ∨ ∃ o kv us, H a = some (xdO a o) ∧ DcO c.w a o ks kv us ∧ RpAll c G kv ks ∧ RpAll c G us ds
theorem Rp.dcE {G : Hp} {v : V} {ks ds : List D} (s : ∀ a o, G a = some o → H a = some o) (h : Rp c G v (.dct ks ds)) : ∃ a, v = .ref a ∧ DcAt c G H a ks ds := by
  cases h with
  | @dcx a o kv us _ _ ha hd k1 k2 => exact ⟨a, rfl, .inr ⟨o, kv, us, s _ _ ha, hd, k1, k2⟩⟩
theorem DcAt.isA {G : Hp} {a : Addr} {ks ds : List D} (h : DcAt c G H a ks ds) : IsA c H a := by
  rcases h with ⟨kvs, ha, _⟩ | ⟨o, kv, us, ha, hd, _⟩
  · exact .inr ⟨kvs, ha⟩
  · exact .inl ⟨o, ks, kv, us, ha, hd⟩
theorem Rp.dqE {G : Hp} {v : V} {ks ds : List D} (s : ∀ a o, G a = some o → H a = some o) (h : Rp c G v (.dcq ks ds)) : ∃ a, v = .ref a ∧ DcAt c G H a ks ds := by
  cases h with
  | @dct a kvs _ ha ka => exact ⟨a, rfl, .inl ⟨kvs, s _ _ ha, rfl, ka⟩⟩
/-- what is found -/
inductive OptRp (c : Cfg) (G : Hp) : Option V → Option D → Prop
  | none : OptRp c G none none
  | some {v : V} {x : D} : Rp c G v x → OptRp c G (some v) (some x)
theorem valV_none {kvs : List (Key × V)} {k : Key} (e : keyAt (kvs.map fun p => keyD p.1) (keyD k) = none) : valV kvs k = none := by
  refine valV_no ?_
  have := any_idx (p := keyEq (keyD k)) (l := kvs.map fun p => keyD p.1)
  unfold keyAt at e
  rw [e] at this
  exact this
theorem keyAt_lt {ks : List D} {k : D} {j : Nat} (e : keyAt ks k = some j) : j < ks.length := (List.findIdx?_eq_some_iff_findIdx_eq.mp e).1
theorem DcAt.find {G : Hp} {a : Addr} {ks ds : List D} {w : V} {k : D} (s : ∀ a o, G a = some o → H a = some o) (h : DcAt c G H a ks ds) (h2 : Rp c G w k) (hm : homog ks k = true) :
    ∃ vo, LookA c H a w vo ∧ OptRp c G vo (look ks k ds) ∧ vo.isSome = hasKey ks k := by
  have hs : ∀ (n : Nat) (l : List D), l.length = ks.length → (look ks k l).isSome = hasKey ks k := by
    intro n l hl
    unfold look hasKey
    rw [any_idx]
    show ((keyAt ks k).bind fun i => l[i]?).isSome = (keyAt ks k).isSome
    cases e : keyAt ks k with
    | none => rfl
    | some i =>
      have hi := keyAt_lt e
      show (l[i]?).isSome = true
      rw [List.getElem?_eq_getElem (by omega)]
      rfl
  rcases h with ⟨kvs, ha, rfl, ka⟩ | ⟨o, kv, us, ha, hd, k1, k2⟩
  · have hl : ds.length = (kvs.map fun p => keyD p.1).length := by rw [← ka.length, List.length_map, List.length_map]
    have hs' := hs 0 ds hl
    unfold homog at hm
    rw [Bool.or_eq_true, Bool.and_eq_true, Bool.and_eq_true] at hm
    have real : isKey k = true → ∃ vo, LookA c H a w vo ∧ OptRp c G vo (look (kvs.map fun p => keyD p.1) k ds) ∧ vo.isSome = hasKey (kvs.map fun p => keyD p.1) k := by
      intro hk
      obtain ⟨k0, rfl, rfl⟩ := key_of h2 hk
      refine ⟨valV kvs k0, .inr (.inl ⟨kvs, k0, ha, rfl, rfl⟩), ?_, ?_⟩
      · cases e : look (kvs.map fun p => keyD p.1) (keyD k0) ds with
        | none =>
          have : keyAt (kvs.map fun p => keyD p.1) (keyD k0) = none := by
            unfold Fx.look at e
            cases ei : keyAt (kvs.map fun p => keyD p.1) (keyD k0) with
            | none => rfl
            | some j =>
              rw [ei] at e
              have hj := keyAt_lt ei
              have e : ds[j]? = none := e
              rw [List.getElem?_eq_getElem (by omega)] at e
              cases e
          rw [valV_none this]
          exact .none
        | some x =>
          unfold Fx.look at e
          cases ei : keyAt (kvs.map fun p => keyD p.1) (keyD k0) with
          | none => rw [ei] at e; cases e
          | some j =>
            rw [ei] at e
            obtain ⟨u, e1, e2⟩ := valV_at ka ei e
            rw [e1]
            exact .some e2
      · rw [← valV_any, ← any_map2 (p := keyEq (keyD k0)) (l1 := kvs.map fun p => keyD p.1) (q := fun kv : Key × V => decide (kv.1 = k0)) (l2 := kvs)]
        · rfl
        · rw [List.map_map]
          apply List.map_congr_left
          intro p _
          show keyEq (keyD k0) (keyD p.1) = _
          rw [keyEq_keyD]
          by_cases e : p.1 = k0
          · rw [decide_eq_true e, decide_eq_true e.symm]
          · rw [decide_eq_false e, decide_eq_false fun z => e z.symm]
    rcases hm with hm | hm
    · exact real hm.1
    · cases kvs with
      | nil => exact ⟨none, .inr (.inr ⟨ha, ⟨G, k, s, h2, hm.1⟩, rfl⟩), .none, rfl⟩
      | cons p r =>
        have := hm.2
        rw [List.map_cons, List.all_cons, key_notT] at this
        cases this
  · refine ⟨Fx.look ks k us, .inl ⟨o, ks, kv, us, k, G, ha, hd, s, k1, h2, hm, rfl⟩, ?_, hasKey_look hd⟩
    cases e : Fx.look ks k ds with
    | none => rw [look_no k2 e]; exact .none
    | some x =>
      obtain ⟨u, e1, e2⟩ := look_rp k2 e
      rw [e1]
      exact .some e2
theorem den_dget (ha : Den c W ta fa) (hb : Den c W tb fb) : Den c W (tOp (rGetX c) ta tb) (mOp gDget fa fb) := fun B ts vs ρ σ H Q r q => by
  unfold mOp at q
  rw [post_then] at q
  refine ha.dv r (q.imp1 fun x ρ1 q v H1 r1 => ?_)
  rw [post_then] at q
  refine hb.dv r1 (q.imp (fun y ρ2 q w H2 r2 => ?_) fun _ _ h => h.drop)
  have q : Post (OkP c B ts vs σ Q) (ErrP c W B ts vs σ) (match gDget x y with
    | some s => .ok s ρ2
    | none => .stuck) := q
  cases x with
  | dct ks ds =>
    cases e : gDget (.dct ks ds) y with
    | none => rw [e] at q; exact q.elim
    | some s =>
      rw [e] at q
      have e : (if homog ks y then (look ks y ds).bind ok1 else none) = some s := e
      split at e
      · rename_i hm
        obtain ⟨G, O, h1, h2⟩ := r2.two
        obtain ⟨a, rfl, g⟩ := h1.dcE O.sub
        obtain ⟨vo, g1, g2, _⟩ := g.find O.sub h2 hm
        cases el : look ks y ds with
        | none => rw [el] at e; cases e
        | some z =>
          rw [el] at e g2
          cases e
          cases g2 with
          | some hu => exact ⟨a, _, rfl, g1, q _ _ (O.val hu)⟩
      · cases e
  | dcq ks ds =>
    cases e : gDget (.dcq ks ds) y with
    | none => rw [e] at q; exact q.elim
    | some s =>
      rw [e] at q
      have e : (if homog ks y then (look ks y ds).bind ok1 else none) = some s := e
      split at e
      · rename_i hm
        obtain ⟨G, O, h1, h2⟩ := r2.two
        obtain ⟨a, rfl, g⟩ := h1.dqE O.sub
        obtain ⟨vo, g1, g2, _⟩ := g.find O.sub h2 hm
        cases el : look ks y ds with
        | none => rw [el] at e; cases e
        | some z =>
          rw [el] at e g2
          cases e
          cases g2 with
          | some hu => exact ⟨a, _, rfl, g1, q _ _ (O.val hu)⟩
      · cases e
  | _ => exact q.elim
/-- the dict that a name holds -/
theorem Rep.dctAt {x : D} {ks ds : List D} (e : peek ρ i = some x) (hx : x = .dct ks ds ∨ x = .dcq ks ds) (r : Rep c B ts vs ρ σ H) : ∃ a G o1 o2, σ[i]? = some (some (.ref a)) ∧ OkB c B G H (o1 ++ o2) ∧ Sl c B G H ts vs o1 ∧ Sl c B G H ρ σ o2 ∧ DcAt c G H a ks ds := by
  unfold peek at e
  obtain ⟨G, o1, o2, k, h1, h2⟩ := r
  split at e
  · rename_i x e1
    cases e
    obtain ⟨v, ev, hv⟩ := h2.getD e1
    rcases hx with rfl | rfl
    · obtain ⟨a, rfl, g⟩ := hv.dcE k.sub
      exact ⟨a, G, o1, o2, ev, k, h1, h2, g⟩
    · obtain ⟨a, rfl, g⟩ := hv.dqE k.sub
      exact ⟨a, G, o1, o2, ev, k, h1, h2, g⟩
  · rename_i b x e1
    cases e
    obtain ⟨a, ev, hc, _, _⟩ := h2.getO e1
    rcases hx with rfl | rfl
    · exact ⟨a, G, o1, o2, ev, k, h1, h2, .inr hc⟩
    · exact hc.elim
  · cases e
def mDgetN (i : Nat) (fb : M S) : M S := fun ρ => if peekD ρ i then (dv fb ρ).then fun y ρ1 => match peek ρ1 i with
    | some x => match gDget x y with
      | some s => .ok s ρ1
      | none => .stuck
    | none => .stuck
  else .stuck
theorem peekD_at (h : peekD ρ i = true) (r : Rep c B ts vs ρ σ H) : ∃ a, σ[i]? = some (some (.ref a)) := by
  unfold peekD at h
  cases e : peek ρ i with
  | none => rw [e] at h; cases h
  | some x =>
    rw [e] at h
    cases x <;> first | cases h | skip
    · obtain ⟨a, _, _, _, ev, _⟩ := r.dctAt e (.inl rfl)
      exact ⟨a, ev⟩
    · obtain ⟨a, _, _, _, ev, _⟩ := r.dctAt e (.inr rfl)
      exact ⟨a, ev⟩
theorem den_dgetN (hb : Den c W tb fb) : Den c W (tOp (rGetX c) (tVar i) tb) (mDgetN i fb) := fun B ts vs ρ σ H Q r q => by
  unfold mDgetN at q
  split at q
  · rename_i hp
    obtain ⟨a, ev⟩ := peekD_at hp r
    rw [post_then] at q
    refine ⟨.ref a, ev, hb.dv r (q.imp1 fun y ρ1 q w H1 r1 => ?_)⟩
    cases e1 : peek ρ1 i with
    | none => rw [e1] at q; exact q.elim
    | some x =>
      rw [e1] at q
      have q : Post (OkP c B ts vs σ Q) (ErrP c W B ts vs σ) (match gDget x y with
        | some s => .ok s ρ1
        | none => .stuck) := q
      cases x with
      | dct ks ds =>
        cases e : gDget (.dct ks ds) y with
        | none => rw [e] at q; exact q.elim
        | some s =>
          rw [e] at q
          have e : (if homog ks y then (look ks y ds).bind ok1 else none) = some s := e
          split at e
          · rename_i hm
            obtain ⟨a', G, o1, o2, ev', kk, h1, h2, g⟩ := r1.dctAt e1 (.inl rfl)
            rw [ev] at ev'
            cases ev'
            cases h1 with
            | d hy h1 =>
              obtain ⟨vo, g1, g2, _⟩ := g.find kk.sub hy hm
              cases el : look ks y ds with
              | none => rw [el] at e; cases e
              | some z =>
                rw [el] at e g2
                cases e
                cases g2 with
                | some hu => exact ⟨a, _, rfl, g1, q _ _ ⟨G, o1, o2, kk, .d hu h1, h2⟩⟩
          · cases e
      | dcq ks ds =>
        cases e : gDget (.dcq ks ds) y with
        | none => rw [e] at q; exact q.elim
        | some s =>
          rw [e] at q
          have e : (if homog ks y then (look ks y ds).bind ok1 else none) = some s := e
          split at e
          · rename_i hm
            obtain ⟨a', G, o1, o2, ev', kk, h1, h2, g⟩ := r1.dctAt e1 (.inr rfl)
            rw [ev] at ev'
            cases ev'
            cases h1 with
            | d hy h1 =>
              obtain ⟨vo, g1, g2, _⟩ := g.find kk.sub hy hm
              cases el : look ks y ds with
              | none => rw [el] at e; cases e
              | some z =>
                rw [el] at e g2
                cases e
                cases g2 with
                | some hu => exact ⟨a, _, rfl, g1, q _ _ ⟨G, o1, o2, kk, .d hu h1, h2⟩⟩
          · cases e
      | _ => exact q.elim
  · exact q.elim
/-- x in d, d a name -/
def mInN (neg : Bool) (fa : M S) (i : Nat) : M S := fun ρ => (dv fa ρ).then fun y ρ1 => match peek ρ1 i with
  | some x => match gInD neg y x with
    | some s => .ok s ρ1
    | none => .stuck
  | none => .stuck
theorem den_inN {neg : Bool} (ha : Den c W ta fa) : Den c W (tOp (rInX c neg) ta (tVar i)) (mInN neg fa i) := fun B ts vs ρ σ H Q r q => by
  unfold mInN at q
  rw [post_then] at q
  refine ha.dv r (q.imp1 fun y ρ1 q w H1 r1 => ?_)
  cases e1 : peek ρ1 i with
  | none => rw [e1] at q; exact q.elim
  | some x =>
    rw [e1] at q
    have q : Post (OkP c B ts vs σ Q) (ErrP c W B ts vs σ) (match gInD neg y x with
      | some s => .ok s ρ1
      | none => .stuck) := q
    cases x with
    | dct ks ds =>
      cases e : gInD neg y (.dct ks ds) with
      | none => rw [e] at q; exact q.elim
      | some s =>
        rw [e] at q
        have e : (if homog ks y then ok1 (.bl (if neg then !hasKey ks y else hasKey ks y)) else none) = some s := by cases y <;> exact e
        split at e
        · rename_i hm
          cases e
          obtain ⟨a, G, o1, o2, ev, kk, h1, h2, g⟩ := r1.dctAt e1 (.inl rfl)
          cases h1 with
          | d hy h1 =>
            obtain ⟨vo, g1, g2, g3⟩ := g.find kk.sub hy hm
            exact ⟨.ref a, ev, a, vo, rfl, g1, by rw [g3]; exact q _ _ ⟨G, o1, o2, kk, .d (.bl _) h1, h2⟩⟩
        · cases e
    | _ => cases y <;> exact q.elim
end
end Fx
/-! tuple(d) of a dict -/
namespace Fx
open PySem PySem.Spec PyProof.Rows L2
open PySem.W (KdlSrc kdl_call kdu_collect)
end Fx
/-! dicts on data: get, store, new, comprehension, len, truth, walks, list(d), tuple(d), list(d.values()) -/
namespace Fx
open PySem PySem.Spec PyProof.Rows L2
open PySem.W (KdlSrc kdl_call)
open C8 (Cal Mak pe_c pe_mk)
/-- a dict whose keys and values are known -/
def WholeX (c : Cfg) (H : Hp) (a : Addr) (o : Obj) (ks : List D) (kv us : List V) : Prop := H a = some (xdO a o) ∧ DcO c.w a o ks kv us ∧ ∃ G : Hp, (∀ a o, G a = some o → H a = some o) ∧ RpAll c G kv ks
section
variable {X : Cx} {pins : List (Addr × Obj)} {σ : L2.St} {H : Hp} {s : Shared} {c : Cfg} {a : Addr} {o : Obj} {ks : List D} {kv us : List V}
theorem WholeX.raw (I : Inv X pins σ H s) (hK : X.K = c.K) (hw : X.w = c.w) (h : WholeX c H a o ks kv us) : s.heap.get? a = some o ∧ (a == sysModules) = false ∧ o.ExactDict ∧ ks.length ≤ sizeLine ∧ ∃ es ep, o.data = .dict es ep ∧ s.heap.DictRaw a es ep ∧ Vals kv (es.toList.map (·.key)) ∧ Vals us (es.toList.map (·.val)) ∧ es.size = ks.length := by
  obtain ⟨h1, h2, G, h3, h4⟩ := h
  exact ⟨xd_get I h1, h2.sys, h2.exact, h2.len, h2.raw I hK hw h3 h1 h4⟩
/-! ### for k in d -/
def ItkX (d : Addr) (o : Obj) (kv : List V) : It :=
  ⟨fun i H => H d = some (xdO d o) ∧ i < kv.length, fun i H x H' => H' = H ∧ kv[i]? = some x, fun i H => H d = some (xdO d o) ∧ kv.length ≤ i⟩
theorem turn_keysX {P : Program} {w : World} {K : PySem.W.Frag} {tg : Expr} {d : Addr} {o : Obj} {es : Array DictEntry} {ep : Nat} {kv : List V} (it : Addr) (exact_ : o.ExactDict) (dat : o.data = .dict es ep) (keys : Vals kv (es.toList.map (·.key))) :
    Turn P w K tg (ItkX d o kv) [it] it (fun i h => h.IsKeyIter it d i es.size ep) := by
  have size : kv.length = es.size := by rw [keys.length, List.length_map, Array.length_toList]
  refine ⟨List.mem_singleton.mpr rfl, fun i h ⟨ob, e, _, f⟩ b hb => ?_, fun i h h' at_ keep => at_.at fun ob e => keep it (List.mem_singleton.mpr rfl) ob e, ?_, ?_, fun A i s Q E at_ h => ?_⟩
  · rw [List.mem_singleton.mp hb]
    exact ⟨ob, e, fun v z => by rw [f] at z; cases z⟩
  · rintro X rfl rfl rfl calm i pins s σ H E I mine at_ ⟨stands, lt⟩
    obtain ⟨f0, f1, _, f3, f4, f5⟩ := mine it (List.mem_singleton.mpr rfl)
    have lt2 : i < es.size := size ▸ lt
    obtain ⟨u, eu, ru⟩ := keys.get (List.getElem?_eq_getElem lt)
    have eu : u = es[i].key := by
      rw [List.getElem?_map, Array.getElem?_toList, Array.getElem?_eq_getElem lt2] at eu
      exact (Option.some.inj eu).symm
    refine wpAny_pyNext_keys_item_raw at_ ⟨o, xd_get I stands, exact_, dat⟩ lt2 fun h' at2 same => ⟨es[i].key, rfl, ?_⟩
    obtain ⟨ob, e1, e2, e3⟩ := id at2
    have I1 : Inv X pins σ H { s with heap := h' } := I.turned (t' := s.toks) (fun b ob' ne e => (same.2 b ne).trans e) f0 f1 f3 f4 f5
    exact go_of (s := { s with heap := h' }) e1 e2 e3 (by decide) ⟨kv[i], H, I1, eu ▸ ru, ⟨rfl, List.getElem?_eq_getElem lt⟩, at2, fun b hb => (mine b hb).1⟩
  · rintro X rfl rfl rfl calm i pins s σ H E I mine at_ ⟨stands, le⟩
    obtain ⟨f0, f1, _, f3, f4, f5⟩ := mine it (List.mem_singleton.mpr rfl)
    exact wpAny_pyNext_keys_end_raw (I.ok.hd calm) at_ ⟨o, xd_get I stands, exact_, dat⟩ (size ▸ le) fun h' but => ⟨rfl, I.turned (t' := s.toks) (fun b ob ne e => but b ob ne e) f0 f1 f3 f4 f5⟩
  · refine wpAny_pyIter_slot at_.typeIs F.slot_dict_keyiterator_iter (wpAny_call_entry F.slot_dict_keyiterator_iter at_.typeIs F.entry_dict_keyiterator_iter ?_ (F.args_dict_keyiterator_iter_1 _))
    exact wpAny_pure (a := Fin.done (.ret (.ref it))) ⟨_, rfl, "dict_keyiterator", _, at_.typeIs, F.slot_dict_keyiterator_next.lookup, h⟩
def iKeysX (c : Cfg) (td : TE) : TI := fun σ H R => td σ H fun x H1 => ∃ d o ks kv us, x = .ref d ∧ WholeX c H1 d o ks kv us ∧ R (ItkX d o kv) H1
theorem pi_keysX {tg e : Expr} {td : TE} (hK : X.K = c.K) (hw : X.w = c.w) (he : PE X e td) : PI X tg e (iKeysX c td) :=
  ⟨fun pins s σ H R I h => thn (he.run pins s σ H _ I h) fun u s1 ⟨x, H1, I1, rx, d, o, ks, kv, us, ex, whole, fin⟩ => by
    subst ex
    cases rx
    obtain ⟨g1, low, g3, _, es, ep, dat, raw, keys, _, _⟩ := whole.raw I1 hK hw
    exact wpAny_pyIter_dict_raw low raw (pi_one (tk := s1.toks) I1 _ (turn_keysX _ g3 dat keys) ⟨_, Heap.get?_push_size _ rfl, rfl, rfl⟩ fin)⟩
end
end Fx
/-! dicts on data: the rules that gen2 prints -/
namespace Fx
open PySem PySem.Spec PyProof.Rows L2
open C8 (Cal Mak pe_c pe_mk)
/-! ### k in d, d.get -/
def mGet1N (i : Nat) (fb : M S) : M S := fun ρ => if peekD ρ i then (dv fb ρ).then fun y ρ1 => match peek ρ1 i with
    | some (.dct ks ds) => if homog ks y then .ok (.d ((look ks y ds).getD .non)) ρ1 else .stuck
    | _ => .stuck
  else .stuck
/-- d[k] = v -/
def gmItemD (i : Nat) (fe : M S) : D → M Unit := fun x ρ => if peekD ρ i then (dv fe ρ).then fun y ρ1 => match ρ1[i]? with
    | some (some (.o b (.dct ks ds))) => if homog ks y && small (ks.length + 1) then .ok () (ρ1.set i (some (.o b (.dct (putKs ks y ks y) (putVs ks y ds x))))) else .stuck
    | _ => .stuck
  else .stuck
def mDnew : M S := fun ρ => .ok (.o none (.dct [] [])) ρ
def gListD : List D → Option S
  | [.dct ks _] => some (.o none (.lst ks))
  | _ => none
def iKeysD (fe : M S) : M (List D) := fun ρ => (dv fe ρ).then fun x ρ' => match x with
  | .dct ks _ => .ok ks ρ'
  | _ => .stuck
section
variable {c : Cfg} {W : WX} {B : Base} {ts : En} {vs : List (Option V)} {ρ : En} {σ : L2.St} {H : Hp} {te ta tb tx : TE} {fe fa fb fx : M S} {i : Nat}
theorem OptRp.getD {G : Hp} {vo : Option V} {xo : Option D} {v : V} {x : D} (h : OptRp c G vo xo) (hx : Rp c G v x) : Rp c G (vo.getD v) (xo.getD x) := by
  cases h with
  | none => exact hx
  | some h => exact h
theorem peekD_is (h : peekD ρ i = true) (r : Rep c B ts vs ρ σ H) : ∃ a, σ[i]? = some (some (.ref a)) ∧ IsA c H a := by
  unfold peekD at h
  cases e : peek ρ i with
  | none => rw [e] at h; cases h
  | some x =>
    rw [e] at h
    cases x <;> first | cases h | skip
    · obtain ⟨a, _, _, _, ev, _, _, _, g⟩ := r.dctAt e (.inl rfl)
      exact ⟨a, ev, g.isA⟩
    · obtain ⟨a, _, _, _, ev, _, _, _, g⟩ := r.dctAt e (.inr rfl)
      exact ⟨a, ev, g.isA⟩
theorem den_get1N (hb : Den c W tb fb) : Den c W (tGet1X c (tVar i) tb) (mGet1N i fb) := fun B ts vs ρ σ H Q r q => by
  unfold mGet1N at q
  split at q
  · rename_i hp
    obtain ⟨a, ev, ia⟩ := peekD_is hp r
    rw [post_then] at q
    refine ⟨.ref a, ev, a, rfl, ia, hb.dv r (q.imp1 fun y ρ1 q w H1 r1 => ?_)⟩
    split at q
    · rename_i ks ds e1
      split at q
      · rename_i hm
        obtain ⟨a', G, o1, o2, ev', kk, h1, h2, g⟩ := r1.dctAt e1 (.inl rfl)
        rw [ev] at ev'
        cases ev'
        cases h1 with
        | d hy h1 =>
          obtain ⟨vo, g1, g2, _⟩ := g.find kk.sub hy hm
          exact ⟨vo, g1, q _ _ ⟨G, o1, o2, kk, .d (g2.getD .non) h1, h2⟩⟩
      · exact q.elim
    · exact q.elim
  · exact q.elim
theorem dct_cell {o : Obj} {ks : List D} {kv us : List V} {w : World} {a : Addr} (d : DcO w a o ks kv us) : isCell (xdO a o) := by
  obtain ⟨es, ep, e⟩ := d.dat
  exact .xd _ _ _ _ e
theorem dg_itemD (h : Den c W te fe) : DenG c W (gSub (tVar i) te (rSetX c)) (gmItemD i fe) [] := fun B ts vs ρ σ H x v Q r q => by
  unfold gmItemD at q
  split at q
  · rename_i hp
    obtain ⟨a, ev⟩ := peekD_at hp r
    rw [post_then] at q
    refine ⟨.ref a, ev, h.dv r (q.imp (fun y ρ1 q1 w H1 r1 => ?_) fun _ _ h => h.drop.toP)⟩
    split at q1
    · rename_i b ks ds e1
      split at q1
      · rename_i hz
        rw [Bool.and_eq_true] at hz
        obtain ⟨hm, hz⟩ := hz
        obtain ⟨G, o1, o2, kk, h1, h2⟩ := id r1
        obtain ⟨a', ev', ⟨o, kv, us, ha, hd, k1, k2⟩, hmem, hb⟩ := h2.getO e1
        rw [ev] at ev'
        cases ev'
        cases h1 with
        | d hw h1 =>
          cases h1 with
          | d hv h1 =>
            have nd := kk.nd
            rw [List.nodup_append] at nd
            have hz := small_line hz
            refine ⟨a, rfl, o, ks, kv, us, y, G, ha, hd, kk.sub, k1, hw, hm, by omega, fun o' d' => q1 σ _ ⟨rfl, fun _ _ => rfl⟩ ?_⟩
            exact ⟨G, o1, o2, kk.write (List.mem_append_right _ hmem) ha (dct_cell hd), h1.mono (fun _ _ e => e) fun q hq => upd_ne fun z => nd.2.2 q hq a hmem z, h2.write nd.2.1 e1 ev (fun q hq => upd_ne hq) ⟨o', _, _, upd_same, d', k1.put hw, k2.putV hv⟩⟩
      · exact q1.elim
    · exact q1.elim
  · exact q.elim
theorem den_dnew : Den c W (tDNewX c) mDnew := fun B ts vs ρ σ H Q r q p o hp d => q _ _ (Rep.newO (ds := []) (us := []) r rfl hp fun G H' e _ => ⟨o, [], [], e, d, .nil, .nil⟩)
theorem di_keysD (h : Den c W te fe) : DenI c W (iKeysX c te) (iKeysD fe) := fun B ts vs ρ σ H R r q => by
  unfold iKeysD at q
  rw [post_then] at q
  refine h.dv r (q.imp1 fun x ρ1 q v H1 r1 => ?_)
  cases x <;> first | exact q.elim | skip
  rename_i ks ds
  have q : OkI c B ts vs σ R ks ρ1 := q
  obtain ⟨G, o1, o2, k, h1, h2⟩ := id r1
  cases h1 with
  | d hv h1 =>
    cases hv with
    | @dcx a o kv us _ _ ha hd k1 k2 =>
      have hl := k1.length
      have all : RpAll c G (V.ref a :: kv) (D.xo a (fun _ => xdO a o) :: ks) := .cons (.xo ha) k1
      have r2 : Rep c B (tmp (D.xo a (fun _ => xdO a o) :: ks) ++ ts) (tmv (V.ref a :: kv) ++ vs) ρ1 σ H1 := ⟨G, o1, o2, k, (all.rev).sl (B := B) (H := H1) h1, h2⟩
      have opn : ∀ {B ts vs ρ σ H}, Rep c B (tmp (D.xo a (fun _ => xdO a o) :: ks) ++ ts) (tmv (V.ref a :: kv) ++ vs) ρ σ H → H a = some (xdO a o) := fun {B ts vs ρ σ H} r => by
        obtain ⟨G, O, kk⟩ := Rep.opn (us := V.ref a :: kv) (by rw [List.length_cons, List.length_cons, hl]) r
        cases kk with
        | cons hx _ =>
          cases hx with
          | xo hx => exact O.sub _ _ hx
      refine ⟨a, o, ks, kv, us, rfl, ⟨k.sub _ _ ha, hd, G, k.sub, k1⟩, q _ (D.xo a (fun _ => xdO a o) :: ks) (V.ref a :: kv) H1 (by rw [List.length_cons, List.length_cons, hl]) r2 ⟨ks.length, fun H => H a = some (xdO a o), fun k H y H' => H' = H ∧ kv[k]? = some y, ⟨?_, ?_, ?_⟩, rfl, fun B ts vs ρ σ H r => opn r, ?_⟩⟩
      · rintro k H hk e1
        exact ⟨e1, by omega⟩
      · rintro H e1
        exact ⟨e1, by omega⟩
      · rintro k H y H' hk e1 ⟨e3, e4⟩
        exact ⟨e3, e4⟩
      · rintro B ts vs ρ σ H k x H' hk r ⟨rfl, ex⟩
        obtain ⟨G, o1, o2, kk, g1, g2⟩ := id r
        obtain ⟨a1, a2⟩ := g1.tmp (by rw [List.length_cons, List.length_cons, hl])
        cases a1 with
        | cons _ a1 =>
          obtain ⟨d, ed, hd⟩ := a1.getV ex
          exact ⟨d, ed, G, o1, o2, kk, .d hd g1, g2⟩
end
end Fx
/-! dicts on data: comprehensions; the rules that gen2 prints -/
namespace Fx
open PySem PySem.Spec PyProof.Rows L2
open C8 (Cal Mak pe_c pe_mk)
open PySem.W (KdlSrc kdl_call)
/-! ### list(d.values()) -/
section
variable {X : Cx} {c : Cfg} {W : WX} {tg it kx vx a b e : Expr} {ifs : List Expr} {fI : M (List D)} {g : D → M Unit} {js : List Nat} {ft : M Bool} {fk fv fa fb fe fx : M S} {scope : Scope} {own : List (Str × Nat)} {pos p p2 apos cpos : Pos} {wi : TI} {tgt : TG} {tt : TT} {tk tv ta tb te tx : TE} {kk : Nat} {x : Str}
theorem un10 {A : Around} (hr : Room kk A) : A.units + 10 < cLine := by have := un66 hr; omega
theorem q_dget (hr : Room kk X.A) (hw : X.w = c.w) (ha : QE X c W a ta fa) (hb : QE X c W b tb fb) (hK : X.K = c.K := by rfl) (hs : PlainIx b := by exact fun _ _ => rfl) : QE X c W (.Subscript a b pos) (tOp (rGetX c) ta tb) (mOp gDget fa fb) := by
  obtain ⟨h1, h2⟩ := ha; obtain ⟨k1, k2⟩ := hb
  exact ⟨pe_ix (ix_X hK hw (un10 hr)) h1 k1 hs, den_dget h2 k2⟩
theorem q_dgetN (i : Nat) (hr : Room kk X.A) (hw : X.w = c.w) (hb : QE X c W b tb fb) (hN : X.N[i]? = some x := by rfl) (hv : Vis X.env.scope x := by first | exact Or.inl rfl | exact Or.inr (Or.inl rfl) | exact Or.inr (Or.inr rfl)) (hd : (x == ("__debug__" : Str)) = false := by decide)
    (hcd : (x == ("__classdict__" : Str)) = false := by decide) (hK : X.K = c.K := by rfl) (hs : PlainIx b := by exact fun _ _ => rfl) : QE X c W (.Subscript (.Name x p) b pos) (tOp (rGetX c) (tVar i) tb) (mDgetN i fb) := by
  obtain ⟨k1, k2⟩ := hb
  exact ⟨pe_ix (ix_X hK hw (un10 hr)) (pe_var hN hv hd hcd) k1 hs, den_dgetN k2⟩
theorem t_inN (i : Nat) (hr : Room kk X.A) (hw : X.w = c.w) (ha : QE X c W a ta fa) (hN : X.N[i]? = some x := by rfl) (hv : Vis X.env.scope x := by first | exact Or.inl rfl | exact Or.inr (Or.inl rfl) | exact Or.inr (Or.inr rfl)) (hd : (x == ("__debug__" : Str)) = false := by decide)
    (hcd : (x == ("__classdict__" : Str)) = false := by decide) (hK : X.K = c.K := by rfl) (hm : behindInMarks .In (.Name x p) = false := by with_unfolding_all rfl) : QT X c W (.Compare a [.In] [.Name x p] pos) (tTest (tOp (rInX c false) ta (tVar i))) (mTest (mInN false fa i)) := by
  obtain ⟨h1, h2⟩ := ha
  exact ⟨pt_cmpR (op_inX hK hw (un10 hr)) h1 (pe_var hN hv hd hcd) hm, dt_test (den_inN h2)⟩
theorem t_ninN (i : Nat) (hr : Room kk X.A) (hw : X.w = c.w) (ha : QE X c W a ta fa) (hN : X.N[i]? = some x := by rfl) (hv : Vis X.env.scope x := by first | exact Or.inl rfl | exact Or.inr (Or.inl rfl) | exact Or.inr (Or.inr rfl)) (hd : (x == ("__debug__" : Str)) = false := by decide)
    (hcd : (x == ("__classdict__" : Str)) = false := by decide) (hK : X.K = c.K := by rfl) (hm : behindInMarks .NotIn (.Name x p) = false := by with_unfolding_all rfl) : QT X c W (.Compare a [.NotIn] [.Name x p] pos) (tTest (tOp (rInX c true) ta (tVar i))) (mTest (mInN true fa i)) := by
  obtain ⟨h1, h2⟩ := ha
  exact ⟨pt_cmpR (op_ninX hK hw (un10 hr)) h1 (pe_var hN hv hd hcd) hm, dt_test (den_inN h2)⟩
theorem q_get1N (i : Nat) (hr : Room kk X.A) (hw : X.w = c.w) (hb : QE X c W e tb fb) (hN : X.N[i]? = some x := by rfl) (hv : Vis X.env.scope x := by first | exact Or.inl rfl | exact Or.inr (Or.inl rfl) | exact Or.inr (Or.inr rfl)) (hd : (x == ("__debug__" : Str)) = false := by decide)
    (hcd : (x == ("__classdict__" : Str)) = false := by decide) (hK : X.K = c.K := by rfl) (m : M1 X (.Name x p) "get" apos e cpos := by exact ⟨rfl, rfl, rfl, rfl⟩) : QE X c W (.Call (.Attribute (.Name x p) "get" apos) [e] [] cpos) (tGet1X c (tVar i) tb) (mGet1N i fb) := by
  obtain ⟨k1, k2⟩ := hb
  exact ⟨pe_get1X hK hw (un10 hr) (pe_var hN hv hd hcd) k1 m, den_get1N k2⟩
theorem g_itemD (i : Nat) (hr : Room kk X.A) (hw : X.w = c.w) (h : QE X c W e te fe) (hN : X.N[i]? = some x := by rfl) (hv : Vis X.env.scope x := by first | exact Or.inl rfl | exact Or.inr (Or.inl rfl) | exact Or.inr (Or.inr rfl)) (hd : (x == ("__debug__" : Str)) = false := by decide)
    (hcd : (x == ("__classdict__" : Str)) = false := by decide) (hK : X.K = c.K := by rfl)
    (ha : ∀ v, assign (.Subscript (.Name x p) e pos) X.env v = (do
      let ov ← holding [v] (eval (.Name x p) X.env)
      let iv ← holding [v, ov] (eval e X.env)
      standAt pos
      holding [v, ov, iv] (setItem ov iv v)
      release [v, ov, iv] []) := by intro _; rfl) : QG X c W (.Subscript (.Name x p) e pos) (gSub (tVar i) te (rSetX c)) (gmItemD i fe) [] := by
  obtain ⟨h1, h2⟩ := h
  exact ⟨pg_sub (pe_var hN hv hd hcd) h1 (set_X hK hw (un10 hr)) ha, dg_itemD h2⟩
theorem q_dnew (hw : X.w = c.w) : QE X c W (.Dict [] [] pos) (tDNewX c) mDnew := ⟨pe_dnewX hw, den_dnew⟩
theorem i_keysD (hw : X.w = c.w) (h : QE X c W e te fe) (hK : X.K = c.K := by rfl) : QI X c W tg e (iKeysX c te) (iKeysD fe) := by
  obtain ⟨h1, h2⟩ := h
  exact ⟨pi_keysX hK hw h1, di_keysD h2⟩
end
end Fx
/-! sorted of a tuple or a list of pairs of ints -/
namespace PySem
open PySem.Spec PyProof.Rows SrtO
end PySem
namespace Fx
open PySem PySem.Spec PyProof.Rows L2
/-! ### on data -/
end Fx
/-! sorted of a tuple or a list of tuples of ints, none empty, of any lengths -/
namespace PySem
open PySem.Spec PyProof.Rows SrtO
/-- one before another, as tuples of ints are -/
def lexI : List Int → List Int → Bool
  | [], [] => false
  | [], _ :: _ => true
  | _ :: _, [] => false
  | x :: xs, y :: ys => if x = y then lexI xs ys else decide (x < y)
section
variable {prog : Program} {w : World} {A : Around} {E : Value → Shared → Prop} {s : Shared}
/-- a tuple of ints, not empty -/
def NeT (h : Heap) (v : Value) (ns : List Int) : Prop := TS.TupInts h v ns ∧ ns ≠ []
theorem NeT.keeps {h h' : Heap} {v : Value} {ns : List Int} (x : NeT h v ns) (k : ∀ b o, h.get? b = some o → o.cls = .type "tuple" → h'.get? b = some o) : NeT h' v ns := ⟨x.1.keeps k, x.2⟩
end
end PySem
namespace Fx
open PySem PySem.Spec PyProof.Rows L2
/-! ### on data -/
def tpD (ns : List Int) : D := .tup (ns.map D.int)
def tpOf : D → Option (List Int)
  | .tup ds => match intsD ds with
    | some [] => none
    | some (n :: ns) => some (n :: ns)
    | none => none
  | _ => none
def tpsOf : List D → Option (List (List Int))
  | [] => some []
  | d :: ds => match tpOf d, tpsOf ds with
    | some p, some ps => some (p :: ps)
    | _, _ => none
/-- not behind -/
def leL (p q : List Int) : Prop := lexI q p = false
instance (p q : List Int) : Decidable (leL p q) := by unfold leL; infer_instance
def insL (p : List Int) : List (List Int) → List (List Int)
  | [] => [p]
  | q :: qs => if leL p q then p :: q :: qs else q :: insL p qs
def isortL : List (List Int) → List (List Int)
  | [] => []
  | p :: ps => insL p (isortL ps)
def gSortA : List D → Option S
  | [.lst ds] => match intsD ds with
    | some ns => some (.o none (.lst ((isort ns).map D.int)))
    | none => (tpsOf ds).map fun ps => .o none (.lst ((isortL ps).map tpD))
  | [.tup ds] => (tpsOf ds).map fun ps => .o none (.lst ((isortL ps).map tpD))
  | _ => none
end Fx
/-! a dict whose values are lists that change: d = {k: [..] for ..}, d[k].append(x), d[k].pop(), frozen when it is read -/
namespace Fx
open PySem PySem.Spec PyProof.Rows L2
open C8 (Cal Mak pe_c pe_mk)
section
variable {c : Cfg} {B : Base} {G G' H H' : Hp} {own own' : Owns} {ts : En} {vs : List (Option V)} {ρ : En} {σ : L2.St}
theorem LsAll.get : ∀ {bs : List Addr} {dss : List (List D)} {n : Nat} {ds : List D}, LsAll c G H bs dss → dss[n]? = some ds → ∃ b us, bs[n]? = some b ∧ H b = some (.lst us) ∧ RpAll c G us ds
  | _, _, _, _, .nil, e => by simp at e
  | _, _, 0, _, .cons h k _, e => by simp at e; subst e; exact ⟨_, _, rfl, h, k⟩
  | _, _, n + 1, _, .cons _ _ l, e => by
    obtain ⟨b, us, e1, e2⟩ := LsAll.get (n := n) l (by simpa using e)
    exact ⟨b, us, by simpa using e1, e2⟩
theorem LsAll.put {b : Addr} {us : List V} {es : List D} (hb : H' b = some (.lst us)) (k : RpAll c G us es) (hh : ∀ q, q ≠ b → H' q = H q) : ∀ {bs : List Addr} {dss : List (List D)} {n : Nat}, LsAll c G H bs dss → bs[n]? = some b → bs.Nodup → LsAll c G H' bs (dss.set n es)
  | _, _, _, .nil, e, _ => by simp at e
  | b0 :: bs, ds0 :: dss, 0, .cons _ _ l, e, nd => by
    simp at e
    subst e
    rw [List.nodup_cons] at nd
    exact .cons hb k (l.mono (fun _ _ e => e) fun p hp => hh p fun z => nd.1 (z ▸ hp))
  | b0 :: bs, ds0 :: dss, n + 1, .cons h0 k0 l, e, nd => by
    rw [List.nodup_cons] at nd
    have e : bs[n]? = some b := by simpa using e
    have ne : b0 ≠ b := fun z => nd.1 (z ▸ List.mem_of_getElem? e)
    exact .cons ((hh _ ne).trans h0) k0 (LsAll.put hb k hh l e nd.2)
theorem LsAll.length : ∀ {bs : List Addr} {dss : List (List D)}, LsAll c G H bs dss → bs.length = dss.length
  | _, _, .nil => rfl
  | _, _, .cons _ _ l => by rw [List.length_cons, List.length_cons, LsAll.length l]
theorem LsAll.snoc {b : Addr} {us : List V} {ds : List D} (hb : H b = some (.lst us)) (k : RpAll c G us ds) : ∀ {bs : List Addr} {dss : List (List D)}, LsAll c G H bs dss → LsAll c G H (bs ++ [b]) (dss ++ [ds])
  | _, _, .nil => .cons hb k .nil
  | _, _, .cons h0 k0 l => .cons h0 k0 (LsAll.snoc hb k l)
def insK : List D → Bool
  | .ins _ _ :: _ => true
  | .tup _ :: _ => true
  | _ => false
theorem QCell.dct {a : Addr} {ks : List D} {dss : List (List D)} {os : Owns} (hk : insK ks = false) (h : QCell c B G H a ks dss os) : QDct c G H a ks dss os := by
  rcases h with h | ⟨n, ds, p, dk, dv, dx, fs, b, o, kv, us, vs, rfl, _⟩ | ⟨ks', o, kv, bs, rfl, _⟩
  · exact h
  · cases hk
  · cases hk
theorem LsAll.all : ∀ {bs : List Addr} {dss : List (List D)}, LsAll c G H bs dss → ∀ {G' : Hp}, (∀ a o, G a = some o → G' a = some o) → (∀ b ∈ bs, G' b = H b) → RpAll c G' (bs.map V.ref) (dss.map D.lst)
  | _, _, .nil, _, _, _ => .nil
  | _, _, .cons h k l, G', s, e => .cons (.lst ((e _ List.mem_cons_self).trans h) (k.mono s)) (LsAll.all l s fun b hb => e b (List.mem_cons_of_mem _ hb))
end
end Fx
/-! sum, max, min of a list of ints -/
namespace Fx
open PySem PySem.Spec PyProof.Rows L2
open C8 (Cal Mak pe_c pe_mk)
end Fx
/-! t.index(x) of a tuple of tuples of numbers; min of a list or tuple of data that can be compared -/
namespace Fx
open PySem PySem.Spec PyProof.Rows L2 PySem.SeqAt
open PySem.W (AlikeAll minD alike dataLt min_list_data min_tuple_data readsAll_at)
section
variable {X : Cx} {o f : Expr} {to tf : TE} {apos cpos : Pos}
/-- min(x) of data -/
def rMinD (K : PySem.W.Frag) : List V → Hp → VK → Prop := fun vs H Q => ∃ (p : Addr) (ys : List V) (d : PyData) (ds : List PyData), vs = [V.ref p] ∧ (SqL K H p ys ∨ SqT K H p ys) ∧ DpAll K H ys (d :: ds) ∧ AlikeAll (d :: ds) ∧
  PyData.plainAll (d :: ds) = true ∧ PyData.depthAll (d :: ds) ≤ 64 ∧ ∀ (i : Nat) (y : V), ys[i]? = some y → (d :: ds)[i]? = some (minD d ds) → Q y H
theorem cr_minD (hc : X.calm = true) (hu : X.A.units + 66 < cLine) : CallR X (.builtin "min") (rMinD X.K) := by
  rintro pins s σ H vs us Q I r ⟨p, ys, d, ds, rfl, hs, hd, ha, hp, hz, q⟩
  obtain ⟨u, rfl, ru⟩ := vals1 r
  cases ru
  have fin : ∀ (its : List Value) (as : List Addr), Vals ys its → ReadsAll s.heap its (d :: ds) as → ∀ (i : Nat) v h' tk bs, its.toArray[i]? = some v → Reads h' v (minD d ds) bs → (∀ b o, s.heap.get? b = some o → h'.get? b = some o) → EP X pins σ Q v { s with heap := h', toks := tk } := by
    intro its as rv rs i v h' tk bs hv rd hk
    have hv' : its[i]? = some v := by simpa using hv
    obtain ⟨cs, r1, _⟩ := readsAll_at rs i v hv'
    have hl : i < its.length := (List.getElem?_eq_some_iff.mp hv').1
    have hly : ys.length = its.length := rv.length
    have hlen : its.length = (d :: ds).length := ReadsAll.length _ _ _ rs
    obtain ⟨w, hw, rw'⟩ := rv.get (i := i) (x := ys[i]'(by omega)) (List.getElem?_eq_getElem (by omega))
    rw [hv'] at hw
    cases hw
    refine ⟨ys[i]'(by omega), H, I.kept hk, rw', q i _ (List.getElem?_eq_getElem (by omega)) ?_⟩
    have hi : i < (d :: ds).length := by omega
    have pl1 : ((d :: ds).getD i .none).plain = true := by
      have e := readsAll_map_plain (d :: ds) _ _ hp rs
      have : ∀ (xs : List PyData), PyData.plainAll xs = true → ∀ j, j < xs.length → (xs.getD j .none).plain = true := by
        intro xs
        induction xs with
        | nil => intro _ j hj; simp at hj
        | cons x xs ih =>
          intro h j hj
          simp only [PyData.plainAll, Bool.and_eq_true] at h
          cases j with
          | zero => simpa using h.1
          | succ j => simpa using ih h.2 j (by simpa using hj)
      exact this _ hp i hi
    have e1 := readOf_plain pl1 (Reads.keeps hk r1)
    have pl2 : (minD d ds).plain = true := by
      have key : ∀ (xs : List PyData) (a : PyData), a.plain = true → PyData.plainAll xs = true → (minD a xs).plain = true := by
        intro xs
        induction xs with
        | nil => intro a h _; exact h
        | cons x xs ih =>
          intro a h h2
          simp only [PyData.plainAll, Bool.and_eq_true] at h2
          show (minD (if dataLt x a then x else a) xs).plain = true
          refine ih _ ?_ h2.2
          split
          · exact h2.1
          · exact h
      simp only [PyData.plainAll, Bool.and_eq_true] at hp
      exact key ds d hp.1 hp.2
    have e2 := readOf_plain pl2 rd
    rw [e1] at e2
    rw [List.getElem?_eq_getElem hi, ← e2, List.getD_eq_getElem?_getD, List.getElem?_eq_getElem hi]
    rfl
  rcases hs with hs | hs
  · obtain ⟨its, rv, pl, _⟩ := I.list hs
    obtain ⟨as, rs⟩ := Dp.readsAll I _ _ _ hd rv
    exact min_list_data (I.ok.hd hc) pl.isList rs ha (by omega) (fin its as rv rs)
  · obtain ⟨its, rv, pl, _⟩ := I.tuple hs
    obtain ⟨as, rs⟩ := Dp.readsAll I _ _ _ hd rv
    exact min_tuple_data (I.ok.hd hc) (show s.heap.IsTuple p its.toArray from pl) rs ha (by omega) (fin its as rv rs)
end
/-! ### on data -/
mutual
theorem toP_inj : ∀ {n m : Nat} {d e : D}, pl n d = true → pl m e = true → toP d = toP e → d = e
  | n, m, .non, e, h, k, q => by cases e <;> cases m <;> simp [toP, pl] at q k ⊢
  | n, m, .bl b, e, h, k, q => by cases e <;> cases m <;> simp [toP, pl] at q k ⊢ <;> assumption
  | n, m, .int i, e, h, k, q => by cases e <;> cases m <;> simp [toP, pl] at q k ⊢ <;> assumption
  | n, m, .str x, e, h, k, q => by cases e <;> cases m <;> simp [toP, pl] at q k ⊢ <;> assumption
  | 0, m, .tup ds, e, h, k, q => by simp [pl] at h
  | 0, m, .lst ds, e, h, k, q => by simp [pl] at h
  | n + 1, m, .tup ds, e, h, k, q => by
    cases e <;> cases m <;> simp [toP, pl] at q k ⊢
    simp only [pl] at h
    exact toPs_inj h k q
  | n + 1, m, .lst ds, e, h, k, q => by
    cases e <;> cases m <;> simp [toP, pl] at q k ⊢
    simp only [pl] at h
    exact toPs_inj h k q
  | n, m, .ty x, e, h, k, q => by simp [pl] at h
  | n, m, .ins x y, e, h, k, q => by simp [pl] at h
  | n, m, .dct x y, e, h, k, q => by simp [pl] at h
  | n, m, .scr x, e, h, k, q => by simp [pl] at h
  | n, m, .fn x, e, h, k, q => by simp [pl] at h
theorem toPs_inj : ∀ {n m : Nat} {ds es : List D}, plA n ds = true → plA m es = true → toPs ds = toPs es → ds = es
  | _, _, [], [], _, _, _ => rfl
  | _, _, [], _ :: _, _, _, q => by simp [toPs] at q
  | _, _, _ :: _, [], _, _, q => by simp [toPs] at q
  | n, m, d :: ds, e :: es, h, k, q => by
    simp only [plA, Bool.and_eq_true] at h k
    simp only [toPs, List.cons.injEq] at q
    rw [toP_inj h.1 k.1 q.1, toPs_inj h.2 k.2 q.2]
end
section
variable {c : Cfg} {W : WX} {te tf : TE} {fe ff : M S}
/-- data that can be compared with one another -/
def alikeB (ds : List D) : Bool := ds.all fun x => (match x with | .non => false | _ => true) && ds.all fun y => alike (toP x) (toP y)
def minDD (d : D) (ds : List D) : D := ds.foldl (fun a y => if dataLt (toP y) (toP a) then y else a) d
theorem toP_minDD : ∀ (ds : List D) (d : D), toP (minDD d ds) = minD (toP d) (ds.map toP)
  | [], _ => rfl
  | y :: ds, d => by
    show toP (minDD (if dataLt (toP y) (toP d) then y else d) ds) = minD (if dataLt (toP y) (toP d) then toP y else toP d) (ds.map toP)
    rw [toP_minDD ds]
    split <;> rfl
theorem minDD_mem : ∀ (ds : List D) (d : D), minDD d ds ∈ d :: ds
  | [], d => List.mem_singleton.mpr rfl
  | y :: ds, d => by
    show minDD (if dataLt (toP y) (toP d) then y else d) ds ∈ d :: y :: ds
    have := minDD_mem ds (if dataLt (toP y) (toP d) then y else d)
    rcases List.mem_cons.mp this with h | h
    · rw [h]
      split
      · exact List.mem_cons_of_mem _ List.mem_cons_self
      · exact List.mem_cons_self
    · exact List.mem_cons_of_mem _ (List.mem_cons_of_mem _ h)
def gMinD : List D → Option S
  | [.lst (d :: ds)] => if plA 60 (d :: ds) && alikeB (d :: ds) then ok1 (minDD d ds) else none
  | [.tup (d :: ds)] => if plA 60 (d :: ds) && alikeB (d :: ds) then ok1 (minDD d ds) else none
  | _ => none
theorem alike_of {ds : List D} (hp : plA 60 ds = true) (h : alikeB ds = true) : AlikeAll (toPs ds) := by
  rw [toPs_map]
  unfold alikeB at h
  rw [List.all_eq_true] at h
  refine ⟨fun x hx y hy => ?_, fun x hx e => ?_⟩
  · obtain ⟨a, ha, rfl⟩ := List.mem_map.mp hx
    obtain ⟨b, hb, rfl⟩ := List.mem_map.mp hy
    have := h a ha
    rw [Bool.and_eq_true] at this
    exact List.all_eq_true.mp this.2 b hb
  · obtain ⟨a, ha, rfl⟩ := List.mem_map.mp hx
    have := h a ha
    rw [Bool.and_eq_true] at this
    have p := List.all_eq_true.mp (plA_all.symm.trans hp) a ha
    cases a <;> simp [toP, pl] at e this p
theorem cd_minD : CbDen c (rMinD c.K) gMinD := by
  intro B ts vs ρ σ H Q ds us s hl r e q
  have main : ∀ (d : D) (ds : List D) (p : Addr) (ys : List V) (G : Hp), Opn c B ts vs ρ σ H G → RpAll c G ys (d :: ds) → (SqL c.K H p ys ∨ SqT c.K H p ys) → (if plA 60 (d :: ds) && alikeB (d :: ds) then ok1 (minDD d ds) else none) = some s → rMinD c.K [.ref p] H Q := by
    intro d ds p ys G O k hs e
    by_cases hp : (plA 60 (d :: ds) && alikeB (d :: ds)) = true
    case neg => rw [if_neg hp] at e; cases e
    rw [if_pos hp] at e
    cases e
    rw [Bool.and_eq_true] at hp
    have pp := plA_plain hp.1
    have kd := RpAll.dp O.sub hp.1 k
    have al := alike_of hp.1 hp.2
    simp only [toPs] at pp kd al
    refine ⟨p, ys, toP d, toPs ds, rfl, hs, kd, al, pp.1, by omega, fun i y hy hm => ?_⟩
    have hpa := List.all_eq_true.mp (plA_all.symm.trans hp.1)
    have e1 : ((d :: ds).map toP)[i]? = some (toP (minDD d ds)) := by
      rw [toP_minDD, ← toPs_map ds, ← hm, toPs_map]
      rfl
    rw [List.getElem?_map] at e1
    cases e2 : (d :: ds)[i]? with
    | none => rw [e2] at e1; cases e1
    | some x =>
      rw [e2] at e1
      have e3 : toP x = toP (minDD d ds) := by simpa using e1
      have e4 := toP_inj (hpa x (List.mem_of_getElem? e2)) (hpa _ (minDD_mem ds d)) e3
      obtain ⟨x', ex, hx⟩ := k.getV hy
      rw [e2] at ex
      cases ex
      rw [e4] at hx
      exact q _ _ (O.val hx)
  match ds, hl, r, e with
  | [.lst (d :: ds)], hl, r, e =>
    obtain ⟨v, rfl, G, O, h⟩ := r.one' hl
    obtain ⟨a, xs, rfl, ha, ka⟩ := h.lstE
    exact main d ds a xs G O ka (.inl (SqL.of (O.sub _ _ ha))) e
  | [.tup (d :: ds)], hl, r, e =>
    obtain ⟨v, rfl, G, O, h⟩ := r.one' hl
    obtain ⟨a, xs, rfl, ha, ka⟩ := h.tupE
    exact main d ds a xs G O ka (.inr (SqT.up O.sub ha)) e
end
section
variable {X : Cx} {c : Cfg} {W : WX} {e f : Expr} {te tf : TE} {fe ff : M S} {apos cpos : Pos} {k : Nat}
theorem b_minD (hr : Room k X.A) (hc : X.calm = true := by rfl) (hK : X.K = c.K := by rfl) : QB X c "min" (rMinD c.K) gMinD := ⟨.inl ⟨_, hK ▸ cr_minD hc (un66 hr), by decide +kernel⟩, cd_minD⟩
end
end Fx
/-! max of data that can be compared (the twin of FxData's min) -/
namespace Fx
open PySem PySem.Spec PyProof.Rows L2 PySem.SeqAt
open PySem.W (AlikeAll maxD alike dataLt max_list_data max_tuple_data readsAll_at)
/-! ### on data -/
end Fx
/-! heapq over lists of data that can be compared: what the three functions do, told by places -/
namespace Fx.Hp
section
variable {α β : Type} {lt : α → α → Bool} {lt' : β → β → Bool} {g : α → β}
theorem get_map {vs : List α} {i : Nat} : (vs.map g)[i]? = (vs[i]?).map g := List.getElem?_map
theorem hSwap_map {vs : List α} {i j : Nat} : hSwap (vs.map g) i j = (hSwap vs i j).map g := by
  unfold hSwap
  rw [get_map, get_map]
  cases vs[i]? with
  | none => rfl
  | some x => cases vs[j]? with
    | none => rfl
    | some y =>
      show ((vs.map g).set i (g y)).set j (g x) = ((vs.set i y).set j x).map g
      rw [List.map_set, List.map_set]
theorem sift_map (h : ∀ x y, lt x y = lt' (g x) (g y)) : ∀ (f : Nat) (vs : List α) (d : Bool) (p t : Nat) (a : Int), sift lt' f (vs.map g) d p t a = (sift lt f vs d p t a).map (·.map g)
  | 0, _, _, _, _, _ => rfl
  | f + 1, vs, true, p, t, a => by
    have eb : below lt' (vs.map g) (2 * p + 1) = below lt vs (2 * p + 1) := by
      unfold below
      rw [List.length_map, get_map, get_map]
      split
      · cases vs[2 * p + 1]? with
        | none => rfl
        | some x => cases vs[2 * p + 1 + 1]? with
          | none => rfl
          | some y =>
            show (if lt' (g x) (g y) = true then _ else _) = if lt x y = true then _ else _
            rw [h]
      · rfl
    unfold sift
    rw [eb, List.length_map, hSwap_map, sift_map h f, sift_map h f]
    split <;> rfl
  | f + 1, vs, false, p, t, a => by
    have eu : up lt' (vs.map g) p = up lt vs p := by
      unfold up
      rw [get_map, get_map]
      cases vs[p]? with
      | none => rfl
      | some x => cases vs[(p - 1) / 2]? with
        | none => rfl
        | some y =>
          show lt' (g x) (g y) = lt x y
          rw [h]
    unfold sift
    rw [eu, hSwap_map, sift_map h f, sift_map h f]
    split
    · rfl
    · split <;> rfl
end
theorem map_rng {α : Type} (d : α) : ∀ (vs : List α), (List.range vs.length).map (fun i => vs.getD i d) = vs := fun vs => by
  apply List.ext_getElem?
  intro i
  rw [List.getElem?_map]
  by_cases h : i < vs.length
  · rw [List.getElem?_range h, List.getElem?_eq_getElem h]
    simp [List.getD_eq_getElem?_getD, List.getElem?_eq_getElem h]
  · rw [List.getElem?_eq_none (by simpa using Nat.le_of_not_lt h), List.getElem?_eq_none (Nat.le_of_not_lt h)]
    rfl
end Fx.Hp
namespace Fx
open PySem PySem.Spec PyProof.Rows L2 PySem.SeqAt
open PySem.W (AlikeAll alike dataLt)
open Hp
/-- places compared by their data -/
def hpLt (ds : List PyData) (i j : Nat) : Bool := dataLt (ds.getD i .none) (ds.getD j .none)
def vOf : Value → V
  | .bool b => .bl b
  | .int i _ => .int i
  | .str x _ => .str x
  | .bytes b _ => .byt b
  | .float b _ => .flt b
  | .ref a => .ref a
  | .type n => .ty n
  | _ => .non
theorem vOf_eq {x : V} {v : Value} (h : L2.RelV x v) : vOf v = x := by
  cases x with
  | non => cases h; rfl
  | bl b => cases h; rfl
  | int i => obtain ⟨t, rfl⟩ := h; rfl
  | str i => obtain ⟨t, rfl⟩ := h; rfl
  | byt i => obtain ⟨t, rfl⟩ := h; rfl
  | flt i => obtain ⟨t, rfl⟩ := h; rfl
  | ref a => cases h; rfl
  | ty n => cases h; rfl
theorem rel_one {x y : V} {v : Value} (h : L2.RelV x v) (k : L2.RelV y v) : x = y := (vOf_eq h).symm.trans (vOf_eq k)
theorem vals_one : ∀ {xs ys : List V} {vs : List Value}, Vals xs vs → Vals ys vs → xs = ys
  | [], _, _, .nil, k => by cases k; rfl
  | _ :: _, _, _, .cons h t, k => by
    cases k with
    | cons h' t' => rw [rel_one h h', vals_one t t']
theorem vals_pl {xs : List V} {vs : List Value} (r : Vals xs vs) : ∀ (is : List Nat), (∀ i ∈ is, i < vs.length) → Vals (is.map fun i => xs.getD i .non) (is.map fun i => vs.getD i .none)
  | [], _ => .nil
  | i :: is, h => by
    have hi := h i List.mem_cons_self
    have hx : i < xs.length := by rw [r.length]; exact hi
    obtain ⟨u, e, q⟩ := r.get (i := i) (x := xs[i]) (List.getElem?_eq_getElem hx)
    refine .cons ?_ (vals_pl r is fun j hj => h j (List.mem_cons_of_mem _ hj))
    show L2.RelV (xs.getD i .non) (vs.getD i .none)
    rw [List.getD_eq_getElem?_getD, List.getD_eq_getElem?_getD, e, List.getElem?_eq_getElem hx]
    exact q
theorem plainAll_at : ∀ {xs : List PyData}, PyData.plainAll xs = true → ∀ j, j < xs.length → (xs.getD j .none).plain = true
  | x :: xs, h, 0, _ => by
    simp only [PyData.plainAll, Bool.and_eq_true] at h
    simpa using h.1
  | x :: xs, h, j + 1, hj => by
    simp only [PyData.plainAll, Bool.and_eq_true] at h
    simpa using plainAll_at h.2 j (by simpa using hj)
section
variable {X : Cx} {pins : List (Addr × Obj)} {σ : L2.St} {H : Hp} {l : Addr}
/-- what the list's items are, whatever order they stand in -/
structure Itm (X : Cx) (H : Hp) (l : Addr) (ys : List V) (ds : List PyData) : Prop where
  dp : ∀ us, DpAll X.K (upd H l (.lst us)) ys ds
  al : AlikeAll ds
  pl : PyData.plainAll ds = true
  dep : PyData.depthAll ds ≤ 64
def HJ (X : Cx) (pins : List (Addr × Obj)) (σ : L2.St) (H : Hp) (l : Addr) (vs0 vs : List Value) (s : Shared) : Prop :=
  ∃ ys n, Vals ys vs ∧ (∀ v ∈ vs, v ∈ vs0) ∧ vs.length ≤ sizeLine ∧ Inv X pins σ (upd H l (.lst ys)) s ∧ s.heap.get? l = some { cls := .type "list", data := .seq vs.toArray n }
noncomputable def hLt (h : Heap) (v u : Value) : Bool := dataLt (readOf h v) (readOf h u)
theorem hj1 {vs0 : List Value} : ∀ vs s, HJ X pins σ H l vs0 vs s → vs.length ≤ sizeLine ∧ ∃ n, s.heap.get? l = some { cls := .type "list", data := .seq vs.toArray n } := fun vs s ⟨ys, n, _, _, z, _, e⟩ => ⟨z, n, e⟩
theorem hj2 {vs0 : List Value} : ∀ vs s i j f t, HJ X pins σ H l vs0 vs s → f vs.toArray = (hSwap vs i j).toArray → HJ X pins σ H l vs0 (hSwap vs i j) { s with heap := s.heap.update l (Obj.mapSeq f), toks := t } := by
  rintro vs s i j f t ⟨ys, n, r, m, z, I, e⟩ hf
  have pm := swap_perm (vs := vs) (i := i) (j := j)
  have rs : Vals (hSwap ys i j) (hSwap vs i j) := by
    have h1 := vals_pl r (hSwap (List.range vs.length) i j) (fun k hk => List.mem_range.mp (swap_perm.mem_iff.mp hk))
    rw [← hSwap_map (g := fun i => vs.getD i .none), map_rng, ← hSwap_map (g := fun i => ys.getD i .non), ← r.length, map_rng] at h1
    exact h1
  have q := PySem.IsL.update e f
  rw [hf] at q
  have I2 := I.lset (l := l) (xs := ys) (ys := hSwap ys i j) (t' := t) upd_same e hf rs (by rw [rs.length, pm.length_eq]; exact z)
  rw [upd_upd] at I2
  exact ⟨_, _, rs, fun v hv => m v (pm.mem_iff.mp hv), by rw [pm.length_eq]; exact z, I2, q⟩
theorem itm_read {ys : List V} {ds : List PyData} {vs0 : List Value} {s : Shared} {us : List V} (T : Itm X H l ys ds) (r0 : Vals ys vs0) (I : Inv X pins σ (upd H l (.lst us)) s) {v : Value} (hv : v ∈ vs0) : ∃ i as, i < ds.length ∧ vs0[i]? = some v ∧ Reads s.heap v (ds.getD i .none) as := by
  obtain ⟨as, ra⟩ := Dp.readsAll I _ _ _ (T.dp us) r0
  obtain ⟨i, hi, e⟩ := List.getElem_of_mem hv
  have e2 : vs0[i]? = some v := by rw [List.getElem?_eq_getElem hi, e]
  obtain ⟨bs, h1, h2, _⟩ := PySem.W.readsAll_at ra i v e2
  exact ⟨i, bs, h2, e2, h1⟩
theorem getD_mem {ds : List PyData} {i : Nat} (h : i < ds.length) : ds.getD i .none ∈ ds := by
  rw [List.getD_eq_getElem?_getD, List.getElem?_eq_getElem h]
  exact List.getElem_mem h
theorem hcmp {ys : List V} {ds : List PyData} {vs0 : List Value} {s0 : Shared} {us0 : List V} (hu : X.A.units + 66 < cLine) (T : Itm X H l ys ds) (r0 : Vals ys vs0) (I0 : Inv X pins σ (upd H l (.lst us0)) s0) :
    ∀ vs s x y (E : Value → Shared → Prop) (Q : Value → Shared → Prop), HJ X pins σ H l vs0 vs s → x ∈ vs → y ∈ vs → Q (.bool (hLt s0.heap x y)) s → wpAny (model X.prog X.w) X.A.in1 (richCompare .Lt x y) Q E s := by
  rintro vs s x y E Q ⟨ys', n, r, m, z, I, e⟩ hx hy q
  obtain ⟨i, as, hi, ei, ri⟩ := itm_read T r0 I (m x hx)
  obtain ⟨j, bs, hj, ej, rj⟩ := itm_read T r0 I (m y hy)
  have rd : ∀ {v : Value} {i : Nat}, vs0[i]? = some v → i < ds.length → readOf s0.heap v = ds.getD i .none := fun {v i} e hi => by
    obtain ⟨as, ra⟩ := Dp.readsAll I0 _ _ _ (T.dp us0) r0
    obtain ⟨bs, h1, _⟩ := PySem.W.readsAll_at ra i v e
    exact readOf_plain (plainAll_at T.pl i hi) h1
  unfold hLt at q
  rw [rd ei hi, rd ej hj] at q
  refine PySem.W.lt_data ri rj (T.al.1 _ (getD_mem hi) _ (getD_mem hj)) (T.al.2 _ (getD_mem hi)) ?_ q
  have hd : (ds.getD i .none).depth ≤ 64 := by
    obtain ⟨as, ra⟩ := Dp.readsAll I0 _ _ _ (T.dp us0) r0
    obtain ⟨_, _, _, _, h4⟩ := PySem.W.readsAll_at ra i x ei
    exact Nat.le_trans h4 T.dep
  have : min (ds.getD i .none).depth (ds.getD j .none).depth ≤ (ds.getD i .none).depth := Nat.min_le_left _ _
  show X.A.units + 1 + _ < _
  omega
/-- by places -/
theorem hsift {ys : List V} {ds : List PyData} {vs0 : List Value} {s0 : Shared} {us0 : List V} (T : Itm X H l ys ds) (r0 : Vals ys vs0) (I0 : Inv X pins σ (upd H l (.lst us0)) s0) (f : Nat) (d : Bool) (p t : Nat) (a : Int) {is : List Nat}
    (e : sift (hpLt ds) f (List.range ys.length) d p t a = some is) : sift (hLt s0.heap) f vs0 d p t a = some (is.map fun i => vs0.getD i .none) := by
  have hl : vs0.length = ys.length := r0.length.symm
  obtain ⟨as, ra⟩ := Dp.readsAll I0 _ _ _ (T.dp us0) r0
  have hd : vs0.length = ds.length := ReadsAll.length _ _ _ ra
  have key : ∀ i : Nat, readOf s0.heap (vs0.getD i .none) = ds.getD i .none := fun i => by
    by_cases hi : i < vs0.length
    · obtain ⟨bs, h1, _⟩ := PySem.W.readsAll_at ra i (vs0.getD i .none) (by rw [List.getD_eq_getElem?_getD, List.getElem?_eq_getElem hi]; rfl)
      exact readOf_plain (plainAll_at T.pl i (by omega)) h1
    · rw [List.getD_eq_getElem?_getD, List.getD_eq_getElem?_getD, List.getElem?_eq_none (by omega), List.getElem?_eq_none (by omega)]
      exact readOf_plain (as := []) rfl .none
  have := sift_map (lt := hpLt ds) (lt' := hLt s0.heap) (g := fun i => vs0.getD i .none) (fun x y => by unfold hpLt hLt; rw [key, key]) f (List.range vs0.length) d p t a
  rw [map_rng, hl, e] at this
  exact this
end
end Fx
/-! heapify, heappush, heappop as built-ins that a def calls -/
namespace Fx
open PySem PySem.Spec PyProof.Rows L2 PySem.SeqAt
open PySem.W (AlikeAll alike dataLt)
open Hp
def pick (ys : List V) (is : List Nat) : List V := is.map fun i => ys.getD i .non
def rHeapifyG (X : Cx) : List V → Hp → VK → Prop := fun vs H Q => ∃ (a : Addr) (ys : List V), vs = [.ref a] ∧ H a = some (.lst ys) ∧ ys.length ≤ 2500 ∧ ((ys.length < 2 ∧ Q .non H) ∨
  (2 ≤ ys.length ∧ ∃ (ds : List PyData) (f : Nat) (is : List Nat), Itm X H a ys ds ∧ sift (hpLt ds) f (List.range ys.length) true (ys.length / 2 - 1) (ys.length / 2 - 1) ((ys.length / 2 : Nat) - 2 : Int) = some is ∧ Q .non (upd H a (.lst (pick ys is)))))
def rPushG (X : Cx) : List V → Hp → VK → Prop := fun vs H Q => ∃ (a : Addr) (ys : List V) (y : V) (ds : List PyData) (f : Nat) (is : List Nat), vs = [.ref a, y] ∧ H a = some (.lst ys) ∧ ys.length < sizeLine ∧ Itm X H a (ys ++ [y]) ds ∧
  sift (hpLt ds) f (List.range (ys.length + 1)) false ys.length 0 (-1) = some is ∧ Q .non (upd H a (.lst (pick (ys ++ [y]) is)))
/-- the last item takes the place of the first -/
def rPopG (X : Cx) : List V → Hp → VK → Prop := fun vs H Q => ∃ (a : Addr) (ys : List V) (x : V), vs = [.ref a] ∧ H a = some (.lst (x :: ys)) ∧ ys.length < sizeLine ∧ ((ys = [] ∧ Q x (upd H a (.lst []))) ∨
  ∃ (mid : List V) (l : V) (ds : List PyData) (f : Nat) (is : List Nat), ys = mid ++ [l] ∧ Itm X H a (l :: mid) ds ∧ sift (hpLt ds) f (List.range (l :: mid).length) true 0 0 (-1) = some is ∧ Q x (upd H a (.lst (pick (l :: mid) is))))
section
variable {X : Cx}
theorem call_in {id : String} {B : Builtin} {args : List Value} {A : Around} {E : Value → Shared → Prop} {s : Shared} {Q : Value → Shared → Prop} {prog : Program} {w : World} (kind : builtinKind id = none) (plain : plainId id = true)
    (entry : entryFor table id = some B) (ok : argsOk id ⟨args, []⟩)
    (h : wpAny (model prog w) A.in1 (B ⟨args, []⟩) (fun fin s' => match fin with | .done f => wants Q E (.ok f) s' | .again c' => c'.quiet = true ∧ codeAny (model prog w) A c' (wants Q E) s') (fun e s' => wants Q E (.error e) s') s) : wpAny (model prog w) A (call (.builtin id) args) Q E s := by
  refine wpAny_call (codeAny_call_builtin plain entry ?_)
  simp only [checkBuiltinCall, kind]
  cases q : Manifest.signature? id with
  | none => exact wpAny_pure h
  | some g =>
    simp only [argsOk, q] at ok
    show wpAny _ _ (Bind.checkArgs id g ⟨args, []⟩) _ _ s
    rw [show Bind.checkArgs id g ⟨args, []⟩ = pure () from ok]
    exact wpAny_pure h
theorem pick_vals {ys : List V} {vs : List Value} (r : Vals ys vs) {is : List Nat} (h : ∀ i ∈ is, i < vs.length) : Vals (pick ys is) (is.map fun i => vs.getD i .none) := vals_pl r is h
theorem sift_perm {α : Type} {lt : α → α → Bool} : ∀ {f : Nat} {vs is : List α} {d : Bool} {p t : Nat} {a : Int}, sift lt f vs d p t a = some is → is.Perm vs
  | 0, _, _, _, _, _, _, h => by cases h
  | f + 1, vs, is, true, p, t, a, h => by
    unfold sift at h
    split at h
    · exact (sift_perm h).trans swap_perm
    · exact sift_perm h
  | f + 1, vs, is, false, p, t, a, h => by
    unfold sift at h
    split at h
    · exact (sift_perm h).trans swap_perm
    · split at h
      · cases h
        exact .refl _
      · exact sift_perm h
theorem end_of {pins : List (Addr × Obj)} {σ : L2.St} {H : Hp} {l : Addr} {ys : List V} {vs0 : List Value} {is : List Nat} {s : Shared} {Q : VK} {v : Value} {x : V} (r0 : Vals ys vs0) (hi : ∀ i ∈ is, i < vs0.length) (rv : L2.RelV x v) (q : Q x (upd H l (.lst (pick ys is)))) (h : HJ X pins σ H l vs0 (is.map fun i => vs0.getD i .none) s) : EP X pins σ Q v s := by
  obtain ⟨zs, n, r, _, _, I, _⟩ := h
  rw [vals_one r (pick_vals r0 hi)] at I
  exact ⟨x, _, I, rv, q⟩
theorem vals_snoc : ∀ {ys : List V} {vs : List Value} {y : V} {u : Value}, Vals ys vs → L2.RelV y u → Vals (ys ++ [y]) (vs ++ [u])
  | _, _, _, _, .nil, h => .cons h .nil
  | _, _, _, _, .cons r t, h => .cons r (vals_snoc t h)
theorem cr_heapifyG (hu : X.A.units + 66 < cLine) : CallR X (.builtin "_heapq.heapify") (rHeapifyG X) := by
  rintro pins s σ H vs us Q I r ⟨a, ys, rfl, hH, h3, hq⟩
  rw [Vals.ref1 r]
  obtain ⟨z, its, n, rv, hlen, e⟩ := I.lstM hH
  rcases hq with ⟨h2, q⟩ | ⟨h2, ds, f, is, T, es, q⟩
  · exact call_function_meets HQ.kind_heapify HQ.plain_heapify HQ.entry_heapify (HQ.args_heapify _) (heapify_meets a) ⟨_, n, e, by rw [List.size_toArray, ← hlen]; exact h2, .non, H, I, rfl, q⟩
  · have I0 : Inv X pins σ (upd H a (.lst ys)) s := by
      have e : upd H a (.lst ys) = H := by
        funext b
        unfold upd
        split
        · rename_i hb
          rw [hb, hH]
        · rfl
      rw [e]
      exact I
    have J0 : HJ X pins σ H a its its s := ⟨ys, n, rv, fun v hv => hv, by rw [← hlen]; exact z, I0, e⟩
    have es2 := hsift T rv I0 f true (ys.length / 2 - 1) (ys.length / 2 - 1) ((ys.length / 2 : Nat) - 2 : Int) es
    rw [hlen] at es2 h2 h3
    have hi : ∀ i ∈ is, i < its.length := fun i hm => by
      rw [← hlen]
      exact List.mem_range.mp ((sift_perm es).mem_iff.mp hm)
    exact call_in HQ.kind_heapify HQ.plain_heapify HQ.entry_heapify (HQ.args_heapify _) (HQ.heapify_wp (lt := hLt s.heap) hj1 hj2 (hcmp hu T rv I0) J0 h2 h3 es2 fun s' h' => end_of (x := .non) rv hi rfl q h')
theorem cr_pushG (hu : X.A.units + 66 < cLine) : CallR X (.builtin "_heapq.heappush") (rPushG X) := by
  rintro pins s σ H vs us Q I r ⟨a, ys, y, ds, f, is, rfl, hH, hz, T, es, q⟩
  cases r with
  | cons r1 r2 =>
    obtain ⟨u, rfl, ru⟩ := vals1 r2
    cases r1
    obtain ⟨z, its, n, rv, hlen, e⟩ := I.lstM hH
    have rv2 : Vals (ys ++ [y]) (its ++ [u]) := vals_snoc rv ru
    have hJ : ∀ t, HJ X pins σ H a (its ++ [u]) (its ++ [u]) { s with heap := s.heap.update a (Obj.mapSeq (·.push u)), toks := t } := fun t => by
      have I2 := I.lset (its' := its ++ [u]) (ys := ys ++ [y]) (f := (·.push u)) (t' := t) hH e (by simp) rv2 (by simp; omega)
      have q2 := PySem.IsL.update e (·.push u)
      rw [show its.toArray.push u = (its ++ [u]).toArray by simp] at q2
      exact ⟨_, _, rv2, fun v hv => hv, by simp; omega, I2, q2⟩
    have I0 := I.lset (its' := its ++ [u]) (ys := ys ++ [y]) (f := (·.push u)) (t' := s.toks) hH e (by simp) rv2 (by simp; omega)
    have es2 := hsift T rv2 I0 f false ys.length 0 (-1) (by rw [show (ys ++ [y]).length = ys.length + 1 by simp]; exact es)
    have hi : ∀ i ∈ is, i < (its ++ [u]).length := fun i hm => by
      rw [show (its ++ [u]).length = ys.length + 1 by simp [hlen]]
      exact List.mem_range.mp ((sift_perm es).mem_iff.mp hm)
    rw [hlen] at es2 hz
    exact call_in HQ.kind_push HQ.plain_push HQ.entry_push (HQ.args_push _ _) (HQ.push_wp (lt := hLt _) hj1 hj2 (hcmp hu T rv2 I0) e hz hJ es2 fun s' h' => end_of (x := .non) rv2 hi rfl q h')
theorem cr_popG (hu : X.A.units + 66 < cLine) : CallR X (.builtin "_heapq.heappop") (rPopG X) := by
  rintro pins s σ H vs us Q I r ⟨a, ys, x, rfl, hH, hz, hq⟩
  rw [Vals.ref1 r]
  obtain ⟨z, its, n, rv, hlen, e⟩ := I.lstM hH
  rcases hq with ⟨rfl, q⟩ | ⟨mid, l, ds, f, is, rfl, T, es, q⟩
  · obtain ⟨u, rfl, ru⟩ := vals1 rv
    exact call_function_meets HQ.kind_heappop HQ.plain_heappop HQ.entry_heappop (HQ.args_heappop _) (heappop_meets a) ⟨u, n, e, x, _, I.lset (its' := []) hH e rfl .nil (Nat.zero_le _), ru, q⟩
  · cases rv with
    | cons rx rt =>
      rename_i v its2
      obtain ⟨m2, l2, rfl, rm, rl⟩ : ∃ m2 l2, its2 = m2 ++ [l2] ∧ Vals mid m2 ∧ L2.RelV l l2 := by
        clear hlen e z I hH T es q hz
        induction mid generalizing its2 with
        | nil =>
          obtain ⟨u, rfl, ru⟩ := vals1 rt
          exact ⟨[], u, rfl, .nil, ru⟩
        | cons m mid ih =>
          cases rt with
          | cons r1 r2 =>
            obtain ⟨m2, l2, rfl, h1, h2⟩ := ih r2
            exact ⟨_ :: m2, l2, rfl, .cons r1 h1, h2⟩
      have rv2 : Vals (l :: mid) (l2 :: m2) := .cons rl rm
      have hl2 : mid.length = m2.length := rm.length
      have ep : (v :: (m2 ++ [l2])).toArray.pop = (v :: m2).toArray := by
        rw [List.pop_toArray, show v :: (m2 ++ [l2]) = (v :: m2) ++ [l2] from rfl, List.dropLast_concat]
      have I1 : ∀ t, Inv X pins σ (upd H a (.lst (x :: mid))) { s with heap := s.heap.update a (Obj.mapSeq (·.pop)), toks := t } := fun t => I.lset (its' := v :: m2) (ys := x :: mid) (f := (·.pop)) (t' := t) hH e ep (.cons rx rm) (by simp at hz ⊢; omega)
      have e1 := PySem.IsL.update e (·.pop)
      rw [ep] at e1
      have es3 : (v :: m2).toArray.setIfInBounds 0 l2 = (l2 :: m2).toArray := by simp
      have hJ : ∀ t, HJ X pins σ H a (l2 :: m2) (l2 :: m2) { s with heap := (s.heap.update a (Obj.mapSeq (·.pop))).update a (Obj.mapSeq (·.setIfInBounds 0 l2)), toks := t } := fun t => by
        have I2 := (I1 s.toks).lset (its' := l2 :: m2) (ys := l :: mid) (f := (·.setIfInBounds 0 l2)) (t' := t) upd_same e1 es3 rv2 (by simp at hz ⊢; omega)
        rw [upd_upd] at I2
        have q2 := PySem.IsL.update e1 (·.setIfInBounds 0 l2)
        rw [es3] at q2
        exact ⟨_, _, rv2, fun v hv => hv, by simp at hz ⊢; omega, I2, q2⟩
      have I0 := hJ s.toks
      obtain ⟨zs, n0, r0, _, _, I0, _⟩ := I0
      rw [vals_one r0 rv2] at I0
      have es2 := hsift T rv2 I0 f true 0 0 (-1) es
      have hi : ∀ i ∈ is, i < (l2 :: m2).length := fun i hm => by
        have := List.mem_range.mp ((sift_perm es).mem_iff.mp hm)
        simpa [hl2] using this
      exact call_in HQ.kind_heappop HQ.plain_heappop HQ.entry_heappop (HQ.args_heappop _) (HQ.pop_wp (lt := hLt _) hj1 hj2 (hcmp hu T rv2 I0) (x := v) (mid := m2) (l := l2) e (by simp at hz; omega) hJ es2 fun s' h' => end_of (x := x) rv2 hi rx q h')
end
end Fx
/-! heapify, heappush, heappop of a name's own list, on data -/
namespace Fx
open PySem PySem.Spec PyProof.Rows L2 PySem.SeqAt
open PySem.W (AlikeAll alike dataLt)
open Hp
def hpOk (ds : List D) : Bool := plA 60 ds && alikeB ds
def hpFuel (n : Nat) : Nat := (n + 3) * (2 * n + 5)
/-- the list sifted -/
def siftD (ds : List D) (d : Bool) (p t : Nat) (a : Int) : Option (List D) := (sift (hpLt (toPs ds)) (hpFuel ds.length) (List.range ds.length) d p t a).map fun is => is.map fun i => ds.getD i .non
def mHeapifyG (i : Nat) : M S := fun ρ => match ρ[i]? with
  | some (some (.o b (.lst ds))) => if ds.length < 2 then .ok (.d .non) ρ else if decide (ds.length ≤ 2500) && hpOk ds then (match siftD ds true (ds.length / 2 - 1) (ds.length / 2 - 1) ((ds.length / 2 : Nat) - 2 : Int) with
      | some es => .ok (.d .non) (ρ.set i (some (.o b (.lst es))))
      | none => .stuck)
    else .stuck
  | _ => .stuck
def mPushG (i : Nat) (fe : M S) : M S := fun ρ => match ρ[i]? with
  | some (some (.o _ _)) => (dv fe ρ).then fun y ρ1 => match ρ1[i]? with
    | some (some (.o b (.lst ds))) => if small (ds.length + 1) && hpOk (ds ++ [y]) then (match siftD (ds ++ [y]) false ds.length 0 (-1) with
        | some es => .ok (.d .non) (ρ1.set i (some (.o b (.lst es))))
        | none => .stuck)
      else .stuck
    | _ => .stuck
  | _ => .stuck
def mPopG (i : Nat) : M S := fun ρ => match ρ[i]? with
  | some (some (.o b (.lst (x :: ds)))) => match ds.getLast? with
    | none => .ok (.d x) (ρ.set i (some (.o b (.lst []))))
    | some l => if small (ds.length + 1) && hpOk (l :: ds.dropLast) then (match siftD (l :: ds.dropLast) true 0 0 (-1) with
        | some es => .ok (.d x) (ρ.set i (some (.o b (.lst es))))
        | none => .stuck)
      else .stuck
  | _ => .stuck
section
variable {c : Cfg} {G H : Hp} {a : Addr} {us : List V} {ds : List D}
theorem rp_pick (k : RpAll c G us ds) : ∀ (is : List Nat), (∀ i ∈ is, i < ds.length) → RpAll c G (pick us is) (is.map fun i => ds.getD i .non)
  | [], _ => .nil
  | i :: is, h => by
    have hi := h i List.mem_cons_self
    refine .cons ?_ (rp_pick k is fun j hj => h j (List.mem_cons_of_mem _ hj))
    obtain ⟨v, e, q⟩ := k.get (i := i) (d := ds[i]) (List.getElem?_eq_getElem hi)
    show Rp c G (us.getD i .non) (ds.getD i .non)
    rw [List.getD_eq_getElem?_getD, List.getD_eq_getElem?_getD, e, List.getElem?_eq_getElem hi]
    exact q
theorem itm_of {X : Cx} (hK : X.K = c.K) (gn : G a = none) (sub : ∀ b o, G b = some o → H b = some o) (k : RpAll c G us ds) (h : hpOk ds = true) : Itm X H a us (toPs ds) := by
  unfold hpOk at h
  rw [Bool.and_eq_true] at h
  obtain ⟨p1, p2⟩ := plA_plain h.1
  refine ⟨fun ws => ?_, alike_of h.1 h.2, p1, by omega⟩
  rw [hK]
  refine RpAll.dp (G := G) (fun b o e => ?_) h.1 k
  rw [upd_ne (ne_of_none e gn)]
  exact sub b o e
theorem siftD_some {d : Bool} {p t : Nat} {a : Int} {es : List D} (e : siftD ds d p t a = some es) : ∃ is, sift (hpLt (toPs ds)) (hpFuel ds.length) (List.range ds.length) d p t a = some is ∧ es = is.map (fun i => ds.getD i .non) ∧ ∀ i ∈ is, i < ds.length := by
  unfold siftD at e
  cases h : sift (hpLt (toPs ds)) (hpFuel ds.length) (List.range ds.length) d p t a with
  | none => rw [h] at e; cases e
  | some is =>
    rw [h] at e
    cases e
    exact ⟨is, rfl, rfl, fun i hi => List.mem_range.mp ((sift_perm h).mem_iff.mp hi)⟩
/-- sifting ends, and only puts the items in another order -/
theorem siftD_ok {d : Bool} {p t : Nat} {a : Int} (hp : p ≤ ds.length) (ha : a.toNat ≤ ds.length) (hc : cost ds.length d p a < hpFuel ds.length) : ∃ es, siftD ds d p t a = some es ∧ es.Perm ds := by
  obtain ⟨is, h1, h2⟩ := sift_some (lt := hpLt (toPs ds)) (f := hpFuel ds.length) (vs := List.range ds.length) (down := d) (pos := p) (top := t) (after := a) (by simpa using hp) (by simpa using ha) (by simpa using hc)
  refine ⟨_, by unfold siftD; rw [h1]; rfl, ?_⟩
  have := h2.map fun i => ds.getD i D.non
  rw [map_rng] at this
  exact this
end
section
variable {c : Cfg} {W : WX} {i : Nat} {te : TE} {fe : M S} {X : Cx}
theorem den_heapifyG (hK : X.K = c.K) : Den c W (tCB (rHeapifyG X) (tCons (tVar i) tNil)) (mHeapifyG i) := fun B ts vs ρ σ H Q r q => by
  unfold mHeapifyG at q
  split at q
  · rename_i b ds e
    obtain ⟨G, o1, o2, k, h1, h2⟩ := id r
    obtain ⟨a, ev, ⟨us, ha, ka⟩, hmem, hb⟩ := h2.getO e
    have hl := ka.length
    split at q
    · rename_i h2'
      exact ⟨.ref a, ev, a, us, rfl, ha, by omega, .inl ⟨by omega, q _ H ⟨G, o1, o2, k, .d .non h1, h2⟩⟩⟩
    · rename_i h2'
      split at q
      · rename_i hg
        rw [Bool.and_eq_true] at hg
        have hg1 : ds.length ≤ 2500 := of_decide_eq_true hg.1
        split at q
        · rename_i es he
          obtain ⟨is, s1, rfl, s3⟩ := siftD_some he
          have nd := k.nd
          rw [List.nodup_append] at nd
          have gn := (k.out a (List.mem_append_right _ hmem)).1
          have dl : (toPs ds).length = ds.length := by rw [toPs_map, List.length_map]
          refine ⟨.ref a, ev, a, us, rfl, ha, by omega, .inr ⟨by omega, toPs ds, hpFuel ds.length, is, itm_of hK gn k.sub ka hg.2, by rw [hl]; exact s1, q _ _ ?_⟩⟩
          exact ⟨G, o1, o2, k.write (List.mem_append_right _ hmem) ha (.lst _), .d .non (h1.mono (fun _ _ e => e) fun q hq => upd_ne fun z => nd.2.2 q hq a hmem z), h2.write nd.2.1 e ev (fun q hq => upd_ne hq) ⟨_, upd_same, rp_pick ka is s3⟩⟩
        · exact q.elim
      · exact q.elim
  · exact q.elim
theorem den_pushG (hK : X.K = c.K) (h : Den c W te fe) : Den c W (tCB (rPushG X) (tCons (tVar i) (tCons te tNil))) (mPushG i fe) := fun B ts vs ρ σ H Q r q => by
  unfold mPushG at q
  split at q
  · rename_i b0 x0 e0
    obtain ⟨a0, ev0, _⟩ := r.varO e0
    refine ⟨.ref a0, ev0, ?_⟩
    rw [post_then] at q
    refine h.dv r (q.imp1 fun y ρ1 q v H1 r1 => ?_)
    show rPushG X [.ref a0, v] H1 Q
    split at q
    · rename_i b ds e
      split at q
      · rename_i hg
        rw [Bool.and_eq_true] at hg
        split at q
        · rename_i es he
          obtain ⟨is, s1, rfl, s3⟩ := siftD_some he
          obtain ⟨G, o1, o2, k, h1, h2⟩ := id r1
          obtain ⟨a, ev, ⟨us, ha, ka⟩, hmem, hb⟩ := h2.getO e
          rw [ev0] at ev
          cases ev
          cases h1 with
          | d hv h1 =>
            have hl := ka.length
            have nd := k.nd
            rw [List.nodup_append] at nd
            have gn := (k.out a0 (List.mem_append_right _ hmem)).1
            have ka2 := ka.snoc hv
            have sz := small_line hg.1
            refine ⟨a0, us, v, toPs (ds ++ [y]), hpFuel (ds ++ [y]).length, is, rfl, ha, by omega, itm_of hK gn k.sub ka2 hg.2, ?_, q _ _ ?_⟩
            · rw [hl]
              rw [show (ds ++ [y]).length = ds.length + 1 by simp] at s1 ⊢
              exact s1
            · exact ⟨G, _, o2, k.write (List.mem_append_right _ hmem) ha (.lst _), .d .non (h1.mono (fun _ _ e => e) fun q hq => upd_ne fun z => nd.2.2 q hq a0 hmem z), h2.write nd.2.1 e ev0 (fun q hq => upd_ne hq) ⟨_, upd_same, rp_pick ka2 is s3⟩⟩
        · exact q.elim
      · exact q.elim
    · exact q.elim
  · exact q.elim
theorem den_popG (hK : X.K = c.K) : Den c W (tCB (rPopG X) (tCons (tVar i) tNil)) (mPopG i) := fun B ts vs ρ σ H Q r q => by
  unfold mPopG at q
  split at q
  · rename_i b x ds e
    obtain ⟨G, o1, o2, k, h1, h2⟩ := id r
    obtain ⟨a, ev, ⟨us, ha, ka⟩, hmem, hb⟩ := h2.getO e
    have nd := k.nd
    rw [List.nodup_append] at nd
    have gn := (k.out a (List.mem_append_right _ hmem)).1
    cases ka with
    | @cons v _ us _ hv kt =>
      have hl := kt.length
      split at q
      · rename_i hn
        rw [List.getLast?_eq_none_iff] at hn
        subst hn
        cases kt
        refine ⟨.ref a, ev, a, [], v, rfl, ha, by rw [sizeLine_eq]; show 0 < _; decide, .inl ⟨rfl, q _ _ ?_⟩⟩
        exact ⟨G, o1, o2, k.write (List.mem_append_right _ hmem) ha (.lst _), .d hv (h1.mono (fun _ _ e => e) fun q hq => upd_ne fun z => nd.2.2 q hq a hmem z), h2.write nd.2.1 e ev (fun q hq => upd_ne hq) ⟨[], upd_same, .nil⟩⟩
      · rename_i l hn
        split at q
        · rename_i hg
          rw [Bool.and_eq_true] at hg
          have sz := small_line hg.1
          split at q
          · rename_i es he
            obtain ⟨is, s1, rfl, s3⟩ := siftD_some he
            have eds : ds = ds.dropLast ++ [l] := by
              rw [List.getLast?_eq_some_iff] at hn
              obtain ⟨m, rfl⟩ := hn
              rw [List.dropLast_concat]
            obtain ⟨mid, w, rfl, km, kl⟩ : ∃ mid w, us = mid ++ [w] ∧ RpAll c G mid ds.dropLast ∧ Rp c G w l := by
              rw [eds] at kt
              generalize ds.dropLast = m at kt
              clear hl ha e ev s1 s3 he hg sz eds hn
              induction m generalizing us with
              | nil =>
                cases kt with
                | cons h t =>
                  cases t
                  exact ⟨[], _, rfl, .nil, h⟩
              | cons z m ih =>
                cases kt with
                | cons h t =>
                  obtain ⟨mid, w, rfl, h1, h2⟩ := ih t
                  exact ⟨_ :: mid, w, rfl, .cons h h1, h2⟩
            have k2 : RpAll c G (w :: mid) (l :: ds.dropLast) := .cons kl km
            refine ⟨.ref a, ev, a, mid ++ [w], v, rfl, ha, by omega, .inr ⟨mid, w, toPs (l :: ds.dropLast), hpFuel (l :: ds.dropLast).length, is, rfl, itm_of hK gn k.sub k2 hg.2, by rw [k2.length]; exact s1, q _ _ ?_⟩⟩
            exact ⟨G, o1, o2, k.write (List.mem_append_right _ hmem) ha (.lst _), .d hv (h1.mono (fun _ _ e => e) fun q hq => upd_ne fun z => nd.2.2 q hq a hmem z), h2.write nd.2.1 e ev (fun q hq => upd_ne hq) ⟨_, upd_same, rp_pick k2 is s3⟩⟩
          · exact q.elim
        · exact q.elim
  · exact q.elim
variable {x y : Str} {e : Expr} {p p2 pos : Pos} {k : Nat}
theorem q_heapifyG (i : Nat) (hr : Room k X.A) (hm : X.mg "heapify" = some (.builtin "_heapq.heapify")) (hN : X.N[i]? = some x := by rfl) (hv : Vis X.env.scope x := by first | exact Or.inl rfl | exact Or.inr (Or.inl rfl) | exact Or.inr (Or.inr rfl)) (hd : (x == ("__debug__" : Str)) = false := by decide) (hcd : (x == ("__classdict__" : Str)) = false := by decide) (hg : Gl X "heapify" := by rfl)
    (he : starEach [.Name x p2] X.env = (false, eval (.Name x p2) X.env) :: starEach [] X.env := by rfl) (hpl : (backTo pos (starEach [] X.env)).any (·.1) = false := by rfl) (hK : X.K = c.K := by rfl) : QE X c W (.Call (.Name "heapify" p) [.Name x p2] [] pos) (tCB (rHeapifyG X) (tCons (tVar i) tNil)) (mHeapifyG i) :=
  ⟨pe_callBfun (cr_heapifyG (un66 hr)) hg hm (pa_cons (pe_var hN hv hd hcd) pa_nil he) (by decide) he hpl, den_heapifyG hK⟩
theorem q_heappopG (i : Nat) (hr : Room k X.A) (hm : X.mg "heappop" = some (.builtin "_heapq.heappop")) (hN : X.N[i]? = some x := by rfl) (hv : Vis X.env.scope x := by first | exact Or.inl rfl | exact Or.inr (Or.inl rfl) | exact Or.inr (Or.inr rfl)) (hd : (x == ("__debug__" : Str)) = false := by decide) (hcd : (x == ("__classdict__" : Str)) = false := by decide) (hg : Gl X "heappop" := by rfl)
    (he : starEach [.Name x p2] X.env = (false, eval (.Name x p2) X.env) :: starEach [] X.env := by rfl) (hpl : (backTo pos (starEach [] X.env)).any (·.1) = false := by rfl) (hK : X.K = c.K := by rfl) : QE X c W (.Call (.Name "heappop" p) [.Name x p2] [] pos) (tCB (rPopG X) (tCons (tVar i) tNil)) (mPopG i) :=
  ⟨pe_callBfun (cr_popG (un66 hr)) hg hm (pa_cons (pe_var hN hv hd hcd) pa_nil he) (by decide) he hpl, den_popG hK⟩
theorem q_heappushG (i : Nat) (hr : Room k X.A) (hm : X.mg "heappush" = some (.builtin "_heapq.heappush")) (hf : QE X c W e te fe) (hN : X.N[i]? = some x := by rfl) (hv : Vis X.env.scope x := by first | exact Or.inl rfl | exact Or.inr (Or.inl rfl) | exact Or.inr (Or.inr rfl)) (hd : (x == ("__debug__" : Str)) = false := by decide) (hcd : (x == ("__classdict__" : Str)) = false := by decide) (hg : Gl X "heappush" := by rfl)
    (he : starEach [.Name x p2, e] X.env = (false, eval (.Name x p2) X.env) :: starEach [e] X.env := by rfl) (he2 : starEach [e] X.env = (false, eval e X.env) :: starEach [] X.env := by rfl) (hpl : (backTo pos (starEach [e] X.env)).any (·.1) = false := by rfl) (hK : X.K = c.K := by rfl) : QE X c W (.Call (.Name "heappush" p) [.Name x p2, e] [] pos) (tCB (rPushG X) (tCons (tVar i) (tCons te tNil))) (mPushG i fe) :=
  ⟨pe_callBfun (cr_pushG (un66 hr)) hg hm (pa_cons (pe_var hN hv hd hcd) (pa_cons hf.1 pa_nil he2) he) (by decide) he hpl, den_pushG hK hf.2⟩
end
end Fx
/-! an instance one of whose fields is a dict that changes while the instance is made -/
namespace Fx
open PySem PySem.Spec PyProof.Rows L2
open C8 (Cal Mak pe_c pe_mk)
theorem set_self {α : Type} : ∀ {l : List α} {i : Nat} {a : α}, l[i]? = some a → l.set i a = l
  | [], _, _, h => by simp at h
  | x :: l, 0, a, h => by simp at h; subst h; rfl
  | x :: l, i + 1, a, h => by
    show x :: l.set i a = x :: l
    rw [set_self (by simpa using h)]
end Fx
/-! xs += ys, xs a name's own list -/
namespace Fx
open PySem PySem.Spec PyProof.Rows L2
def mAugL (i : Nat) (fe : M S) : M Fl := fun ρ => if ownL ρ i then (dv fe ρ).then fun y ρ1 => match ρ1[i]? with
    | some (some (.o b (.lst ds))) => match y with
      | .lst es => if small (ds.length + es.length) then .ok .nx (ρ1.set i (some (.o b (.lst (ds ++ es))))) else .stuck
      | _ => .stuck
    | _ => .stuck
  else .stuck
section
variable {c : Cfg} {W : WX} {te : TE} {fe : M S} {i : Nat}
theorem ds_augL (h : Den c W te fe) : DenS c W (tAug i te rExt2) (mAugL i fe) := fun B ts vs ρ σ H D r q => by
  unfold mAugL at q
  split at q
  · rename_i ho
    obtain ⟨a, us, ev, ha⟩ := ownL_at ho r
    rw [post_then] at q
    refine ⟨.ref a, ev, h.dv r (q.imp (fun y ρ1 q1 v H1 r1 => ?_) fun _ _ h => h.toP)⟩
    split at q1
    · rename_i b ds e1
      cases y <;> first | exact q1.elim | skip
      rename_i es
      have q1 : Post (EndP c B ts vs D) (ErrS c W B ts vs) (if small (ds.length + es.length) then .ok .nx (ρ1.set i (some (.o b (.lst (ds ++ es))))) else .stuck) := q1
      split at q1
      · rename_i hz
        obtain ⟨G, o1, o2, k, h1, h2⟩ := id r1
        obtain ⟨a', ev', ⟨us', ha', ka⟩, hmem, hb⟩ := h2.getO e1
        rw [ev] at ev'
        cases ev'
        cases h1 with
        | d hv h1 =>
          obtain ⟨b', zs, rfl, hz', kz⟩ := hv.lstE
          refine ⟨a, b', us', zs, rfl, rfl, ha', k.sub _ _ hz', ?_, ?_⟩
          · rw [ka.length, kz.length]
            exact Fx.small_line hz
          · have nd := k.nd
            rw [List.nodup_append] at nd
            have r3 : Rep c B ts vs (ρ1.set i (some (.o b (.lst (ds ++ es))))) σ (upd H1 a (.lst (us' ++ zs))) := ⟨G, _, o2, k.write (List.mem_append_right _ hmem) ha' (.lst _), h1.mono (fun _ _ e => e) fun q hq => upd_ne fun z => nd.2.2 q hq a hmem z, h2.write nd.2.1 e1 ev (fun q hq => upd_ne hq) ⟨us' ++ zs, upd_same, ka.app kz⟩⟩
            show D.nx (List.set σ i (some (V.ref a))) (upd H1 a (.lst (us' ++ zs)))
            rw [set_self ev]
            exact q1 σ _ r3
      · exact q1.elim
    · exact q1.elim
  · exact q.elim
end
section
variable {X : Cx} {c : Cfg} {W : WX} {e : Expr} {te : TE} {fe : M S} {p pos : Pos}
theorem s_augL (i : Nat) {x : Str} (hN : X.N.Nodup) (h : QE X c W e te fe) (hi : X.N[i]? = some x := by rfl) (hx : Loc X.env.scope x := by first | exact Or.inl rfl | exact Or.inr rfl) (hf : X.fn x = true ∨ X.env.scope.names.lookup x = some .local := by first | exact Or.inl rfl | exact Or.inr rfl) :
    QS X c W (.AugAssign (.Name x p) .Add e pos) (tAug i te rExt2) (mAugL i fe) := by
  obtain ⟨h1, h2⟩ := h
  exact ⟨ps_aug hN hi hx h1 (fun pins s σ H x y v u Q I rx ry h => iop_ext pins s σ H x y v u Q I rx ry h) hf, ds_augL h2⟩
end
end Fx
/-! xs[::-1] of a list -/
namespace Fx
open PySem PySem.Spec PyProof.Rows L2
end Fx
/-! t[::-1] of a tuple -/
namespace HT
open PySem PySem.Spec PyProof.Rows L2
section
variable {prog : Program} {w : World} {A : Around} {E : Value → Shared → Prop} {s : Shared}
theorem sliceApplied_rev {sl : Addr} {vl vu vs : Value} {n : Nat} {Q : Int × Int × Nat → Shared → Prop} (hs : s.heap.IsSliceOf sl vl vu vs) (pl : IsPart vl none) (pu : IsPart vu none) (ps : IsPart vs (some (-1)))
    (h : Q ((n : Int) - 1, -1, n) s) : wpAny (model prog w) A (Builtin.Slice.sliceApplied (.ref sl) (pure (n : Int))) Q E s := by
  obtain ⟨os, hos, hcs, hds⟩ := id hs
  unfold Builtin.Slice.sliceApplied Builtin.Slice.sliceFields
  refine wpAny_bind (wpAny_bind (wpAny_field hos hds (x := vl) rfl (wpAny_bind (wpAny_field hos hds (x := vu) rfl (wpAny_bind (wpAny_field hos hds (x := vs) rfl (wpAny_pure ?_)))))))
  refine wpAny_bind (slicePart_ ps ?_)
  show wpAny _ _ (if ((-1 : Int) == 0) = true then _ else _) _ _ s
  rw [if_neg (by decide)]
  refine wpAny_bind (slicePart_ pl (wpAny_bind (slicePart_ pu (wpAny_bind (wpAny_pure ?_)))))
  have e1 : Builtin.Slice.sliceAdjust none none (-1) (n : Int) = ((n : Int) - 1, -1) := by
    unfold Builtin.Slice.sliceAdjust
    simp
  have e2 : Builtin.Slice.slicePlaces ((n : Int) - 1) (-1) (-1) = n := by
    unfold Builtin.Slice.slicePlaces
    simp
    try omega
  show wpAny _ _ (match Builtin.Slice.sliceAdjust none none (-1) (n : Int) with | (lo, hi) => pure (lo, (-1 : Int), Builtin.Slice.slicePlaces lo hi (-1))) _ _ s
  rw [e1]
  show wpAny _ _ (pure ((n : Int) - 1, (-1 : Int), Builtin.Slice.slicePlaces ((n : Int) - 1) (-1) (-1))) _ _ s
  rw [e2]
  exact wpAny_pure h
theorem fm_congr {α β : Type} {f g : α → Option β} : ∀ {l : List α}, (∀ x ∈ l, f x = g x) → l.filterMap f = l.filterMap g
  | [], _ => rfl
  | x :: l, h => by
    rw [List.filterMap_cons, List.filterMap_cons, h x List.mem_cons_self, fm_congr fun y hy => h y (List.mem_cons_of_mem _ hy)]
theorem pick_rev (xs : Array Value) : ((List.range xs.size).filterMap fun (m : Nat) => xs[(((xs.size : Int) - 1) + (m : Int) * -1).toNat]?).toArray = xs.toList.reverse.toArray := by
  have e : (List.range xs.size).filterMap (fun (m : Nat) => xs[(((xs.size : Int) - 1) + (m : Int) * -1).toNat]?) = ((List.range xs.size).map fun k => xs.size - 1 - k).filterMap (xs[·]?) := by
    rw [List.filterMap_map]
    refine fm_congr fun m hm => ?_
    have := List.mem_range.mp hm
    show xs[(((xs.size : Int) - 1) + (m : Int) * -1).toNat]? = xs[xs.size - 1 - m]?
    rw [show (((xs.size : Int) - 1) + (m : Int) * -1).toNat = xs.size - 1 - m by omega]
  rw [e, PySem.W.krv_range, List.filterMap_reverse, PySem.W.krv_all]
theorem getItem_tuple_rev {t sl : Addr} {items : Array Value} {vl vu vs : Value} {Q : Value → Shared → Prop} (ht : IsTup s.heap t items) (hs : s.heap.IsSliceOf sl vl vu vs) (pl : IsPart vl none) (pu : IsPart vu none) (ps : IsPart vs (some (-1)))
    (h : Q (.ref s.heap.objs.size) { s with heap := s.heap.push { cls := .type "tuple", data := .seq items.toList.reverse.toArray } }) (hsz : items.size ≤ sizeLine) : wpAny (model prog w) A (getItem (.ref t) (.ref sl)) Q E s := by
  have htake : sizeOk (.seq items.toList.reverse.toArray) := by
    show items.toList.reverse.toArray.size ≤ sizeLine
    rw [List.size_toArray, List.length_reverse, Array.length_toList]
    exact hsz
  obtain ⟨os, hos, hcs, hds⟩ := id hs
  have hTs : s.TypeIs (.ref sl) "slice" := ⟨os, hos, hcs⟩
  unfold getItem
  try with_reducible refine wpAny_holding ?_
  first | refine wpAny_bind (wpAny_pure ?_) | skip
  refine wpAny_bind (wpAny_sequenceKey ht.typeIs (by decide) ?_)
  refine wpAny_bind (wpAny_callSpecial?_slot (name := Str.ofString "__getitem__") ht.typeIs PyProof.Rows.slot_tuple_getitem
    (wpAny_call_entry PyProof.Rows.slot_tuple_getitem ht.typeIs entry_tuple_getitem ?_ (args_tuple_getitem _ _)))
  show wpAny _ _ (Builtin.Tuple.tupleItemsOf (.ref t) >>= _) _ _ s
  refine wpAny_bind (tupleItemsOf_ ht ?_)
  refine wpAny_bind (wpAny_typeOf hTs ?_)
  rw [if_pos (by decide)]
  refine wpAny_bind (sliceApplied_rev hs pl pu ps ?_)
  show wpAny _ _ (if (((items.size : Int) - 1) == 0 && (-1 : Int) == 1 && items.size == items.size) = true then _ else _) _ _ s
  rw [if_neg (by simp), pick_rev]
  first
    | exact wpAny_bind (m := Builtin.Tuple.tupleExact _) (wpAny_newObj_type (wpAny_pure ⟨_, rfl, wpAny_pure h⟩) htake)
    | exact wpAny_bind (m := Builtin.Tuple.tupleExact _) (wpAny_newObj_type (wpAny_bind (wpAny_pure (wpAny_pure ⟨_, rfl, wpAny_pure h⟩))) htake)
    | exact wpAny_bind (wpAny_bind (m := Builtin.Tuple.tupleExact _) (wpAny_newObj_type (wpAny_pure (wpAny_pure ⟨_, rfl, wpAny_pure h⟩)) htake))
    | exact wpAny_bind (wpAny_bind (m := Builtin.Tuple.tupleExact _) (wpAny_newObj_type (wpAny_pure ⟨_, rfl, wpAny_pure h⟩) htake))
end
end HT
namespace Fx
open PySem PySem.Spec PyProof.Rows L2
def tRevT (K : PySem.W.Frag) (te : TE) : TE := fun σ H Q => te σ H fun x H1 => ∃ a xs, x = .ref a ∧ SqT K H1 a xs ∧ NewT H1 xs.reverse Q
theorem pe_revT {X : Cx} {e : Expr} {te : TE} {k : Nat} {p1 p2 p3 pos : Pos} (he : PE X e te) : PE X (.Subscript e (.Slice none none (some (.UnaryOp .USub (.Constant (.int 1) k p1) p2)) p3) pos) (tRevT X.K te) := by
  refine ⟨fun pins s σ H Q I h => ?_⟩
  refine Subscript_ (thn (he.run pins s σ H _ I h) fun v s1 ⟨x, H1, I1, r1, a, xs, ex, hx, q⟩ => ?_)
  subst ex
  cases r1
  have hst : PO X (some (.UnaryOp .USub (.Constant (.int 1) k p1) p2)) (tPart (tUn (rU fun i => .int (-i)) (tC (.int 1)))) := po_some (pe_un un_neg pe_int)
  refine wpAny_Slice (thn (po_none.run pins s1 σ H1 (fun o H2 => o = none ∧ H2 = H1) I1 ⟨rfl, rfl⟩) fun vl s2 ⟨l, H2, I2, pl, el, e2⟩ => ?_)
  subst el e2
  refine thn (po_none.run pins s2 σ H2 (fun o H3 => o = none ∧ H3 = H2) I2 ⟨rfl, rfl⟩) fun vu s3 ⟨u, H3, I3, pu, eu, e3⟩ => ?_
  subst eu e3
  refine thn (hst.run pins s3 σ H3 (fun o H4 => o = some (-1) ∧ H4 = H3) I3 ⟨1, rfl, -1, rfl, rfl, rfl⟩) fun vs s4 ⟨o, H4, I4, ps, eo, e4⟩ => ?_
  subst eo e4
  have I5 : Inv X pins σ H4 { s4 with heap := s4.heap.push { cls := .type "slice", data := .fields #[vl, vu, vs] } } := I4.kept (t' := s4.toks) fun b ob q => Heap.get?_push_of_some _ q
  obtain ⟨its, r, ht, hz⟩ := I5.tuple hx
  have hlen := r.length
  refine tail_any (ops := [.ref a, .ref s4.heap.objs.size]) ht.typeIs (PyProof.Rows.slot_tuple_getitem.lookup) ?_ (by with_unfolding_all rfl)
  refine HT.getItem_tuple_rev ht (Heap.IsSliceOf.new _ vl vu vs) pl pu ps ?_ (by rw [List.size_toArray]; omega)
  exact newT_laid I5 (by rw [List.length_reverse]; exact hz) r.reverse q
def mRevT (fe : M S) : M S := fun ρ => (dv fe ρ).then fun x ρ1 => match x with
  | .tup ds => .ok (.d (.tup ds.reverse)) ρ1
  | _ => .stuck
section
variable {c : Cfg} {W : WX} {te : TE} {fe : M S}
theorem den_revT (h : Den c W te fe) : Den c W (tRevT c.K te) (mRevT fe) := fun B ts vs ρ σ H Q r q => by
  unfold mRevT at q
  rw [post_then] at q
  refine h.dv r (q.imp1 fun x ρ1 q v H1 r1 => ?_)
  cases x <;> first | exact q.elim | skip
  rename_i ds
  obtain ⟨G, O, hv⟩ := r1.one
  obtain ⟨a, us, rfl, ha, ka, na⟩ := hv.tupN
  exact ⟨a, us, rfl, SqT.up O.sub ha, fun p o hp ho => q _ _ (O.new hp rfl fun G' m e => .tup (.inl (.inr ⟨o, e⟩)) (ka.rev.mono m) fun _ => ⟨o, e, ho⟩)⟩
theorem q_revT {X : Cx} {e : Expr} {k : Nat} {p1 p2 p3 pos : Pos} (h : QE X c W e te fe) (hK : X.K = c.K := by rfl) : QE X c W (.Subscript e (.Slice none none (some (.UnaryOp .USub (.Constant (.int 1) k p1) p2)) p3) pos) (tRevT c.K te) (mRevT fe) := ⟨hK ▸ pe_revT h.1, den_revT h.2⟩
end
end Fx
/-! xs.extend(t), t a tuple -/
namespace HT
open PySem PyProof.Rows
open PySem.AutoSeq1 (wpAny_loadPart')
open PySem.MeetsSeq PySem.MeetsSeq2 PySem.MeetsSeq3
theorem list_extend_tup (l : Addr) (items : Array Value) (n : Nat) (b : Addr) (items2 : Array Value) (n2 : Nat) (dd2 : Option Addr) (sl2 : Array (Option Value)) (hs0 : ¬(!items.isEmpty && Builtin.List.listTooLong (items.size + items2.size)) = true) (hs1 : items.size ≤ sizeLine) (hs2 : items.size + items2.size ≤ sizeLine + 1) :
    Meets (Builtin.«list.extend» ⟨[.ref l, .ref b], []⟩) (fun _ R s => s.heap.get? l = some { cls := .type "list", dict := none, data := .seq items n, slots := #[] } ∧ s.heap.get? b = some { cls := .type "tuple", dict := dd2, data := .seq items2 n2, slots := sl2 } ∧ R (.ok (.ret Value.none)) { s with heap := s.heap.update l (Obj.mapSeq fun x => x ++ items2), toks := s.toks }) :=
  .of_wp fun prog w A R s h => by
    obtain ⟨hp, g, d, tk, os⟩ := s
    obtain ⟨hl, hb, h⟩ := h
    have f2 := AutoSeq1.sub_tuple_tuple
    have f3 := AutoSeq1.sub_list_list
    have f4 := AutoSeq1.sub_tuple_list
    have f5 := AutoSeq1.sub_list_tuple
    have hz' : (items ++ items2).size ≤ sizeLine + 1 := by rw [Array.size_append]; exact hs2
    wp_walk using (wpAny_updateSeq hl rfl (hz := hs1) (_hz' := hz')), wpAny_loadPart' hl, wpAny_loadPart' hb
    exact ⟨_, rfl, h⟩
end HT
namespace Fx
open PySem PySem.Spec PyProof.Rows L2
def rExtT (K : PySem.W.Frag) : V → List V → Hp → VK → Prop := fun x vs H Q => ∃ l b xs zs, x = .ref l ∧ vs = [.ref b] ∧ H l = some (.lst xs) ∧ SqT K H b zs ∧ xs.length + zs.length ≤ sizeLine ∧ Q .non (upd H l (.lst (xs ++ zs)))
theorem mt_extT {X : Cx} : MtM X "list.extend" (rExtT X.K) := by
  intro pins s σ H x vs v us Q I rx rv h
  obtain ⟨l, b, xs, zs, rfl, rfl, hH, hB, hz, q⟩ := h
  cases rx
  obtain ⟨u, rfl, ru⟩ := rv.one
  cases ru
  obtain ⟨z, its, n, r, hl, e⟩ := I.lstM hH
  obtain ⟨its2, r2, ⟨o, e2, hc, n2, hd⟩, z2⟩ := I.tuple hB
  have hl2 := r2.length
  obtain ⟨cls, dd2, dat, sl2⟩ := o
  cases hc
  cases hd
  have hsz : its.toArray.size + its2.toArray.size ≤ sizeLine := by rw [List.size_toArray, List.size_toArray]; omega
  have hlong : ¬ (!its.toArray.isEmpty && Builtin.List.listTooLong (its.toArray.size + its2.toArray.size)) = true := by
    rw [notLongL hsz, Bool.and_false]
    exact Bool.false_ne_true
  refine call_meets F.slot_list_extend ⟨_, e, rfl⟩ F.entry_list_extend (F.args_list_extend_2 _ _)
    (HT.list_extend_tup l its.toArray n b its2.toArray n2 dd2 sl2 hlong (by rw [List.size_toArray]; omega) (by omega)) ⟨e, e2, ?_⟩
  refine ⟨.non, _, I.lset (its' := its ++ its2) hH e (by simp) (r.append r2) ?_, rfl, q⟩
  rw [List.length_append]
  omega
def gExtT (ds : List D) (y : D) : Option (D × List D) := match y with
  | .tup es => if small (ds.length + es.length) then some (.non, ds ++ es) else none
  | _ => none
section
variable {c : Cfg} {W : WX} {X : Cx} {e : Expr} {te : TE} {fe : M S} {i : Nat} {x : Str} {p pos cpos apos : Pos}
theorem md_extT : MthDen c (rExtT c.K) gExtT := by
  intro G H Q a us ds y z v es sub ha ka hv e q
  cases y <;> first | cases e | skip
  rename_i ys
  have e : (if small (ds.length + ys.length) then some (D.non, ds ++ ys) else none) = some (z, es) := e
  split at e
  · rename_i hz
    cases e
    obtain ⟨b, ws, rfl, hb, kb, _⟩ := hv.tupN
    exact ⟨a, b, us, ws, rfl, rfl, ha, SqT.up sub hb, by rw [ka.length, kb.length]; exact small_line hz, q _ _ .non (ka.app kb)⟩
  · cases e
theorem q_extT (i : Nat) (he : QE X c W e te fe) (hN : X.N[i]? = some x := by rfl) (hv : Vis X.env.scope x := by first | exact Or.inl rfl | exact Or.inr (Or.inl rfl) | exact Or.inr (Or.inr rfl)) (hd : (x == ("__debug__" : Str)) = false := by decide)
    (hcd : (x == ("__classdict__" : Str)) = false := by decide) (hbase : attributeBase (.Name x p) "extend" X.env (eval (.Name x p) X.env) = eval (.Name x p) X.env := by rfl)
    (hfew : ((backTo cpos (starEach [e] X.env)).all (fun y => !y.1) && (backToKw cpos (keywordEach [] X.env)).all (fun y => y.1.isSome) && decide ([e].length + ([] : List Keyword).length + (if ([] : List Keyword).isEmpty then 0 else 1) < 30)) = true := by rfl) (hline : (apos.endLine == cpos.line) = true := by rfl)
    (hs : starEach [e] X.env = (false, eval e X.env) :: starEach [] X.env := by rfl) (hplain : (backTo cpos (starEach [] X.env)).any (·.1) = false := by rfl) (hK : X.K = c.K := by rfl) :
    QE X c W (.Call (.Attribute (.Name x p) "extend" apos) [e] [] cpos) (tBM c.K "list" (rExtT c.K) (tVar i) (tCons te tNil)) (mMeth1 i gExtT fe) := by
  obtain ⟨h1, h2⟩ := he
  exact ⟨hK ▸ pe_bm PySem.F.plainAttrs_list PySem.F.slot_list_extend PySem.F.type_list_extend mt_extT (pe_var hN hv hd hcd) (pa_cons h1 pa_nil hs) hbase hfew hline hs hplain, den_meth1 md_extT h2⟩
end
end Fx
/-! dict(d), keys numbers or texts -/
namespace Fx
open PySem PySem.Spec PyProof.Rows L2
end Fx
/-! own errors with fields: the promise of an __init__ that says super().__init__(f'..'), then self.f = f -/
namespace Fx
open PySem PySem.Spec PyProof.Rows L2
open PySem.W (kxs_ValueError kxs_getMethod kxs_callWith kxs_mw InstAt)
/-! ### the text -/
/-! ### the def -/
/-! ### super().__init__(..) -/
/-! ### the promise -/
end Fx
/-! own errors with fields: one field, two fields; raise X(..) -/
namespace Fx
open PySem PySem.Spec PyProof.Rows L2
open C8 (Cal Mak pe_c pe_mk)
/-! ### on data -/
end Fx
/-! {**d, k: v}, keys numbers or texts -/
namespace Fx
open PySem PySem.Spec PyProof.Rows L2
end Fx
/-! {k: v} -/
namespace Fx
open PySem PySem.Spec PyProof.Rows L2
section
variable {X : Cx} {c : Cfg}
def tDis1X (c : Cfg) (tk tv : TE) : TE := fun σ H Q => ∀ d o0, H d = none → DcO c.w d o0 [] [] [] → tk σ (upd H d (xdO d o0)) fun y H1 => tv σ H1 fun z H2 => ∃ (o2 : Obj) (key : D) (G : Hp), H2 d = some (xdO d o2) ∧ DcO c.w d o2 [] [] [] ∧ (∀ b u, G b = some u → H2 b = some u) ∧ Rp c G y key ∧ homog [] key = true ∧
  ∀ o1, DcO c.w d o1 [key] [y] [z] → Q (.ref d) (upd H2 d (xdO d o1))
theorem pe_dis1X (hK : X.K = c.K) (hw : X.w = c.w) (hu : X.A.units + 10 < cLine) {k v : Expr} {pos : Pos} {tk tv : TE} (hk : PE X k tk) (hv : PE X v tv) : PE X (.Dict [some k] [v] pos) (tDis1X c tk tv) := ⟨fun pins s σ H Q I h => by
  have free : H s.heap.objs.size = none := I.hok.fresh (Nat.le_refl _)
  rw [arm_eval_Dict]
  refine wpAny_bind (wpAny_standAt ?_)
  have e1 := dictDisplay_pairs [(eval k X.env, (do let x ← eval v X.env; standAt pos; pure x : Sem Value))] (by simp) (by show 1 < 17; decide)
  show wpAny _ _ (dictDisplay [(some (eval k X.env), (do let x ← eval v X.env; standAt pos; pure x))]) _ _ _
  have e2 : dictDisplay [(some (eval k X.env), (do let x ← eval v X.env; standAt pos; pure x))] = (do let d ← subDict [(eval k X.env, (do let x ← eval v X.env; standAt pos; pure x : Sem Value))]; pure (.ref d)) := e1
  rw [e2]
  refine wpAny_bind ?_
  unfold subDict
  refine wpAny_bind (wpAny_alloc ?_)
  refine wpAny_bind (wpAny_holding ?_)
  rw [if_pos (by show 1 ≤ 15; decide)]
  have I0 := I.laid (a := s.heap.objs.size) (o := xdO s.heap.objs.size { cls := .type "dict", data := .dict #[] }) (t' := s.toks) (fun _ _ e => Heap.get?_push_of_some _ e) (Nat.le_refl _) (xd_ok (Heap.get?_push_size _ rfl))
  have d0 : DcO c.w s.heap.objs.size { cls := .type "dict", data := .dict #[] } [] [] [] := DcO.new I.big
  refine wpAny_bind (evalPairs_cons (thn (hk.run pins _ σ _ _ I0 (h _ _ free d0)) fun yv s2 ⟨y, H2, I2, ry, more⟩ => wpAny_bind (thn (hv.run pins _ σ _ _ I2 more) fun zv s3 ⟨z, H3, I3, rz, o2, key, G, hD, d2, sub, hky, hm, fin⟩ => wpAny_bind (wpAny_standAt (wpAny_pure (evalPairs_nil ?_))))))
  refine wpAny_holding (wpAny_bind ?_)
  rw [List.forIn_cons]
  refine wpAny_bind (wpAny_bind ?_)
  refine x_dictSet hu I3 hK hw sub hD d2 .nil hky hm (by rw [sizeLine_eq]; show 0 < _; decide) ry rz fun s4 o4 I4 d4 => ?_
  refine wpAny_pure ?_
  dsimp only
  rw [List.forIn_nil]
  refine wpAny_pure (wpAny_pure (wpAny_pure (wpAny_pure ?_)))
  exact ⟨.ref s.heap.objs.size, _, I4, rfl, fin o4 d4⟩⟩
def mDis1 (fk fv : M S) : M S := fun ρ => (dv fk ρ).then fun k ρ1 => (dv fv ρ1).then fun y ρ2 => if homog [] k then .ok (.o none (.dct [k] [y])) ρ2 else .stuck
theorem den_dis1 {W : WX} {tk tv : TE} {fk fv : M S} (hk : Den c W tk fk) (hv : Den c W tv fv) : Den c W (tDis1X c tk tv) (mDis1 fk fv) := fun B ts vs ρ σ H Q r q d o0 hd d0 => by
  unfold mDis1 at q
  rw [post_then] at q
  have r0 : Rep c B (some (.o none (.dct [] [])) :: ts) (some (.ref d) :: vs) ρ σ (upd H d (xdO d o0)) := Rep.newO (ds := []) (us := []) r rfl hd fun G H' e _ => ⟨o0, [], [], e, d0, .nil, .nil⟩
  refine hk.dv r0 (q.imp (fun k ρ1 q y H1 r1 => ?_) fun _ _ h => h.drop)
  rw [post_then] at q
  refine hv.dv r1 (q.imp (fun x ρ2 q z H2 r2 => ?_) fun _ _ h => h.drop.drop)
  have q2 : Post (OkP c B ts vs σ Q) (ErrP c W B ts vs σ) (if homog [] k then .ok (.o none (.dct [k] [x])) ρ2 else .stuck) := q
  split at q2
  · rename_i hm
    obtain ⟨G, o1, o2, kk, h1, h2⟩ := r2
    cases h1 with
    | d hz h1 =>
      cases h1 with
      | d hy h1 =>
        cases h1 with
        | o hc hb h1 =>
          obtain ⟨ob, kv, us, ha, hd2, k1, k2⟩ := hc
          cases k1
          cases k2
          have nd := kk.nd
          rw [List.cons_append, List.nodup_cons] at nd
          refine ⟨ob, k, G, ha, hd2, kk.sub, hy, hm, fun o3 d3 => q2 _ _ ?_⟩
          exact ⟨G, d :: _, o2, kk.write List.mem_cons_self ha (dct_cell hd2), .o ⟨o3, _, _, upd_same, d3, .cons hy .nil, .cons hz .nil⟩ hb (h1.mono (fun _ _ e => e) fun p hp => upd_ne fun z => nd.1 (z ▸ List.mem_append_left _ hp)), h2.mono (fun _ _ e => e) fun p hp => upd_ne fun z => nd.1 (z ▸ List.mem_append_right _ hp)⟩
  · exact q2.elim
theorem q_dis1 {W : WX} {k v : Expr} {pos : Pos} {kk : Nat} {tk tv : TE} {fk fv : M S} (hr : Room kk X.A) (hw : X.w = c.w) (hk : QE X c W k tk fk) (hv : QE X c W v tv fv) (hK : X.K = c.K := by rfl) : QE X c W (.Dict [some k] [v] pos) (tDis1X c tk tv) (mDis1 fk fv) :=
  ⟨pe_dis1X hK hw (by have := un66 hr; omega) hk.1 hv.1, den_dis1 hk.2 hv.2⟩
end
end Fx
/-! a constant of the module that is a tuple of ints -/
namespace Fx
open PySem PySem.Spec PyProof.Rows L2
def KTup (K : PySem.W.Frag) (mg : Str → Option Value) (x : Str) (ns : List Int) : Prop := ∃ (a : Addr) (o : Obj) (its : Array Value) (n : Nat), mg x = some (.ref a) ∧ K.lookup a = some o ∧ o.cls = .type "tuple" ∧ o.data = .seq its n ∧ its.size ≤ sizeLine ∧ Vals (ns.map V.int) its.toList
theorem rpKt {c : Cfg} {G : Hp} : ∀ ns : List Int, RpAll c G (ns.map V.int) (ns.map D.int)
  | [] => .nil
  | n :: ns => .cons (.int n) (rpKt ns)
theorem arcy_kt : ∀ ns : List Int, arcy (ns.map D.int) = false
  | [] => rfl
  | n :: ns => rfl
section
variable {X : Cx} {c : Cfg} {W : WX} {x : Str} {pos : Pos} {ns : List Int} {mg : Str → Option Value}
theorem qkT (h : KTup c.K mg x ns) (hm : X.mg = mg := by rfl) (hg : Gl X x := by rfl) (hK : X.K = c.K := by rfl) (hd : (x == ("__debug__" : Str)) = false := by decide) : QE X c W (.Name x pos) (tC (.ref h.choose)) (mC (.tup (ns.map D.int))) := by
  obtain ⟨o, its, n, h1, h2, h3, h4, h5, h6⟩ := h.choose_spec
  exact ⟨pe_glob (v := .ref h.choose) hg (hm ▸ h1) rfl hd, den_c fun G => .tup (.inr ⟨o, its, n, h2, h3, h4, h5, h6⟩) (rpKt ns) fun z => by rw [arcy_kt] at z; cases z⟩
end
end Fx
/-! the denotations of routeweb_k88_whole_visits -/
namespace Fx.K88
open PySem PySem.Spec PyProof.Rows L2
open C8 (Cal Mak pe_c pe_mk)
open LamX (Tabs TabS TabB ExtN CodeO codeO_ne)
def topS (i : Nat) : Stmt := PySem.Challenge.pw_routeweb_k88_whole_visits.main.body.getD i (.Pass ⟨0, 0, 0, 0⟩)
abbrev s_is_number : Stmt := topS 7
abbrev n_is_number : List Str := ["value", "low", "high"]
def b_is_number : M Fl := (mRet (mAndV (mCB gIsi (aCons (mVar 0) (aCons (mC (.ty "int")) aNil))) (mAndV (mNotV (mCB gIsi (aCons (mVar 0) (aCons (mC (.ty "bool")) aNil)))) (mChain gLe gLe (mVar 1) (mVar 0) (mVar 2)))))
def f_is_number : Fn := runF 3 3 b_is_number
abbrev s_is_tuple : Stmt := topS 8
abbrev n_is_tuple : List Str := ["value", "least", "most"]
def b_is_tuple : M Fl := (mRet (mAndV (mCB gIsi (aCons (mVar 0) (aCons (mC (.ty "tuple")) aNil))) (mChain gLe gLe (mVar 1) (mCB gLen (aCons (mVar 0) aNil)) (mVar 2))))
def f_is_tuple : Fn := runF 3 3 b_is_tuple
abbrev s_are_numbers : Stmt := topS 9
abbrev n_are_numbers : List Str := ["value", "low", "high", "item"]
def b_are_numbers : M Fl := (mRet (mAndV (mCB gIsi (aCons (mVar 0) (aCons (mC (.ty "tuple")) aNil))) (mCB gAll (aCons (mLc (iSeq (mVar 0)) (gmName 3) mYes (mCall f_is_number (aCons (mVar 3) (aCons (mVar 1) (aCons (mVar 2) aNil)))) [3]) aNil))))
def f_are_numbers : Fn := runF 3 4 b_are_numbers
abbrev s_is_node : Stmt := topS 16
abbrev n_is_node : List Str := ["value"]
def b_is_node : M Fl := (mRet (mCall f_is_number (aCons (mVar 0) (aCons (mC (.int 0)) (aCons (mOp gMinus (mCB gLen (aCons (mC (.tup (([0, 1, 2, 3, 4, 5, 6, 7] : List Int).map D.int))) aNil)) (mC (.int 1))) aNil)))))
def f_is_node : Fn := runF 1 1 b_is_node
abbrev s_is_stack : Stmt := topS 17
abbrev n_is_stack : List Str := ["value", "most"]
def b_is_stack : M Fl := (mRet (mAndV (mCall f_are_numbers (aCons (mVar 0) (aCons (mC (.int 0)) (aCons (mC (.int 5)) aNil)))) (mOp gLe (mCB gLen (aCons (mVar 0) aNil)) (mVar 1))))
def f_is_stack : Fn := runF 2 2 b_is_stack
abbrev s_is_rule : Stmt := topS 18
abbrev n_is_rule : List Str := ["value", "node", "label", "after", "put"]
def b_is_rule : M Fl := (mSeq (mIfS (mNot (mTest (mCall f_is_tuple (aCons (mVar 0) (aCons (mC (.int 4)) (aCons (mC (.int 4)) aNil)))))) (mRet (mC (.bl false))) mNx)
    (mSeq (mAsg (mVar 0) (gmTup 4 (gmCons (gmName 1) (gmCons (gmName 2) (gmCons (gmName 3) (gmCons (gmName 4) gmNil))))))
    (mRet (mAndV (mCall f_is_node (aCons (mVar 1) aNil)) (mAndV (mCall f_is_number (aCons (mVar 2) (aCons (mC (.int 0)) (aCons (mC (.int 5)) aNil)))) (mAndV (mCall f_is_node (aCons (mVar 3) aNil)) (mCall f_is_stack (aCons (mVar 4) (aCons (mC (.int 2)) aNil)))))))))
def f_is_rule : Fn := runF 1 5 b_is_rule
abbrev s_check_rules : Stmt := topS 19
abbrev n_check_rules : List Str := ["rules", "index", "rule"]
def b_check_rules : M Fl := (mSeq (mIfS (mNot (mTest (mCall f_is_tuple (aCons (mVar 0) (aCons (mC (.int 0)) (aCons (mC (.int 24)) aNil)))))) mSt mNx)
    (mFor (iEnu (aCons (mVar 0) aNil)) (gmTup 2 (gmCons (gmName 1) (gmCons (gmName 2) gmNil))) (mIfS (mNot (mTest (mCall f_is_rule (aCons (mVar 2) aNil)))) mSt mNx)))
def f_check_rules : Fn := runF 1 3 b_check_rules
abbrev s_check_node : Stmt := topS 20
abbrev n_check_node : List Str := ["node"]
def b_check_node : M Fl := (mIfS (mNot (mTest (mCall f_is_node (aCons (mVar 0) aNil)))) mSt mNx)
def f_check_node : Fn := runF 1 1 b_check_node
abbrev s_check_packet : Stmt := topS 21
abbrev n_check_packet : List Str := ["rules", "node", "stack"]
def b_check_packet : M Fl := (mSeq (mDrop (mCall f_check_rules (aCons (mVar 0) aNil)))
    (mSeq (mDrop (mCall f_check_node (aCons (mVar 1) aNil)))
    (mIfS (mNot (mTest (mCall f_is_stack (aCons (mVar 2) (aCons (mC (.int 12)) aNil))))) mSt mNx)))
def f_check_packet : Fn := runF 3 3 b_check_packet
abbrev s_is_shorter : Stmt := topS 23
abbrev n_is_shorter : List Str := ["length", "known"]
def b_is_shorter : M Fl := (mRet (mOrV (mOp gIsN (mVar 1) (mC .non)) (mOp gLt (mVar 0) (mOp gIx (mVar 1) (mC (.int 0))))))
def f_is_shorter : Fn := runF 2 2 b_is_shorter
abbrev s_drained : Stmt := topS 24
abbrev n_drained : List Str := ["ways", "node", "labels", "found", "label", "after", "place", "length", "parts", "part", "end", "longer"]
def b_drained : M Fl := (mSeq (mAsg (mDis1 (mVar 1) (mTup (aCons (mC (.int 0)) (aCons (mTup aNil) aNil)))) (gmName 3))
    (mSeq (mFor (iSeq (mVar 2)) (gmName 4) (mSeq (mAsgO 5 (mDnew))
    (mSeq (mFor (iKeysD (mVar 3)) (gmName 6) (mSeq (mAsg (mOp gDget (mVar 3) (mVar 6)) (gmTup 2 (gmCons (gmName 7) (gmCons (gmName 8) gmNil))))
    (mFor (iSeq (mLc (iSeq (mC (.tup (([0, 1, 2, 3, 4, 5, 6, 7] : List Int).map D.int)))) (gmName 10) (mTest (mInN false (mTup (aCons (mVar 6) (aCons (mVar 4) (aCons (mVar 10) aNil)))) 0)) (mTup (aCons (mVar 6) (aCons (mVar 4) (aCons (mVar 10) aNil)))) [10])) (gmName 9) (mSeq (mAsg (mOp gAdd (mVar 7) (mOp gIx (mDgetN 0 (mVar 9)) (mC (.int 0)))) (gmName 11))
    (mIfS (mTest (mCall f_is_shorter (aCons (mVar 11) (aCons (mGet1N 5 (mOp gIx (mVar 9) (mC (.int 2)))) aNil)))) (mAsg (mTup (aCons (mVar 11) (aCons (mTup (aStar (mVar 8) (aCons (mVar 9) aNil))) aNil))) (gmItemD 5 (mOp gIx (mVar 9) (mC (.int 2))))) mNx)))))
    (mAsg (mVar 5) (gmName 3)))))
    (mRet (mVar 3))))
def f_drained : Fn := runF 3 12 b_drained
abbrev s_drains : Stmt := topS 22
abbrev n_drains : List Str := ["rules", "found", "is_changed", "index", "node", "label", "after", "put", "drained", "end", "length", "parts"]
def b_drains : M Fl := (mSeq (mAsgO 1 (mDnew))
    (mSeq (mAsg (mC (.bl true)) (gmName 2))
    (mSeq (mWhile (mTruth (mVar 2)) (mSeq (mAsg (mC (.bl false)) (gmName 2))
    (mFor (iEnu (aCons (mVar 0) aNil)) (gmTup 2 (gmCons (gmName 3) (gmCons (gmTup 4 (gmCons (gmName 4) (gmCons (gmName 5) (gmCons (gmName 6) (gmCons (gmName 7) gmNil))))) gmNil))) (mSeq (mAsg (mCallO f_drained 1 0 (aOwn 1 (aCons (mVar 6) (aCons (mVar 7) aNil)))) (gmName 8))
    (mFor (iKeysD (mVar 8)) (gmName 9) (mSeq (mAsg (mOp gDget (mVar 8) (mVar 9)) (gmTup 2 (gmCons (gmName 10) (gmCons (gmName 11) gmNil))))
    (mIfS (mTest (mCall f_is_shorter (aCons (mOp gAdd (mVar 10) (mC (.int 1))) (aCons (mGet1N 1 (mTup (aCons (mVar 4) (aCons (mVar 5) (aCons (mVar 9) aNil))))) aNil)))) (mSeq (mAsg (mTup (aCons (mOp gAdd (mVar 10) (mC (.int 1))) (aCons (mTup (aCons (mTup (aCons (mVar 3) aNil)) (aStar (mVar 11) aNil))) aNil))) (gmItemD 1 (mTup (aCons (mVar 4) (aCons (mVar 5) (aCons (mVar 9) aNil))))))
    (mAsg (mC (.bl true)) (gmName 2))) mNx)))))) 1208925819614629174706176)
    (mRetO 1))))
def f_drains : Fn := runF 1 12 b_drains
abbrev s_tops : Stmt := topS 25
abbrev n_tops : List Str := ["ways", "node", "labels", "tops", "taken", "drained", "place"]
def b_tops : M Fl := (mSeq (mAsgO 3 (mLst aNil))
    (mSeq (mFor (iRange1 (aCons (mCB gLen (aCons (mVar 2) aNil)) aNil)) (gmName 4) (mSeq (mAsg (mCall f_drained (aCons (mVar 0) (aCons (mVar 1) (aCons (mSl (mVar 2) oNone (oSome (mVar 4))) aNil)))) (gmName 5))
    (mAugL 3 (mLc (iKeysD (mVar 5)) (gmName 6) mYes (mTup (aCons (mOp gIx (mOp gDget (mVar 5) (mVar 6)) (mC (.int 0))) (aCons (mTup (aCons (mVar 6) (aCons (mOp gIx (mVar 2) (mVar 4)) aNil))) (aCons (mOp gIx (mOp gDget (mVar 5) (mVar 6)) (mC (.int 1))) aNil)))) [6]))))
    (mRetO 3)))
def f_tops : Fn := runF 3 7 b_tops
abbrev s_next_tops : Stmt := topS 26
abbrev n_next_tops : List Str := ["rules", "ways", "top", "tops", "index", "node", "label", "after", "put", "length", "other", "parts"]
def b_next_tops : M Fl := (mSeq (mAsgO 3 (mLst aNil))
    (mSeq (mFor (iEnu (aCons (mVar 0) aNil)) (gmTup 2 (gmCons (gmName 4) (gmCons (gmTup 4 (gmCons (gmName 5) (gmCons (gmName 6) (gmCons (gmName 7) (gmCons (gmName 8) gmNil))))) gmNil))) (mIfS (mTest (mOp gEq (mTup (aCons (mVar 5) (aCons (mVar 6) aNil))) (mVar 2))) (mAugL 3 (mLc (iSeq (mCall f_tops (aCons (mVar 1) (aCons (mVar 7) (aCons (mVar 8) aNil))))) (gmTup 3 (gmCons (gmName 9) (gmCons (gmName 10) (gmCons (gmName 11) gmNil)))) mYes (mTup (aCons (mOp gAdd (mVar 9) (mC (.int 1))) (aCons (mVar 10) (aCons (mTup (aCons (mTup (aCons (mVar 4) aNil)) (aStar (mVar 11) aNil))) aNil)))) [9, 10, 11])) mNx))
    (mRetO 3)))
def f_next_tops : Fn := runF 3 12 b_next_tops
abbrev s_tops_from : Stmt := topS 27
abbrev n_tops_from : List Str := ["rules", "ways", "tops", "found", "waiting", "length", "top", "trail", "more", "other", "parts"]
def b_tops_from : M Fl := (mSeq (mAsgO 3 (mDnew))
    (mSeq (mAsgO 4 (mCB gList (aCons (mVar 2) aNil)))
    (mSeq (mDrop (mHeapifyG 4))
    (mSeq (mWhile (mTruthO 4) (mSeq (mAsg (mPopG 4) (gmTup 3 (gmCons (gmName 5) (gmCons (gmName 6) (gmCons (gmName 7) gmNil)))))
    (mIfS (mTest (mInN true (mVar 6) 3)) (mSeq (mAsg (mTup (aCons (mVar 5) (aCons (mVar 7) aNil))) (gmItemD 3 (mVar 6)))
    (mFor (iSeq (mCall f_next_tops (aCons (mVar 0) (aCons (mVar 1) (aCons (mVar 6) aNil))))) (gmTup 3 (gmCons (gmName 8) (gmCons (gmName 9) (gmCons (gmName 10) gmNil)))) (mDrop (mPushG 4 (mTup (aCons (mOp gAdd (mVar 5) (mVar 8)) (aCons (mVar 9) (aCons (mTup (aStar (mVar 7) (aStar (mVar 10) aNil))) aNil)))))))) mNx)) 100000)
    (mRetO 3)))))
def f_tops_from : Fn := runF 3 11 b_tops_from
abbrev s_run_of : Stmt := topS 28
abbrev n_run_of : List Str := ["ways", "trail", "numbers", "waiting", "item"]
def b_run_of : M Fl := (mSeq (mAsgO 2 (mLst aNil))
    (mSeq (mAsgO 3 (mCB gList (aCons ((mRevT (mVar 1))) aNil)))
    (mSeq (mWhile (mTruthO 3) (mSeq (mAsg (mMeth0 3 gPop) (gmName 4))
    (mIfS (mTest (mOp gEq (mCB gLen (aCons (mVar 4) aNil)) (mC (.int 1)))) (mDrop (mMeth1 2 gApp (mOp gIx (mVar 4) (mC (.int 0))))) (mDrop (mMeth1 3 gExtT ((mRevT (mOp gIx (mOp gDget (mVar 0) (mVar 4)) (mC (.int 1))))))))) 1073741824)
    (mRet (mCB gTuple (aCons (mVar 2) aNil))))))
def f_run_of : Fn := runF 2 5 b_run_of
abbrev s_visit_run : Stmt := topS 29
abbrev n_visit_run : List Str := ["rules", "node", "stack", "goal", "ways", "drained", "found", "trails", "top", "place"]
def b_visit_run : M Fl := (mSeq (mDrop (mCall f_check_packet (aCons (mVar 0) (aCons (mVar 1) (aCons (mVar 2) aNil)))))
    (mSeq (mDrop (mCall f_check_node (aCons (mVar 3) aNil)))
    (mSeq (mAsg (mCall f_drains (aCons (mVar 0) aNil)) (gmName 4))
    (mSeq (mAsg (mCall f_drained (aCons (mVar 4) (aCons (mVar 1) (aCons (mVar 2) aNil)))) (gmName 5))
    (mSeq (mAsg (mCall f_tops_from (aCons (mVar 0) (aCons (mVar 4) (aCons (mCall f_tops (aCons (mVar 4) (aCons (mVar 1) (aCons (mVar 2) aNil)))) aNil)))) (gmName 6))
    (mSeq (mAsg (mOp gAdd (mLc (iKeysD (mVar 6)) (gmName 8) (mTest (mOp gEq (mOp gIx (mVar 8) (mC (.int 0))) (mVar 3))) (mOp gDget (mVar 6) (mVar 8)) [8]) (mLc (iKeysD (mVar 5)) (gmName 9) (mTest (mOp gEq (mVar 9) (mVar 3))) (mOp gDget (mVar 5) (mVar 9)) [9])) (gmName 7))
    (mRet (mIf (mTruth (mVar 7)) (mCall f_run_of (aCons (mVar 4) (aCons (mOp gIx (mCB gMinD (aCons (mVar 7) aNil)) (mC (.int 1))) aNil))) (mC .non)))))))))
def f_visit_run : Fn := runF 4 10 b_visit_run
abbrev s_law_taken : Stmt := topS 31
abbrev n_law_taken : List Str := ["row", "many", "found", "cell"]
def b_law_taken : M Fl := (mSeq (mIfS (mTest (mOp gGt (mIxO 0 (mC (.int 3))) (mC (.int 0)))) (mSeq (mAsg (mOp gMod (mCB gInt1 (aCons (mIxO 0 (mC (.int 3))) aNil)) (mVar 1)) (gmName 2))
    (mSeq (mAsg (mOp gDiv (mIxO 0 (mC (.int 3))) (mVar 1)) (gmItem 0 (mC (.int 3))))
    (mRet (mVar 2)))) mNx)
    (mSeq (mAsg (mOp gAdd (mIxO 0 (mC (.int 1))) (mC (.int 1))) (gmItem 0 (mC (.int 1))))
    (mSeq (mIfS (mTest (mOp gGt (mIxO 0 (mC (.int 1))) (mCB gLen (aCons (mIxO 0 (mC (.int 0))) aNil)))) (mSeq (mAsg (mOp gMod (mCB gInt1 (aCons (mOp gAdd (mOp gMul (mIxO 0 (mC (.int 2))) (mC (.int 48271))) (mC (.int 11))) aNil)) (mC (.int 2147483647))) (gmItem 0 (mC (.int 2))))
    (mRet (mOp gMod (mCB gInt1 (aCons (mOp gDiv (mIxO 0 (mC (.int 2))) (mC (.int 7))) aNil)) (mVar 1)))) mNx)
    (mSeq (mAsg (mOp gIx (mIxO 0 (mC (.int 0))) (mOp gMinus (mIxO 0 (mC (.int 1))) (mC (.int 1)))) (gmName 3))
    (mSeq (mAsg (mOp gMod (mCB gInt1 (aCons (mOp gAdd (mOp gAdd (mOp gMul (mIxO 0 (mC (.int 2))) (mC (.int 48271))) (mVar 3)) (mC (.int 11))) aNil)) (mC (.int 2147483647))) (gmItem 0 (mC (.int 2))))
    (mSeq (mIfS (mTest (mOp gGe (mVar 3) (mOp gPow (mC (.int 10)) (mC (.int 18))))) (mAsg (mOp gDiv (mVar 3) (mVar 1)) (gmItem 0 (mC (.int 3)))) mNx)
    (mRet (mOp gMod (mCB gInt1 (aCons (mVar 3) aNil)) (mVar 1)))))))))
def f_law_taken : Fn := runF 2 4 b_law_taken
abbrev s_law_pick : Stmt := topS 32
abbrev n_law_pick : List Str := ["row", "things"]
def b_law_pick : M Fl := (mRet (mOp gIx (mVar 1) (mCallO f_law_taken 0 0 (aOwn 0 (aCons (mCB gLen (aCons (mVar 1) aNil)) aNil)))))
def f_law_pick : Fn := runF 2 2 b_law_pick
abbrev s_law_stack_rules : Stmt := topS 33
abbrev n_law_stack_rules : List Str := ["row", "nodes", "labels", "found", "turn", "size", "more", "at"]
def b_law_stack_rules : M Fl := (mSeq (mAsgO 3 (mLst aNil))
    (mSeq (mFor (iRange1 (aCons (mOp gAdd (mC (.int 1)) (mCallO f_law_taken 0 0 (aOwn 0 (aCons (mC (.int 9)) aNil)))) aNil)) (gmName 4) (mSeq (mAsg (mCallO f_law_pick 0 0 (aOwn 0 (aCons (mLst (aCons (mC (.int 0)) (aCons (mC (.int 1)) (aCons (mC (.int 1)) (aCons (mC (.int 2)) aNil))))) aNil))) (gmName 5))
    (mSeq (mAsg (mCB gTuple (aCons (mLc (iRange1 (aCons (mVar 5) aNil)) (gmName 7) mYes (mCallO f_law_taken 0 0 (aOwn 0 (aCons (mVar 2) aNil))) [7]) aNil)) (gmName 6))
    (mDrop (mMeth1 3 gApp (mTup (aCons (mCallO f_law_taken 0 0 (aOwn 0 (aCons (mVar 1) aNil))) (aCons (mCallO f_law_taken 0 0 (aOwn 0 (aCons (mVar 2) aNil))) (aCons (mCallO f_law_taken 0 0 (aOwn 0 (aCons (mVar 1) aNil))) (aCons (mVar 6) aNil))))))))))
    (mRet (mCB gTuple (aCons (mVar 3) aNil)))))
def f_law_stack_rules : Fn := runF 3 8 b_law_stack_rules
abbrev s_law_forward : Stmt := topS 34
abbrev n_law_forward : List Str := ["rules", "node", "stack", "numbers", "number", "own", "label", "more", "labels"]
def b_law_forward : M Fl := (mSeq (mFor (iSeq (mVar 3)) (gmName 4) (mSeq (mAsg (mOp gIx (mVar 0) (mVar 4)) (gmTup 4 (gmCons (gmName 5) (gmCons (gmName 6) (gmCons (gmName 7) (gmCons (gmName 8) gmNil))))))
    (mSeq (mIfS (mOr (mTest (mOp gNe (mVar 5) (mVar 1))) (mOr (mTest (mOp gEq (mVar 2) (mTup aNil))) (mTest (mOp gNe (mOp gIx (mVar 2) (mC (.int 0))) (mVar 6))))) (mRet (mC .non)) mNx)
    (mPar2 1 false 2 false (psCons (mVar 7) (psCons (mOp gAdd (mVar 8) (mSl (mVar 2) (oSome (mC (.int 1))) oNone)) psNil))))))
    (mRet (mTup (aCons (mVar 1) (aCons (mVar 2) aNil)))))
def f_law_forward : Fn := runF 4 9 b_law_forward
abbrev s_law_places : Stmt := topS 35
abbrev n_law_places : List Str := ["rules", "node", "stack", "deep", "found", "whole", "spot", "place", "labels", "own", "label", "more", "put", "other"]
def b_law_places : M Fl := (mSeq (mPar3 4 true 5 false 6 false (psCons (mLst (aCons (mTup (aCons (mVar 1) (aCons (mVar 2) aNil))) aNil)) (psCons (mC (.bl true)) (psCons (mC (.int 0)) psNil))))
    (mSeq (mWhile (mTest (mOp gLt (mVar 6) (mLenO 4))) (mSeq (mAsg (mTup (aCons (mIxO 4 (mVar 6)) (aCons (mOp gAdd (mVar 6) (mC (.int 1))) aNil))) (gmTup 2 (gmCons (gmTup 2 (gmCons (gmName 7) (gmCons (gmName 8) gmNil))) (gmCons (gmName 6) gmNil))))
    (mFor (iSeq (mVar 0)) (gmTup 4 (gmCons (gmName 9) (gmCons (gmName 10) (gmCons (gmName 11) (gmCons (gmName 12) gmNil))))) (mIfS (mAnd (mTest (mOp gEq (mVar 9) (mVar 7))) (mAnd (mTest (mOp gNe (mVar 8) (mTup aNil))) (mTest (mOp gEq (mOp gIx (mVar 8) (mC (.int 0))) (mVar 10))))) (mSeq (mAsg (mTup (aCons (mVar 11) (aCons (mOp gAdd (mVar 12) (mSl (mVar 8) (oSome (mC (.int 1))) oNone)) aNil))) (gmName 13))
    (mIfS (mOr (mTest (mOp gGt (mCB gLen (aCons (mOp gIx (mVar 13) (mC (.int 1))) aNil)) (mVar 3))) (mTest (mOp gGt (mLenO 4) (mC (.int 300))))) (mAsg (mC (.bl false)) (gmName 5)) (mIfS (mTest (mOpR gNotIn (mVar 13) 4)) (mDrop (mMeth1 4 gApp (mVar 13))) mNx))) mNx))) 1000)
    (mRet (mTup (aCons (mVar 4) (aCons (mVar 5) aNil))))))
def f_law_places : Fn := runF 4 14 b_law_places
abbrev s_law : Stmt := topS 36
abbrev n_law : List Str := ["script", "row", "nodes", "labels", "rules", "turn", "node", "stack", "at", "some", "whole", "goal", "way", "can", "place", "left", "last"]
def b_law : M Fl := (mSeq (mAsgO 1 (mLst (aCons (mVar 0) (aCons (mC (.int 0)) (aCons (mC (.int 3588)) (aCons (mC (.int 0)) aNil))))))
    (mSeq (mPar2 2 false 3 false (psCons (mOp gAdd (mC (.int 1)) (mCallO f_law_taken 1 0 (aOwn 1 (aCons (mC (.int 5)) aNil)))) (psCons (mOp gAdd (mC (.int 1)) (mCallO f_law_taken 1 0 (aOwn 1 (aCons (mC (.int 3)) aNil)))) psNil)))
    (mSeq (mAsg (mCallO f_law_stack_rules 1 0 (aOwn 1 (aCons (mVar 2) (aCons (mVar 3) aNil)))) (gmName 4))
    (mSeq (mFor (iRange1 (aCons (mC (.int 2)) aNil)) (gmName 5) (mSeq (mPar2 6 false 7 false (psCons (mCallO f_law_taken 1 0 (aOwn 1 (aCons (mVar 2) aNil))) (psCons (mCB gTuple (aCons (mLc (iRange1 (aCons (mCallO f_law_taken 1 0 (aOwn 1 (aCons (mC (.int 4)) aNil))) aNil)) (gmName 8) mYes (mCallO f_law_taken 1 0 (aOwn 1 (aCons (mVar 3) aNil))) [8]) aNil)) psNil)))
    (mSeq (mAsg (mCall f_law_places (aCons (mVar 4) (aCons (mVar 6) (aCons (mVar 7) (aCons (mC (.int 7)) aNil))))) (gmTup 2 (gmCons (gmName 9) (gmCons (gmName 10) gmNil))))
    (mFor (iRange1 (aCons (mVar 2) aNil)) (gmName 11) (mSeq (mPar2 12 false 13 false (psCons (mCall f_visit_run (aCons (mVar 4) (aCons (mVar 6) (aCons (mVar 7) (aCons (mVar 11) aNil))))) (psCons (mOp gNe (mLc (iSeq (mVar 9)) (gmTup 2 (gmCons (gmName 14) (gmCons (gmName 15) gmNil))) (mTest (mOp gEq (mVar 14) (mVar 11))) (mVar 14) [14, 15]) (mLst aNil)) psNil)))
    (mSeq (mIfS (mOr (mAnd (mTest (mOp gIsN (mVar 12) (mC .non))) (mTruth (mVar 13))) (mAnd (mTest (mOp gNotN (mVar 12) (mC .non))) (mAnd (mTruth (mVar 10)) (mNot (mTruth (mVar 13)))))) (mRet (mC (.bl false))) mNx)
    (mIfS (mTest (mOp gNotN (mVar 12) (mC .non))) (mSeq (mAsg (mCall f_law_forward (aCons (mVar 4) (aCons (mVar 6) (aCons (mVar 7) (aCons (mVar 12) aNil))))) (gmName 16))
    (mIfS (mOr (mTest (mOp gIsN (mVar 16) (mC .non))) (mTest (mOp gNe (mOp gIx (mVar 16) (mC (.int 0))) (mVar 11)))) (mRet (mC (.bl false))) mNx)) mNx)))))))
    (mRet (mC (.bl true)))))))
def f_law : Fn := runF 1 17 b_law
end Fx.K88
/-! the defs of routeweb_k88_whole_visits keep their denotations -/
namespace Fx.K88
open PySem PySem.Spec PyProof.Rows L2
open C8 (Cal Mak pe_c pe_mk)
open LamX (Tabs TabS TabB ExtN CodeO codeO_ne)
theorem sc_is_number : FnScope n_is_number ["value", "low", "high"] (defScope s_is_number) := ⟨rfl, rfl, rfl, by decide +kernel, rfl, by decide +kernel, by decide +kernel⟩
theorem sc_is_tuple : FnScope n_is_tuple ["value", "least", "most"] (defScope s_is_tuple) := ⟨rfl, rfl, rfl, by decide +kernel, rfl, by decide +kernel, by decide +kernel⟩
theorem sc_are_numbers : FnScope n_are_numbers ["value", "low", "high"] (defScope s_are_numbers) := ⟨rfl, rfl, rfl, by decide +kernel, rfl, by decide +kernel, by decide +kernel⟩
theorem sc_is_node : FnScope n_is_node ["value"] (defScope s_is_node) := ⟨rfl, rfl, rfl, by decide +kernel, rfl, by decide +kernel, by decide +kernel⟩
theorem sc_is_stack : FnScope n_is_stack ["value", "most"] (defScope s_is_stack) := ⟨rfl, rfl, rfl, by decide +kernel, rfl, by decide +kernel, by decide +kernel⟩
theorem sc_is_rule : FnScope n_is_rule ["value"] (defScope s_is_rule) := ⟨rfl, rfl, rfl, by decide +kernel, rfl, by decide +kernel, by decide +kernel⟩
theorem sc_check_rules : FnScope n_check_rules ["rules"] (defScope s_check_rules) := ⟨rfl, rfl, rfl, by decide +kernel, rfl, by decide +kernel, by decide +kernel⟩
theorem sc_check_node : FnScope n_check_node ["node"] (defScope s_check_node) := ⟨rfl, rfl, rfl, by decide +kernel, rfl, by decide +kernel, by decide +kernel⟩
theorem sc_check_packet : FnScope n_check_packet ["rules", "node", "stack"] (defScope s_check_packet) := ⟨rfl, rfl, rfl, by decide +kernel, rfl, by decide +kernel, by decide +kernel⟩
theorem sc_is_shorter : FnScope n_is_shorter ["length", "known"] (defScope s_is_shorter) := ⟨rfl, rfl, rfl, by decide +kernel, rfl, by decide +kernel, by decide +kernel⟩
theorem sc_drained : FnScope n_drained ["ways", "node", "labels"] (defScope s_drained) := ⟨rfl, rfl, rfl, by decide +kernel, rfl, by decide +kernel, by decide +kernel⟩
theorem sc_drains : FnScope n_drains ["rules"] (defScope s_drains) := ⟨rfl, rfl, rfl, by decide +kernel, rfl, by decide +kernel, by decide +kernel⟩
theorem sc_tops : FnScope n_tops ["ways", "node", "labels"] (defScope s_tops) := ⟨rfl, rfl, rfl, by decide +kernel, rfl, by decide +kernel, by decide +kernel⟩
theorem sc_next_tops : FnScope n_next_tops ["rules", "ways", "top"] (defScope s_next_tops) := ⟨rfl, rfl, rfl, by decide +kernel, rfl, by decide +kernel, by decide +kernel⟩
theorem sc_tops_from : FnScope n_tops_from ["rules", "ways", "tops"] (defScope s_tops_from) := ⟨rfl, rfl, rfl, by decide +kernel, rfl, by decide +kernel, by decide +kernel⟩
theorem sc_run_of : FnScope n_run_of ["ways", "trail"] (defScope s_run_of) := ⟨rfl, rfl, rfl, by decide +kernel, rfl, by decide +kernel, by decide +kernel⟩
theorem sc_visit_run : FnScope n_visit_run ["rules", "node", "stack", "goal"] (defScope s_visit_run) := ⟨rfl, rfl, rfl, by decide +kernel, rfl, by decide +kernel, by decide +kernel⟩
theorem sc_law_taken : FnScope n_law_taken ["row", "many"] (defScope s_law_taken) := ⟨rfl, rfl, rfl, by decide +kernel, rfl, by decide +kernel, by decide +kernel⟩
theorem sc_law_pick : FnScope n_law_pick ["row", "things"] (defScope s_law_pick) := ⟨rfl, rfl, rfl, by decide +kernel, rfl, by decide +kernel, by decide +kernel⟩
theorem sc_law_stack_rules : FnScope n_law_stack_rules ["row", "nodes", "labels"] (defScope s_law_stack_rules) := ⟨rfl, rfl, rfl, by decide +kernel, rfl, by decide +kernel, by decide +kernel⟩
theorem sc_law_forward : FnScope n_law_forward ["rules", "node", "stack", "numbers"] (defScope s_law_forward) := ⟨rfl, rfl, rfl, by decide +kernel, rfl, by decide +kernel, by decide +kernel⟩
theorem sc_law_places : FnScope n_law_places ["rules", "node", "stack", "deep"] (defScope s_law_places) := ⟨rfl, rfl, rfl, by decide +kernel, rfl, by decide +kernel, by decide +kernel⟩
theorem sc_law : FnScope n_law ["script"] (defScope s_law) := ⟨rfl, rfl, rfl, by decide +kernel, rfl, by decide +kernel, by decide +kernel⟩
/-- what the text tells -/
structure Tx (P : Program) (w : World) (c : Cfg) (mg : Str → Option Value) (base : Heap) : Prop where
  b_all : mg "all" = none
  b_bool : mg "bool" = none
  b_enumerate : mg "enumerate" = none
  b_int : mg "int" = none
  b_isinstance : mg "isinstance" = none
  b_len : mg "len" = none
  b_list : mg "list" = none
  b_min : mg "min" = none
  b_range : mg "range" = none
  b_tuple : mg "tuple" = none
  w_ : w = c.w
  kt_NODES : KTup c.K mg "NODES" [0, 1, 2, 3, 4, 5, 6, 7]
  c_MOST_LABEL : ∃ t, mg "MOST_LABEL" = some (Value.int 5 t)
  c_MOST_PUT : ∃ t, mg "MOST_PUT" = some (Value.int 2 t)
  c_MOST_RULES : ∃ t, mg "MOST_RULES" = some (Value.int 24 t)
  c_MOST_STACK : ∃ t, mg "MOST_STACK" = some (Value.int 12 t)
  h_heapify : mg "heapify" = some (.builtin "_heapq.heapify")
  h_heappop : mg "heappop" = some (.builtin "_heapq.heappop")
  h_heappush : mg "heappush" = some (.builtin "_heapq.heappush")
section
variable {P : Program} {w : World} {c : Cfg} {mg : Str → Option Value} {base : Heap}
theorem ok_is_number {f : Addr} {fd : FuncData} (T : Tx P w c mg base) (F : Fun c.K "is_number" "is_number" s_is_number f fd)  : FnOk P w c.K mg base L2.CX0 1 f fd ["value", "low", "high"] (spF c f_is_number) := by
  exact fn_den (k := 0) (N := n_is_number) (ps := ["value", "low", "high"]) (body := b_is_number) F sc_is_number fun cdv A outer s H E hr => QSs.out (by exact (ss_one (s_ret (q_and (q_blt b_isi T.b_isinstance (a_cons (qv 0) (a_cons (qty T.b_int) a_nil))) (q_and (q_not (q_blt b_isi T.b_isinstance (a_cons (qv 0) (a_cons (qty T.b_bool) a_nil)))) (q_one (q_chain (r_le) (r_le) (qv 1) (qv 0) (qv 2))))))))
theorem ok_is_tuple {f : Addr} {fd : FuncData} (T : Tx P w c mg base) (F : Fun c.K "is_tuple" "is_tuple" s_is_tuple f fd)  : FnOk P w c.K mg base L2.CX0 1 f fd ["value", "least", "most"] (spF c f_is_tuple) := by
  exact fn_den (k := 0) (N := n_is_tuple) (ps := ["value", "least", "most"]) (body := b_is_tuple) F sc_is_tuple fun cdv A outer s H E hr => QSs.out (by exact (ss_one (s_ret (q_and (q_blt b_isi T.b_isinstance (a_cons (qv 0) (a_cons (qty T.b_tuple) a_nil))) (q_one (q_chain (r_le) (r_le) (qv 1) (q_blt b_len T.b_len (a_cons (qv 0) a_nil)) (qv 2)))))))
theorem ok_are_numbers {f : Addr} {fd : FuncData} (T : Tx P w c mg base) (F : Fun c.K "are_numbers" "are_numbers" s_are_numbers f fd) (C_is_number : Cal P w c.K mg base 1 "is_number" (spF c f_is_number) []) : FnOk P w c.K mg base L2.CX0 2 f fd ["value", "low", "high"] (spF c f_are_numbers) := by
  exact fn_den (k := 1) (N := n_are_numbers) (ps := ["value", "low", "high"]) (body := b_are_numbers) F sc_are_numbers fun cdv A outer s H E hr => QSs.out (by exact (ss_one (s_ret (q_and (q_blt b_isi T.b_isinstance (a_cons (qv 0) (a_cons (qty T.b_tuple) a_nil))) (q_one (q_blt b_all T.b_all (a_cons (q_lc (own := [("item", 3)]) sc_are_numbers.nd (i_seq (qv 0)) (blkOk_by (own := [("item", 3)]) (N := n_are_numbers) (sc := defScope s_are_numbers) (by decide +kernel)) (fun _ _ _ _ _ => (by exact (g_name 3 sc_are_numbers.nd))) (fun _ _ _ _ _ => (by exact ts_nil)) (fun _ _ _ _ _ => (by exact (q_call C_is_number hr (by omega) (a_cons (qv 3) (a_cons (qv 1) (a_cons (qv 2) a_nil))))))) a_nil)))))))
theorem ok_is_node {f : Addr} {fd : FuncData} (T : Tx P w c mg base) (F : Fun c.K "_is_node" "_is_node" s_is_node f fd) (C_is_number : Cal P w c.K mg base 1 "is_number" (spF c f_is_number) []) : FnOk P w c.K mg base L2.CX0 2 f fd ["value"] (spF c f_is_node) := by
  exact fn_den (k := 1) (N := n_is_node) (ps := ["value"]) (body := b_is_node) F sc_is_node fun cdv A outer s H E hr => QSs.out (by exact (ss_one (s_ret (q_call C_is_number hr (by omega) (a_cons (qv 0) (a_cons (qint) (a_cons (q_sub (q_blt b_len T.b_len (a_cons (qkT T.kt_NODES) a_nil)) (qint)) a_nil)))))))
theorem ok_is_stack {f : Addr} {fd : FuncData} (T : Tx P w c mg base) (F : Fun c.K "_is_stack" "_is_stack" s_is_stack f fd) (C_are_numbers : Cal P w c.K mg base 2 "are_numbers" (spF c f_are_numbers) []) : FnOk P w c.K mg base L2.CX0 3 f fd ["value", "most"] (spF c f_is_stack) := by
  exact fn_den (k := 2) (N := n_is_stack) (ps := ["value", "most"]) (body := b_is_stack) F sc_is_stack fun cdv A outer s H E hr => QSs.out (by exact (ss_one (s_ret (q_and (q_call C_are_numbers hr (by omega) (a_cons (qv 0) (a_cons (qint) (a_cons (qk T.c_MOST_LABEL) a_nil)))) (q_one (q_cmp (r_le) (q_blt b_len T.b_len (a_cons (qv 0) a_nil)) (qv 1)))))))
theorem ok_is_rule {f : Addr} {fd : FuncData} (T : Tx P w c mg base) (F : Fun c.K "_is_rule" "_is_rule" s_is_rule f fd) (C_is_number : Cal P w c.K mg base 1 "is_number" (spF c f_is_number) []) (C_is_tuple : Cal P w c.K mg base 1 "is_tuple" (spF c f_is_tuple) []) (C_is_node : Cal P w c.K mg base 2 "_is_node" (spF c f_is_node) []) (C_is_stack : Cal P w c.K mg base 3 "_is_stack" (spF c f_is_stack) []) : FnOk P w c.K mg base L2.CX0 4 f fd ["value"] (spF c f_is_rule) := by
  exact fn_den (k := 3) (N := n_is_rule) (ps := ["value"]) (body := b_is_rule) F sc_is_rule fun cdv A outer s H E hr => QSs.out (by exact (ss_cons (s_if (t_not (t_val (q_call C_is_tuple hr (by omega) (a_cons (qv 0) (a_cons (qint) (a_cons (qint) a_nil)))))) (ss_one (s_ret (qbl))) ss_nil)
      (ss_cons (s_asg (qv 0) (g_tup 4 (gs_cons (g_name 1 sc_is_rule.nd) (gs_cons (g_name 2 sc_is_rule.nd) (gs_cons (g_name 3 sc_is_rule.nd) (gs_cons (g_name 4 sc_is_rule.nd) gs_nil))))))
      (ss_one (s_ret (q_and (q_call C_is_node hr (by omega) (a_cons (qv 1) a_nil)) (q_and (q_call C_is_number hr (by omega) (a_cons (qv 2) (a_cons (qint) (a_cons (qk T.c_MOST_LABEL) a_nil)))) (q_and (q_call C_is_node hr (by omega) (a_cons (qv 3) a_nil)) (q_one (q_call C_is_stack hr (by omega) (a_cons (qv 4) (a_cons (qk T.c_MOST_PUT) a_nil))))))))))))
theorem ok_check_rules {f : Addr} {fd : FuncData} (T : Tx P w c mg base) (F : Fun c.K "_check_rules" "_check_rules" s_check_rules f fd) (C_is_tuple : Cal P w c.K mg base 1 "is_tuple" (spF c f_is_tuple) []) (C_is_rule : Cal P w c.K mg base 4 "_is_rule" (spF c f_is_rule) []) : FnOk P w c.K mg base L2.CX0 5 f fd ["rules"] (spF c f_check_rules) := by
  exact fn_den (k := 4) (N := n_check_rules) (ps := ["rules"]) (body := b_check_rules) F sc_check_rules fun cdv A outer s H E hr => QSs.out (by exact (ss_cons (s_if (t_not (t_val (q_call C_is_tuple hr (by omega) (a_cons (qv 0) (a_cons (qint) (a_cons (qk T.c_MOST_RULES) a_nil)))))) ss_never ss_nil)
      (ss_one (s_for PassesOwn.never (i_enum T.b_enumerate (a_cons (qv 0) a_nil)) (g_tup 2 (gs_cons (g_name 1 sc_check_rules.nd) (gs_cons (g_name 2 sc_check_rules.nd) gs_nil))) (ss_one (s_if (t_not (t_val (q_call C_is_rule hr (by omega) (a_cons (qv 2) a_nil)))) ss_never ss_nil))))))
theorem ok_check_node {f : Addr} {fd : FuncData} (T : Tx P w c mg base) (F : Fun c.K "_check_node" "_check_node" s_check_node f fd) (C_is_node : Cal P w c.K mg base 2 "_is_node" (spF c f_is_node) []) : FnOk P w c.K mg base L2.CX0 3 f fd ["node"] (spF c f_check_node) := by
  exact fn_den (k := 2) (N := n_check_node) (ps := ["node"]) (body := b_check_node) F sc_check_node fun cdv A outer s H E hr => QSs.out (by exact (ss_one (s_if (t_not (t_val (q_call C_is_node hr (by omega) (a_cons (qv 0) a_nil)))) ss_never ss_nil)))
theorem ok_check_packet {f : Addr} {fd : FuncData} (T : Tx P w c mg base) (F : Fun c.K "_check_packet" "_check_packet" s_check_packet f fd) (C_is_stack : Cal P w c.K mg base 3 "_is_stack" (spF c f_is_stack) []) (C_check_rules : Cal P w c.K mg base 5 "_check_rules" (spF c f_check_rules) []) (C_check_node : Cal P w c.K mg base 3 "_check_node" (spF c f_check_node) []) : FnOk P w c.K mg base L2.CX0 6 f fd ["rules", "node", "stack"] (spF c f_check_packet) := by
  exact fn_den (k := 5) (N := n_check_packet) (ps := ["rules", "node", "stack"]) (body := b_check_packet) F sc_check_packet fun cdv A outer s H E hr => QSs.out (by exact (ss_cons (s_expr (q_call C_check_rules hr (by omega) (a_cons (qv 0) a_nil)))
      (ss_cons (s_expr (q_call C_check_node hr (by omega) (a_cons (qv 1) a_nil)))
      (ss_one (s_if (t_not (t_val (q_call C_is_stack hr (by omega) (a_cons (qv 2) (a_cons (qk T.c_MOST_STACK) a_nil))))) ss_never ss_nil)))))
theorem ok_is_shorter {f : Addr} {fd : FuncData} (T : Tx P w c mg base) (F : Fun c.K "_is_shorter" "_is_shorter" s_is_shorter f fd)  : FnOk P w c.K mg base L2.CX0 1 f fd ["length", "known"] (spF c f_is_shorter) := by
  exact fn_den (k := 0) (N := n_is_shorter) (ps := ["length", "known"]) (body := b_is_shorter) F sc_is_shorter fun cdv A outer s H E hr => QSs.out (by exact (ss_one (s_ret (q_or (q_cmp (r_is) (qv 1) (qnon)) (q_one (q_cmp (r_lt) (qv 0) (q_ix (qv 1) (qint))))))))
theorem ok_drained {f : Addr} {fd : FuncData} (T : Tx P w c mg base) (F : Fun c.K "_drained" "_drained" s_drained f fd) (C_is_shorter : Cal P w c.K mg base 1 "_is_shorter" (spF c f_is_shorter) []) : FnOk P w c.K mg base L2.CX0 2 f fd ["ways", "node", "labels"] (spF c f_drained) := by
  exact fn_den (k := 1) (N := n_drained) (ps := ["ways", "node", "labels"]) (body := b_drained) F sc_drained fun cdv A outer s H E hr => QSs.out (by exact (ss_cons (s_set 3 sc_drained.nd (q_dis1 hr T.w_ (qv 1) (q_tup (a_cons (qint) (a_cons (q_tup a_nil) a_nil)))))
      (ss_cons (s_for PassesOwn.never (i_seq (qv 2)) (g_name 4 sc_drained.nd) (ss_cons (s_setO 5 sc_drained.nd (q_dnew T.w_))
      (ss_cons (s_for PassesOwn.never (i_keysD T.w_ (qv 3)) (g_name 6 sc_drained.nd) (ss_cons (s_asg (q_dget hr T.w_ (qv 3) (qv 6)) (g_tup 2 (gs_cons (g_name 7 sc_drained.nd) (gs_cons (g_name 8 sc_drained.nd) gs_nil))))
      (ss_one (s_for PassesOwn.never (i_seq (q_lc (own := [("end", 10)]) sc_drained.nd (i_seq (qkT T.kt_NODES)) (blkOk_by (own := [("end", 10)]) (N := n_drained) (sc := defScope s_drained) (by decide +kernel)) (fun _ _ _ _ _ => (by exact (g_name 10 sc_drained.nd))) (fun _ _ _ _ _ => (by exact (ts_one (t_inN 0 hr T.w_ (q_tup (a_cons (qv 6) (a_cons (qv 4) (a_cons (qv 10) a_nil)))))))) (fun _ _ _ _ _ => (by exact (q_tup (a_cons (qv 6) (a_cons (qv 4) (a_cons (qv 10) a_nil)))))))) (g_name 9 sc_drained.nd) (ss_cons (s_set 11 sc_drained.nd (q_add (qv 7) (q_ix (q_dgetN 0 hr T.w_ (qv 9)) (qint))))
      (ss_one (s_if (t_val (q_call C_is_shorter hr (by omega) (a_cons (qv 11) (a_cons (q_get1N 5 hr T.w_ (q_ix (qv 9) (qint))) a_nil)))) (ss_one (s_asg (q_tup (a_cons (qv 11) (a_cons (q_tup (a_star (qv 8) (a_cons (qv 9) a_nil))) a_nil))) (g_itemD 5 hr T.w_ (q_ix (qv 9) (qint))))) ss_nil)))))))
      (ss_one (s_set 3 sc_drained.nd (qv 5))))))
      (ss_one (s_ret (qv 3))))))
theorem ok_drains {f : Addr} {fd : FuncData} (T : Tx P w c mg base) (F : Fun c.K "_drains" "_drains" s_drains f fd) (C_is_shorter : Cal P w c.K mg base 1 "_is_shorter" (spF c f_is_shorter) []) (C_drained : Cal P w c.K mg base 2 "_drained" (spF c f_drained) []) : FnOk P w c.K mg base L2.CX0 3 f fd ["rules"] (spF c f_drains) := by
  exact fn_den (k := 2) (N := n_drains) (ps := ["rules"]) (body := b_drains) F sc_drains fun cdv A outer s H E hr => QSs.out (by exact (ss_cons (s_setO 1 sc_drains.nd (q_dnew T.w_))
      (ss_cons (s_set 2 sc_drains.nd (qbl))
      (ss_cons (s_while 1208925819614629174706176 PassesOwn.never (t_tru (qv 2)) (ss_cons (s_set 2 sc_drains.nd (qbl))
      (ss_one (s_for PassesOwn.never (i_enum T.b_enumerate (a_cons (qv 0) a_nil)) (g_tup 2 (gs_cons (g_name 3 sc_drains.nd) (gs_cons (g_tup 4 (gs_cons (g_name 4 sc_drains.nd) (gs_cons (g_name 5 sc_drains.nd) (gs_cons (g_name 6 sc_drains.nd) (gs_cons (g_name 7 sc_drains.nd) gs_nil))))) gs_nil))) (ss_cons (s_set 8 sc_drains.nd (q_callO C_drained hr (by omega) (c_own 1 (a_cons (qv 6) (a_cons (qv 7) a_nil)))))
      (ss_one (s_for PassesOwn.never (i_keysD T.w_ (qv 8)) (g_name 9 sc_drains.nd) (ss_cons (s_asg (q_dget hr T.w_ (qv 8) (qv 9)) (g_tup 2 (gs_cons (g_name 10 sc_drains.nd) (gs_cons (g_name 11 sc_drains.nd) gs_nil))))
      (ss_one (s_if (t_val (q_call C_is_shorter hr (by omega) (a_cons (q_add (qv 10) (qint)) (a_cons (q_get1N 1 hr T.w_ (q_tup (a_cons (qv 4) (a_cons (qv 5) (a_cons (qv 9) a_nil))))) a_nil)))) (ss_cons (s_asg (q_tup (a_cons (q_add (qv 10) (qint)) (a_cons (q_tup (a_cons (q_tup (a_cons (qv 3) a_nil)) (a_star (qv 11) a_nil))) a_nil))) (g_itemD 1 hr T.w_ (q_tup (a_cons (qv 4) (a_cons (qv 5) (a_cons (qv 9) a_nil))))))
      (ss_one (s_set 2 sc_drains.nd (qbl)))) ss_nil))))))))))
      (ss_one (s_retO 1))))))
theorem ok_tops {f : Addr} {fd : FuncData} (T : Tx P w c mg base) (F : Fun c.K "_tops" "_tops" s_tops f fd) (C_drained : Cal P w c.K mg base 2 "_drained" (spF c f_drained) []) : FnOk P w c.K mg base L2.CX0 3 f fd ["ways", "node", "labels"] (spF c f_tops) := by
  exact fn_den (k := 2) (N := n_tops) (ps := ["ways", "node", "labels"]) (body := b_tops) F sc_tops fun cdv A outer s H E hr => QSs.out (by exact (ss_cons (s_setO 3 sc_tops.nd (q_lst a_nil))
      (ss_cons (s_for PassesOwn.never (i_range1 T.b_range (a_cons (q_blt b_len T.b_len (a_cons (qv 2) a_nil)) a_nil)) (g_name 4 sc_tops.nd) (ss_cons (s_set 5 sc_tops.nd (q_call C_drained hr (by omega) (a_cons (qv 0) (a_cons (qv 1) (a_cons (q_sl (qv 2) o_none (o_some (qv 4))) a_nil)))))
      (ss_one (s_augL 3 sc_tops.nd (q_lc (own := [("place", 6)]) sc_tops.nd (i_keysD T.w_ (qv 5)) (blkOk_by (own := [("place", 6)]) (N := n_tops) (sc := defScope s_tops) (by decide +kernel)) (fun _ _ _ _ _ => (by exact (g_name 6 sc_tops.nd))) (fun _ _ _ _ _ => (by exact ts_nil)) (fun _ _ _ _ _ => (by exact (q_tup (a_cons (q_ix (q_dget hr T.w_ (qv 5) (qv 6)) (qint)) (a_cons (q_tup (a_cons (qv 6) (a_cons (q_ix (qv 2) (qv 4)) a_nil))) (a_cons (q_ix (q_dget hr T.w_ (qv 5) (qv 6)) (qint)) a_nil)))))))))))
      (ss_one (s_retO 3)))))
theorem ok_next_tops {f : Addr} {fd : FuncData} (T : Tx P w c mg base) (F : Fun c.K "_next_tops" "_next_tops" s_next_tops f fd) (C_tops : Cal P w c.K mg base 3 "_tops" (spF c f_tops) []) : FnOk P w c.K mg base L2.CX0 4 f fd ["rules", "ways", "top"] (spF c f_next_tops) := by
  exact fn_den (k := 3) (N := n_next_tops) (ps := ["rules", "ways", "top"]) (body := b_next_tops) F sc_next_tops fun cdv A outer s H E hr => QSs.out (by exact (ss_cons (s_setO 3 sc_next_tops.nd (q_lst a_nil))
      (ss_cons (s_for PassesOwn.never (i_enum T.b_enumerate (a_cons (qv 0) a_nil)) (g_tup 2 (gs_cons (g_name 4 sc_next_tops.nd) (gs_cons (g_tup 4 (gs_cons (g_name 5 sc_next_tops.nd) (gs_cons (g_name 6 sc_next_tops.nd) (gs_cons (g_name 7 sc_next_tops.nd) (gs_cons (g_name 8 sc_next_tops.nd) gs_nil))))) gs_nil))) (ss_one (s_if (t_cmp (r_eq hr) (q_tup (a_cons (qv 5) (a_cons (qv 6) a_nil))) (qv 2)) (ss_one (s_augL 3 sc_next_tops.nd (q_lc (own := [("length", 9), ("other", 10), ("parts", 11)]) sc_next_tops.nd (i_seq (q_call C_tops hr (by omega) (a_cons (qv 1) (a_cons (qv 7) (a_cons (qv 8) a_nil))))) (blkOk_by (own := [("length", 9), ("other", 10), ("parts", 11)]) (N := n_next_tops) (sc := defScope s_next_tops) (by decide +kernel)) (fun _ _ _ _ _ => (by exact (g_tup 3 (gs_cons (g_name 9 sc_next_tops.nd) (gs_cons (g_name 10 sc_next_tops.nd) (gs_cons (g_name 11 sc_next_tops.nd) gs_nil)))))) (fun _ _ _ _ _ => (by exact ts_nil)) (fun _ _ _ _ _ => (by exact (q_tup (a_cons (q_add (qv 9) (qint)) (a_cons (qv 10) (a_cons (q_tup (a_cons (q_tup (a_cons (qv 4) a_nil)) (a_star (qv 11) a_nil))) a_nil))))))))) ss_nil)))
      (ss_one (s_retO 3)))))
theorem ok_tops_from {f : Addr} {fd : FuncData} (T : Tx P w c mg base) (F : Fun c.K "_tops_from" "_tops_from" s_tops_from f fd) (C_next_tops : Cal P w c.K mg base 4 "_next_tops" (spF c f_next_tops) []) : FnOk P w c.K mg base L2.CX0 5 f fd ["rules", "ways", "tops"] (spF c f_tops_from) := by
  exact fn_den (k := 4) (N := n_tops_from) (ps := ["rules", "ways", "tops"]) (body := b_tops_from) F sc_tops_from fun cdv A outer s H E hr => QSs.out (by exact (ss_cons (s_setO 3 sc_tops_from.nd (q_dnew T.w_))
      (ss_cons (s_setO 4 sc_tops_from.nd (q_blt b_list T.b_list (a_cons (qv 2) a_nil)))
      (ss_cons (s_expr (q_heapifyG 4 hr T.h_heapify))
      (ss_cons (s_while 100000 PassesOwn.never (t_truO 4) (ss_cons (s_asg (q_heappopG 4 hr T.h_heappop) (g_tup 3 (gs_cons (g_name 5 sc_tops_from.nd) (gs_cons (g_name 6 sc_tops_from.nd) (gs_cons (g_name 7 sc_tops_from.nd) gs_nil)))))
      (ss_one (s_if (t_ninN 3 hr T.w_ (qv 6)) (ss_cons (s_asg (q_tup (a_cons (qv 5) (a_cons (qv 7) a_nil))) (g_itemD 3 hr T.w_ (qv 6)))
      (ss_one (s_for PassesOwn.never (i_seq (q_call C_next_tops hr (by omega) (a_cons (qv 0) (a_cons (qv 1) (a_cons (qv 6) a_nil))))) (g_tup 3 (gs_cons (g_name 8 sc_tops_from.nd) (gs_cons (g_name 9 sc_tops_from.nd) (gs_cons (g_name 10 sc_tops_from.nd) gs_nil)))) (ss_one (s_expr (q_heappushG 4 hr T.h_heappush (q_tup (a_cons (q_add (qv 5) (qv 8)) (a_cons (qv 9) (a_cons (q_tup (a_star (qv 7) (a_star (qv 10) a_nil))) a_nil)))))))))) ss_nil))))
      (ss_one (s_retO 3)))))))
theorem ok_run_of {f : Addr} {fd : FuncData} (T : Tx P w c mg base) (F : Fun c.K "_run_of" "_run_of" s_run_of f fd)  : FnOk P w c.K mg base L2.CX0 1 f fd ["ways", "trail"] (spF c f_run_of) := by
  exact fn_den (k := 0) (N := n_run_of) (ps := ["ways", "trail"]) (body := b_run_of) F sc_run_of fun cdv A outer s H E hr => QSs.out (by exact (ss_cons (s_setO 2 sc_run_of.nd (q_lst a_nil))
      (ss_cons (s_setO 3 sc_run_of.nd (q_blt b_list T.b_list (a_cons (q_revT (qv 1)) a_nil)))
      (ss_cons (s_while 1073741824 PassesOwn.never (t_truO 3) (ss_cons (s_set 4 sc_run_of.nd (q_pop 3))
      (ss_one (s_if (t_cmp (r_eq hr) (q_blt b_len T.b_len (a_cons (qv 4) a_nil)) (qint)) (ss_one (s_expr (q_append 2 (q_ix (qv 4) (qint))))) (ss_one (s_expr (q_extT 3 (q_revT (q_ix (q_dget hr T.w_ (qv 0) (qv 4)) (qint))))))))))
      (ss_one (s_ret (q_blt b_tuple T.b_tuple (a_cons (qv 2) a_nil))))))))
theorem ok_visit_run {f : Addr} {fd : FuncData} (T : Tx P w c mg base) (F : Fun c.K "visit_run" "visit_run" s_visit_run f fd) (C_check_node : Cal P w c.K mg base 3 "_check_node" (spF c f_check_node) []) (C_check_packet : Cal P w c.K mg base 6 "_check_packet" (spF c f_check_packet) []) (C_drained : Cal P w c.K mg base 2 "_drained" (spF c f_drained) []) (C_drains : Cal P w c.K mg base 3 "_drains" (spF c f_drains) []) (C_tops : Cal P w c.K mg base 3 "_tops" (spF c f_tops) []) (C_tops_from : Cal P w c.K mg base 5 "_tops_from" (spF c f_tops_from) []) (C_run_of : Cal P w c.K mg base 1 "_run_of" (spF c f_run_of) []) : FnOk P w c.K mg base L2.CX0 7 f fd ["rules", "node", "stack", "goal"] (spF c f_visit_run) := by
  exact fn_den (k := 6) (N := n_visit_run) (ps := ["rules", "node", "stack", "goal"]) (body := b_visit_run) F sc_visit_run fun cdv A outer s H E hr => QSs.out (by exact (ss_cons (s_expr (q_call C_check_packet hr (by omega) (a_cons (qv 0) (a_cons (qv 1) (a_cons (qv 2) a_nil)))))
      (ss_cons (s_expr (q_call C_check_node hr (by omega) (a_cons (qv 3) a_nil)))
      (ss_cons (s_set 4 sc_visit_run.nd (q_call C_drains hr (by omega) (a_cons (qv 0) a_nil)))
      (ss_cons (s_set 5 sc_visit_run.nd (q_call C_drained hr (by omega) (a_cons (qv 4) (a_cons (qv 1) (a_cons (qv 2) a_nil)))))
      (ss_cons (s_set 6 sc_visit_run.nd (q_call C_tops_from hr (by omega) (a_cons (qv 0) (a_cons (qv 4) (a_cons (q_call C_tops hr (by omega) (a_cons (qv 4) (a_cons (qv 1) (a_cons (qv 2) a_nil)))) a_nil)))))
      (ss_cons (s_set 7 sc_visit_run.nd (q_add (q_lc (own := [("top", 8)]) sc_visit_run.nd (i_keysD T.w_ (qv 6)) (blkOk_by (own := [("top", 8)]) (N := n_visit_run) (sc := defScope s_visit_run) (by decide +kernel)) (fun _ _ _ _ _ => (by exact (g_name 8 sc_visit_run.nd))) (fun _ _ _ _ _ => (by exact (ts_one (t_cmp (r_eq hr) (q_ix (qv 8) (qint)) (qv 3))))) (fun _ _ _ _ _ => (by exact (q_dget hr T.w_ (qv 6) (qv 8))))) (q_lc (own := [("place", 9)]) sc_visit_run.nd (i_keysD T.w_ (qv 5)) (blkOk_by (own := [("place", 9)]) (N := n_visit_run) (sc := defScope s_visit_run) (by decide +kernel)) (fun _ _ _ _ _ => (by exact (g_name 9 sc_visit_run.nd))) (fun _ _ _ _ _ => (by exact (ts_one (t_cmp (r_eq hr) (qv 9) (qv 3))))) (fun _ _ _ _ _ => (by exact (q_dget hr T.w_ (qv 5) (qv 9)))))))
      (ss_one (s_ret (q_if (t_tru (qv 7)) (q_call C_run_of hr (by omega) (a_cons (qv 4) (a_cons (q_ix (q_blt (b_minD hr) T.b_min (a_cons (qv 7) a_nil)) (qint)) a_nil))) (qnon)))))))))))
theorem ok_law_taken {f : Addr} {fd : FuncData} (T : Tx P w c mg base) (F : Fun c.K "_law_taken" "_law_taken" s_law_taken f fd)  : FnOk P w c.K mg base L2.CX0 1 f fd ["row", "many"] (spF c f_law_taken) := by
  exact fn_den (k := 0) (N := n_law_taken) (ps := ["row", "many"]) (body := b_law_taken) F sc_law_taken fun cdv A outer s H E hr => QSs.out (by exact (ss_cons (s_if (t_cmp (r_gt) (q_ixO 0 (qint)) (qint)) (ss_cons (s_set 2 sc_law_taken.nd (q_mod (q_blt b_int T.b_int (a_cons (q_ixO 0 (qint)) a_nil)) (qv 1)))
      (ss_cons (s_asg (q_fdiv (q_ixO 0 (qint)) (qv 1)) (g_item 0 (qint)))
      (ss_one (s_ret (qv 2))))) ss_nil)
      (ss_cons (s_asg (q_add (q_ixO 0 (qint)) (qint)) (g_item 0 (qint)))
      (ss_cons (s_if (t_cmp (r_gt) (q_ixO 0 (qint)) (q_blt b_len T.b_len (a_cons (q_ixO 0 (qint)) a_nil))) (ss_cons (s_asg (q_mod (q_blt b_int T.b_int (a_cons (q_add (q_mul (q_ixO 0 (qint)) (qint)) (qint)) a_nil)) (qint)) (g_item 0 (qint)))
      (ss_one (s_ret (q_mod (q_blt b_int T.b_int (a_cons (q_fdiv (q_ixO 0 (qint)) (qint)) a_nil)) (qv 1))))) ss_nil)
      (ss_cons (s_set 3 sc_law_taken.nd (q_ix (q_ixO 0 (qint)) (q_sub (q_ixO 0 (qint)) (qint))))
      (ss_cons (s_asg (q_mod (q_blt b_int T.b_int (a_cons (q_add (q_add (q_mul (q_ixO 0 (qint)) (qint)) (qv 3)) (qint)) a_nil)) (qint)) (g_item 0 (qint)))
      (ss_cons (s_if (t_cmp (r_ge) (qv 3) (q_pow (qint) (qint))) (ss_one (s_asg (q_fdiv (qv 3) (qv 1)) (g_item 0 (qint)))) ss_nil)
      (ss_one (s_ret (q_mod (q_blt b_int T.b_int (a_cons (qv 3) a_nil)) (qv 1)))))))))))
theorem ok_law_pick {f : Addr} {fd : FuncData} (T : Tx P w c mg base) (F : Fun c.K "_law_pick" "_law_pick" s_law_pick f fd) (C_law_taken : Cal P w c.K mg base 1 "_law_taken" (spF c f_law_taken) []) : FnOk P w c.K mg base L2.CX0 2 f fd ["row", "things"] (spF c f_law_pick) := by
  exact fn_den (k := 1) (N := n_law_pick) (ps := ["row", "things"]) (body := b_law_pick) F sc_law_pick fun cdv A outer s H E hr => QSs.out (by exact (ss_one (s_ret (q_ix (qv 1) (q_callO C_law_taken hr (by omega) (c_own 0 (a_cons (q_blt b_len T.b_len (a_cons (qv 1) a_nil)) a_nil)))))))
theorem ok_law_stack_rules {f : Addr} {fd : FuncData} (T : Tx P w c mg base) (F : Fun c.K "_law_stack_rules" "_law_stack_rules" s_law_stack_rules f fd) (C_law_taken : Cal P w c.K mg base 1 "_law_taken" (spF c f_law_taken) []) (C_law_pick : Cal P w c.K mg base 2 "_law_pick" (spF c f_law_pick) []) : FnOk P w c.K mg base L2.CX0 3 f fd ["row", "nodes", "labels"] (spF c f_law_stack_rules) := by
  exact fn_den (k := 2) (N := n_law_stack_rules) (ps := ["row", "nodes", "labels"]) (body := b_law_stack_rules) F sc_law_stack_rules fun cdv A outer s H E hr => QSs.out (by exact (ss_cons (s_setO 3 sc_law_stack_rules.nd (q_lst a_nil))
      (ss_cons (s_for PassesOwn.never (i_range1 T.b_range (a_cons (q_add (qint) (q_callO C_law_taken hr (by omega) (c_own 0 (a_cons (qint) a_nil)))) a_nil)) (g_name 4 sc_law_stack_rules.nd) (ss_cons (s_set 5 sc_law_stack_rules.nd (q_callO C_law_pick hr (by omega) (c_own 0 (a_cons (q_lst (a_cons (qint) (a_cons (qint) (a_cons (qint) (a_cons (qint) a_nil))))) a_nil))))
      (ss_cons (s_set 6 sc_law_stack_rules.nd (q_blt b_tuple T.b_tuple (a_cons (q_lc (own := [("at", 7)]) sc_law_stack_rules.nd (i_range1 T.b_range (a_cons (qv 5) a_nil)) (blkOk_by (own := [("at", 7)]) (N := n_law_stack_rules) (sc := defScope s_law_stack_rules) (by decide +kernel)) (fun _ _ _ _ _ => (by exact (g_name 7 sc_law_stack_rules.nd))) (fun _ _ _ _ _ => (by exact ts_nil)) (fun _ _ _ _ _ => (by exact (q_callO C_law_taken hr (by omega) (c_own 0 (a_cons (qv 2) a_nil)))))) a_nil)))
      (ss_one (s_expr (q_append 3 (q_tup (a_cons (q_callO C_law_taken hr (by omega) (c_own 0 (a_cons (qv 1) a_nil))) (a_cons (q_callO C_law_taken hr (by omega) (c_own 0 (a_cons (qv 2) a_nil))) (a_cons (q_callO C_law_taken hr (by omega) (c_own 0 (a_cons (qv 1) a_nil))) (a_cons (qv 6) a_nil)))))))))))
      (ss_one (s_ret (q_blt b_tuple T.b_tuple (a_cons (qv 3) a_nil)))))))
theorem ok_law_forward {f : Addr} {fd : FuncData} (T : Tx P w c mg base) (F : Fun c.K "_law_forward" "_law_forward" s_law_forward f fd)  : FnOk P w c.K mg base L2.CX0 1 f fd ["rules", "node", "stack", "numbers"] (spF c f_law_forward) := by
  exact fn_den (k := 0) (N := n_law_forward) (ps := ["rules", "node", "stack", "numbers"]) (body := b_law_forward) F sc_law_forward fun cdv A outer s H E hr => QSs.out (by exact (ss_cons (s_for PassesOwn.never (i_seq (qv 3)) (g_name 4 sc_law_forward.nd) (ss_cons (s_asg (q_ix (qv 0) (qv 4)) (g_tup 4 (gs_cons (g_name 5 sc_law_forward.nd) (gs_cons (g_name 6 sc_law_forward.nd) (gs_cons (g_name 7 sc_law_forward.nd) (gs_cons (g_name 8 sc_law_forward.nd) gs_nil))))))
      (ss_cons (s_if (QW.t (w_or (t_cmp (r_ne hr) (qv 5) (qv 1)) (w_or (t_cmp (r_eq hr) (qv 2) (q_tup a_nil)) (w_or1 (t_cmp (r_ne hr) (q_ix (qv 2) (qint)) (qv 6)))))) (ss_one (s_ret (qnon))) ss_nil)
      (ss_one (s_par2 1 false 2 false sc_law_forward.nd (ps_cons (qv 7) (ps_cons (q_add (qv 8) (q_sl (qv 2) (o_some (qint)) o_none)) ps_nil)))))))
      (ss_one (s_ret (q_tup (a_cons (qv 1) (a_cons (qv 2) a_nil)))))))
theorem ok_law_places {f : Addr} {fd : FuncData} (T : Tx P w c mg base) (F : Fun c.K "_law_places" "_law_places" s_law_places f fd)  : FnOk P w c.K mg base L2.CX0 1 f fd ["rules", "node", "stack", "deep"] (spF c f_law_places) := by
  exact fn_den (k := 0) (N := n_law_places) (ps := ["rules", "node", "stack", "deep"]) (body := b_law_places) F sc_law_places fun cdv A outer s H E hr => QSs.out (by exact (ss_cons (s_par3 4 true 5 false 6 false sc_law_places.nd (ps_cons (q_lst (a_cons (q_tup (a_cons (qv 1) (a_cons (qv 2) a_nil))) a_nil)) (ps_cons (qbl) (ps_cons (qint) ps_nil))))
      (ss_cons (s_while 1000 PassesOwn.never (t_cmp (r_lt) (qv 6) (q_lenO 4 T.b_len)) (ss_cons (s_asg (q_tup (a_cons (q_ixO 4 (qv 6)) (a_cons (q_add (qv 6) (qint)) a_nil))) (g_tup 2 (gs_cons (g_tup 2 (gs_cons (g_name 7 sc_law_places.nd) (gs_cons (g_name 8 sc_law_places.nd) gs_nil))) (gs_cons (g_name 6 sc_law_places.nd) gs_nil))))
      (ss_one (s_for PassesOwn.never (i_seq (qv 0)) (g_tup 4 (gs_cons (g_name 9 sc_law_places.nd) (gs_cons (g_name 10 sc_law_places.nd) (gs_cons (g_name 11 sc_law_places.nd) (gs_cons (g_name 12 sc_law_places.nd) gs_nil))))) (ss_one (s_if (QW.t (w_and (t_cmp (r_eq hr) (qv 9) (qv 7)) (w_and (t_cmp (r_ne hr) (qv 8) (q_tup a_nil)) (w_and1 (t_cmp (r_eq hr) (q_ix (qv 8) (qint)) (qv 10)))))) (ss_cons (s_set 13 sc_law_places.nd (q_tup (a_cons (qv 11) (a_cons (q_add (qv 12) (q_sl (qv 8) (o_some (qint)) o_none)) a_nil))))
      (ss_one (s_if (QW.t (w_or (t_cmp (r_gt) (q_blt b_len T.b_len (a_cons (q_ix (qv 13) (qint)) a_nil)) (qv 3)) (w_or1 (t_cmp (r_gt) (q_lenO 4 T.b_len) (qint))))) (ss_one (s_set 5 sc_law_places.nd (qbl))) (ss_one (s_if (t_cmpR (f_nin hr) (qv 13) 4) (ss_one (s_expr (q_append 4 (qv 13)))) ss_nil))))) ss_nil))))))
      (ss_one (s_ret (q_tup (a_cons (qv 4) (a_cons (qv 5) a_nil))))))))
theorem ok_law {f : Addr} {fd : FuncData} (T : Tx P w c mg base) (F : Fun c.K "law" "law" s_law f fd) (C_visit_run : Cal P w c.K mg base 7 "visit_run" (spF c f_visit_run) []) (C_law_taken : Cal P w c.K mg base 1 "_law_taken" (spF c f_law_taken) []) (C_law_stack_rules : Cal P w c.K mg base 3 "_law_stack_rules" (spF c f_law_stack_rules) []) (C_law_forward : Cal P w c.K mg base 1 "_law_forward" (spF c f_law_forward) []) (C_law_places : Cal P w c.K mg base 1 "_law_places" (spF c f_law_places) []) : FnOk P w c.K mg base L2.CX0 8 f fd ["script"] (spF c f_law) := by
  exact fn_den (k := 7) (N := n_law) (ps := ["script"]) (body := b_law) F sc_law fun cdv A outer s H E hr => QSs.out (by exact (ss_cons (s_setO 1 sc_law.nd (q_lst (a_cons (qv 0) (a_cons (qint) (a_cons (qint) (a_cons (qint) a_nil))))))
      (ss_cons (s_parT2 2 false 3 false sc_law.nd (ps_cons (q_add (qint) (q_callO C_law_taken hr (by omega) (c_own 1 (a_cons (qint) a_nil)))) (ps_cons (q_add (qint) (q_callO C_law_taken hr (by omega) (c_own 1 (a_cons (qint) a_nil)))) ps_nil)))
      (ss_cons (s_set 4 sc_law.nd (q_callO C_law_stack_rules hr (by omega) (c_own 1 (a_cons (qv 2) (a_cons (qv 3) a_nil)))))
      (ss_cons (s_for PassesOwn.never (i_range1 T.b_range (a_cons (qint) a_nil)) (g_name 5 sc_law.nd) (ss_cons (s_par2 6 false 7 false sc_law.nd (ps_cons (q_callO C_law_taken hr (by omega) (c_own 1 (a_cons (qv 2) a_nil))) (ps_cons (q_blt b_tuple T.b_tuple (a_cons (q_lc (own := [("at", 8)]) sc_law.nd (i_range1 T.b_range (a_cons (q_callO C_law_taken hr (by omega) (c_own 1 (a_cons (qint) a_nil))) a_nil)) (blkOk_by (own := [("at", 8)]) (N := n_law) (sc := defScope s_law) (by decide +kernel)) (fun _ _ _ _ _ => (by exact (g_name 8 sc_law.nd))) (fun _ _ _ _ _ => (by exact ts_nil)) (fun _ _ _ _ _ => (by exact (q_callO C_law_taken hr (by omega) (c_own 1 (a_cons (qv 3) a_nil)))))) a_nil)) ps_nil)))
      (ss_cons (s_asg (q_call C_law_places hr (by omega) (a_cons (qv 4) (a_cons (qv 6) (a_cons (qv 7) (a_cons (qint) a_nil))))) (g_tup 2 (gs_cons (g_name 9 sc_law.nd) (gs_cons (g_name 10 sc_law.nd) gs_nil))))
      (ss_one (s_for PassesOwn.never (i_range1 T.b_range (a_cons (qv 2) a_nil)) (g_name 11 sc_law.nd) (ss_cons (s_par2 12 false 13 false sc_law.nd (ps_cons (q_call C_visit_run hr (by omega) (a_cons (qv 4) (a_cons (qv 6) (a_cons (qv 7) (a_cons (qv 11) a_nil))))) (ps_cons (q_cmp (r_ne hr) (q_lc (own := [("place", 14), ("left", 15)]) sc_law.nd (i_seq (qv 9)) (blkOk_by (own := [("place", 14), ("left", 15)]) (N := n_law) (sc := defScope s_law) (by decide +kernel)) (fun _ _ _ _ _ => (by exact (g_tup 2 (gs_cons (g_name 14 sc_law.nd) (gs_cons (g_name 15 sc_law.nd) gs_nil))))) (fun _ _ _ _ _ => (by exact (ts_one (t_cmp (r_eq hr) (qv 14) (qv 11))))) (fun _ _ _ _ _ => (by exact (qv 14)))) (q_lst a_nil)) ps_nil)))
      (ss_cons (s_if (QW.t (w_or (QW.t (w_and (t_cmp (r_is) (qv 12) (qnon)) (w_and1 (t_tru (qv 13))))) (w_or1 (QW.t (w_and (t_cmp (r_nis) (qv 12) (qnon)) (w_and (t_tru (qv 10)) (w_and1 (t_not (t_tru (qv 13)))))))))) (ss_one (s_ret (qbl))) ss_nil)
      (ss_one (s_if (t_cmp (r_nis) (qv 12) (qnon)) (ss_cons (s_set 16 sc_law.nd (q_call C_law_forward hr (by omega) (a_cons (qv 4) (a_cons (qv 6) (a_cons (qv 7) (a_cons (qv 12) a_nil))))))
      (ss_one (s_if (QW.t (w_or (t_cmp (r_is) (qv 16) (qnon)) (w_or1 (t_cmp (r_ne hr) (q_ix (qv 16) (qint)) (qv 11))))) (ss_one (s_ret (qbl))) ss_nil))) ss_nil)))))))))
      (ss_one (s_ret (qbl))))))))
end
end Fx.K88
/-! sorted(set(x)) of a list of ints -/
namespace Fx
open PySem PySem.Spec PyProof.Rows L2
end Fx
/-! sorted(set(x)) of a list of ints: the rule, on data -/
namespace Fx
open PySem PySem.Spec PyProof.Rows L2
section
variable {X : Cx}
def rSetL (K : PySem.W.Frag) (w : World) : List V → Hp → VK → Prop := fun xs H Q => ∃ (p : Addr) (ns : List Int), xs = [.ref p] ∧ SqL K H p (ns.map V.int) ∧ ns.length ≤ 1000 ∧
  ∀ a c, H a = none → c ≤ ns.length → Rw.Card ns c → Q (.ref a) (upd H a (SetO w a (fun j => decide (j ∈ ns)) c))
end
end Fx
/-! sorted of a list of data that can be compared: tuples, none empty -/
namespace Fx
open PySem PySem.Spec PyProof.Rows L2
open PySem.W (AllAlike Sortable dataLe sorted_data EachIs)
/-! ### on data -/
end Fx
/-! sorted of a tuple of data that can be compared -/
namespace PySem.W
open PySem PySem.Calls PyProof.Rows
end PySem.W
namespace Fx
open PySem PySem.Spec PyProof.Rows L2
open PySem.W (AllAlike Sortable dataLe sorted_data EachIs dataLt keyToks alike)
end Fx
/-! sorted(v), v the view that d.items() gives -/
namespace PySem.W
open PySem PySem.Calls PyProof.Rows
end PySem.W
/-! many new objects laid and tracked at once -/
namespace Fx
open PySem PySem.Spec PyProof.Rows L2
end Fx
/-! sorted(d.items()): the view is tracked as what it is, its pairs are laid together -/
namespace Fx
open PySem PySem.Spec PyProof.Rows L2
open PySem.W (AllAlike Sortable dataLe EachIs)
/-! ### the expression -/
end Fx
/-! sorted(d.items()) on data -/
namespace Fx
open PySem PySem.Spec PyProof.Rows L2
open PySem.W (AllAlike Sortable dataLe EachIs)
end Fx
/-! x[::e] of a list or a tuple, e being 1 or -1 -/
namespace Fx
open PySem PySem.Spec PyProof.Rows L2
end Fx
/-! running denotations: what a run that goes well gives -/
namespace Fx
open PySem
namespace R
/-- the run goes well and gives what P tells -/
def OKr {α : Type} (m : Out α) (P : α → En → Prop) : Prop := Post P (fun _ _ => False) m
/-- a call goes well -/
def OKFr (o : Out S) (K : S → Prop) : Prop := OKr o fun s _ => K s
section
variable {α β : Type} {P Q : α → En → Prop}
theorem ok_ok {a : α} {ρ : En} : OKr (.ok a ρ) P ↔ P a ρ := Iff.rfl
theorem ok_stuck : OKr (.stuck : Out α) P ↔ False := Iff.rfl
theorem ok_then {m : Out α} {f : α → En → Out β} {P : β → En → Prop} : OKr (m.then f) P ↔ OKr m fun a ρ => OKr (f a ρ) P := post_then
theorem ok_ite {c : Prop} [Decidable c] {a b : Out α} : OKr (if c then a else b) P ↔ (c → OKr a P) ∧ (¬c → OKr b P) := by
  split
  · rename_i h
    exact ⟨fun k => ⟨fun _ => k, fun n => absurd h n⟩, fun k => k.1 h⟩
  · rename_i h
    exact ⟨fun k => ⟨fun n => absurd n h, fun _ => k⟩, fun k => k.2 h⟩
theorem OKr.imp {m : Out α} (h : OKr m P) (k : ∀ a ρ, P a ρ → Q a ρ) : OKr m Q := Post.imp h k fun _ _ h => h
theorem OKr.at {m : Out α} (h : OKr m P) : ∃ a ρ, m = .ok a ρ ∧ P a ρ := by
  cases m with
  | ok a ρ => exact ⟨a, ρ, rfl, h⟩
  | err e ρ => exact h.elim
  | stuck => exact h.elim
theorem ok_calm {m : Out α} : OKr m.calm P ↔ OKr m P := by
  cases m <;> exact Iff.rfl
theorem OKFr.imp {o : Out S} {K K' : S → Prop} (h : OKFr o K) (k : ∀ s, K s → K' s) : OKFr o K' := OKr.imp h fun s _ => k s
end
section
variable {ρ : En} {P : S → En → Prop} {PB : Bool → En → Prop} {PA : List D → En → Prop} {PF : Fl → En → Prop} {PU : Unit → En → Prop} {fa fb fe : M S} {fA : M (List D)} {ft fu : M Bool} {F G : M Fl}
/-- a value that stays -/
theorem ok_dv {f : M S} {K : D → En → Prop} : OKr (dv f ρ) K ↔ OKr (f ρ) fun s ρ' => ∃ x, toD s = some x ∧ K x ρ' := by
  unfold dv
  rw [ok_then]
  refine ⟨fun h => h.imp fun s ρ' k => ?_, fun h => h.imp fun s ρ' k => ?_⟩
  · cases e : toD s with
    | none => rw [e] at k; exact k.elim
    | some x => rw [e] at k; exact ⟨x, rfl, k⟩
  · obtain ⟨x, e, k⟩ := k
    rw [e]
    exact k
theorem ex_toD {x : D} {K : D → Prop} : (∃ y, toD (.d x) = some y ∧ K y) ↔ K x := ⟨fun ⟨y, e, k⟩ => by cases e; exact k, fun k => ⟨x, rfl, k⟩⟩
theorem ex_toL {ds : List D} {K : D → Prop} : (∃ y, toD (.o none (.lst ds)) = some y ∧ K y) ↔ K (.lst ds) := ⟨fun ⟨y, e, k⟩ => by cases e; exact k, fun k => ⟨_, rfl, k⟩⟩
theorem ok_c {x : D} : OKr (mC x ρ) P ↔ P (.d x) ρ := Iff.rfl
theorem ok_var {i : Nat} : OKr (mVar i ρ) P ↔ OKr (mVar i ρ) P := Iff.rfl
theorem ok_varD {i : Nat} {x : D} (e : ρ[i]? = some (some (.d x))) : OKr (mVar i ρ) P ↔ P (.d x) ρ := by
  unfold mVar
  rw [e]
  exact Iff.rfl
theorem ok_op {g : D → D → Option S} : OKr (mOp g fa fb ρ) P ↔ OKr (dv fa ρ) fun x ρ1 => OKr (dv fb ρ1) fun y ρ2 => ∃ s, g x y = some s ∧ P s ρ2 := by
  unfold mOp
  rw [ok_then]
  simp only [ok_then]
  constructor
  · exact fun h => h.imp fun x ρ1 h => h.imp fun y ρ2 h => (by
      cases e : g x y with
      | none => rw [e] at h; exact h.elim
      | some s => rw [e] at h; exact ⟨s, rfl, h⟩)
  · exact fun h => h.imp fun x ρ1 h => h.imp fun y ρ2 h => (by
      obtain ⟨s, e, k⟩ := h
      rw [e]
      exact k)
theorem ok_un {g : D → Option S} : OKr (mUn g fa ρ) P ↔ OKr (dv fa ρ) fun x ρ1 => ∃ s, g x = some s ∧ P s ρ1 := by
  unfold mUn
  rw [ok_then]
  constructor
  · exact fun h => h.imp fun x ρ1 h => (by
      cases e : g x with
      | none => rw [e] at h; exact h.elim
      | some s => rw [e] at h; exact ⟨s, rfl, h⟩)
  · exact fun h => h.imp fun x ρ1 h => (by
      obtain ⟨s, e, k⟩ := h
      rw [e]
      exact k)
theorem ok_nil : OKr (aNil ρ) PA ↔ PA [] ρ := Iff.rfl
theorem ok_cons {fr : M (List D)} : OKr (aCons fa fr ρ) PA ↔ OKr (dv fa ρ) fun x ρ1 => OKr (fr ρ1) fun ds ρ2 => PA (x :: ds) ρ2 := by
  unfold aCons
  simp only [ok_then, ok_ok]
theorem ok_cb {g : List D → Option S} : OKr (mCB g fA ρ) P ↔ OKr (fA ρ) fun ds ρ1 => ∃ s, g ds = some s ∧ P s ρ1 := by
  unfold mCB
  rw [ok_then]
  constructor
  · exact fun h => h.imp fun x ρ1 h => (by
      cases e : g x with
      | none => rw [e] at h; exact h.elim
      | some s => rw [e] at h; exact ⟨s, rfl, h⟩)
  · exact fun h => h.imp fun x ρ1 h => (by
      obtain ⟨s, e, k⟩ := h
      rw [e]
      exact k)
theorem ok_test : OKr (mTest fa ρ) PB ↔ OKr (dv fa ρ) fun x ρ1 => ∃ b, x = .bl b ∧ PB b ρ1 := by
  unfold mTest
  rw [ok_then]
  refine ⟨fun h => h.imp fun x ρ1 h => ?_, fun h => h.imp fun x ρ1 h => ?_⟩
  · cases x <;> first | exact h.elim | exact ⟨_, rfl, h⟩
  · obtain ⟨b, rfl, h⟩ := h
    exact h
theorem ex_bl {b : Bool} {K : Bool → Prop} : (∃ c, D.bl b = D.bl c ∧ K c) ↔ K b := ⟨fun ⟨c, e, k⟩ => by cases e; exact k, fun k => ⟨b, rfl, k⟩⟩
theorem ok_not : OKr (mNot ft ρ) PB ↔ OKr (ft ρ) fun b ρ1 => PB (!b) ρ1 := by
  unfold mNot
  simp only [ok_then, ok_ok]
theorem ok_and : OKr (mAnd ft fu ρ) PB ↔ OKr (ft ρ) fun b ρ1 => (b = true → OKr (fu ρ1) PB) ∧ (¬b = true → PB false ρ1) := by
  unfold mAnd
  simp only [ok_then, ok_ok, ok_ite]
theorem ok_or : OKr (mOr ft fu ρ) PB ↔ OKr (ft ρ) fun b ρ1 => (b = true → PB true ρ1) ∧ (¬b = true → OKr (fu ρ1) PB) := by
  unfold mOr
  simp only [ok_then, ok_ok, ok_ite]
theorem ok_andV : OKr (mAndV fa fb ρ) P ↔ OKr (mTest fa ρ) fun b ρ1 => (b = true → OKr (fb ρ1) P) ∧ (¬b = true → P (.d (.bl false)) ρ1) := by
  unfold mAndV
  simp only [ok_then, ok_ok, ok_ite]
theorem ok_orV : OKr (mOrV fa fb ρ) P ↔ OKr (mTest fa ρ) fun b ρ1 => (b = true → P (.d (.bl true)) ρ1) ∧ (¬b = true → OKr (fb ρ1) P) := by
  unfold mOrV
  simp only [ok_then, ok_ok, ok_ite]
theorem ok_notV : OKr (mNotV fa ρ) P ↔ OKr (mTest fa ρ) fun b ρ1 => P (.d (.bl (!b))) ρ1 := by
  unfold mNotV
  simp only [ok_then, ok_ok]
theorem ok_if : OKr (mIf ft fa fb ρ) P ↔ OKr (ft ρ) fun b ρ1 => (b = true → OKr (fa ρ1) P) ∧ (¬b = true → OKr (fb ρ1) P) := by
  unfold mIf
  simp only [ok_then, ok_ite]
theorem ok_yes : OKr (mYes ρ) PB ↔ PB true ρ := Iff.rfl
/-! statements -/
theorem ok_seq : OKr (mSeq F G ρ) PF ↔ OKr (F ρ) fun f ρ1 => (f = .nx → OKr (G ρ1) PF) ∧ (f ≠ .nx → PF f ρ1) := by
  unfold mSeq
  rw [ok_then]
  refine ⟨fun h => h.imp fun f ρ1 h => ?_, fun h => h.imp fun f ρ1 h => ?_⟩
  · cases f with
    | nx => exact ⟨fun _ => h, fun n => absurd rfl n⟩
    | rt s => exact ⟨fun e => (by cases e), fun _ => h⟩
    | bk => exact ⟨fun e => (by cases e), fun _ => h⟩
    | ct => exact ⟨fun e => (by cases e), fun _ => h⟩
  · cases f with
    | nx => exact h.1 rfl
    | rt s => exact h.2 (fun e => by cases e)
    | bk => exact h.2 (fun e => by cases e)
    | ct => exact h.2 (fun e => by cases e)
theorem fl_nx {A : Prop} {B : Prop} : ((Fl.nx = Fl.nx → A) ∧ (Fl.nx ≠ Fl.nx → B)) ↔ A := ⟨fun h => h.1 rfl, fun h => ⟨fun _ => h, fun n => absurd rfl n⟩⟩
theorem fl_rt {s : S} {A : Prop} {B : Prop} : ((Fl.rt s = Fl.nx → A) ∧ (Fl.rt s ≠ Fl.nx → B)) ↔ B := ⟨fun h => h.2 (fun e => by cases e), fun h => ⟨fun e => (by cases e), fun _ => h⟩⟩
theorem fl_bk {A : Prop} {B : Prop} : ((Fl.bk = Fl.nx → A) ∧ (Fl.bk ≠ Fl.nx → B)) ↔ B := ⟨fun h => h.2 (fun e => by cases e), fun h => ⟨fun e => (by cases e), fun _ => h⟩⟩
theorem fl_ct {A : Prop} {B : Prop} : ((Fl.ct = Fl.nx → A) ∧ (Fl.ct ≠ Fl.nx → B)) ↔ B := ⟨fun h => h.2 (fun e => by cases e), fun h => ⟨fun e => (by cases e), fun _ => h⟩⟩
theorem ok_nx : OKr (mNx ρ) PF ↔ PF .nx ρ := Iff.rfl
theorem ok_bk : OKr (mBk ρ) PF ↔ PF .bk ρ := Iff.rfl
theorem ok_ct : OKr (mCt ρ) PF ↔ PF .ct ρ := Iff.rfl
theorem ok_st : OKr (mSt ρ) PF ↔ False := Iff.rfl
theorem ok_ret : OKr (mRet fa ρ) PF ↔ OKr (fa ρ) fun s ρ1 => PF (.rt s) ρ1 := by
  unfold mRet
  simp only [ok_then, ok_ok]
theorem ok_retN : OKr (mRetN ρ) PF ↔ PF (.rt (.d .non)) ρ := Iff.rfl
theorem ok_ifS : OKr (mIfS ft F G ρ) PF ↔ OKr (ft ρ) fun b ρ1 => (b = true → OKr (F ρ1) PF) ∧ (¬b = true → OKr (G ρ1) PF) := by
  unfold mIfS
  simp only [ok_then, ok_ite]
theorem ok_drop : OKr (mDrop fa ρ) PF ↔ OKr (fa ρ) fun _ ρ1 => PF .nx ρ1 := by
  unfold mDrop
  simp only [ok_then, ok_ok]
theorem ok_asg {g : D → M Unit} : OKr (mAsg fa g ρ) PF ↔ OKr (dv fa ρ) fun x ρ1 => OKr (g x ρ1) fun _ ρ2 => PF .nx ρ2 := by
  unfold mAsg
  simp only [ok_then, ok_ok]
theorem ok_gname {i : Nat} {x : D} : OKr (gmName i x ρ) PU ↔ PU () (ρ.set i (some (.d x))) := Iff.rfl
theorem ok_call {f : Fn} : OKr (mCall f fA ρ) P ↔ OKr (fA ρ) fun ds ρ1 => OKFr (f (ds.map .d)) fun s => bare s = true ∧ P s ρ1 := by
  unfold mCall
  rw [ok_then]
  refine ⟨fun h => h.imp fun ds ρ1 h => ?_, fun h => h.imp fun ds ρ1 h => ?_⟩
  · cases e : f (ds.map .d) with
    | stuck => rw [e] at h; exact h.elim
    | err _ _ => rw [e] at h; exact h.elim
    | ok s ρ' =>
      rw [e] at h
      dsimp only at h
      rw [ok_ite] at h
      by_cases hb : bare s = true
      · exact ⟨hb, h.1 hb⟩
      · exact (h.2 hb).elim
  · obtain ⟨s, ρ', e, hb, k⟩ := h.at
    rw [e]
    dsimp only
    rw [if_pos hb]
    exact k
theorem okF_runF {np nN : Nat} {body : M Fl} {args : List S} {K : S → Prop} : OKFr (runF np nN body args) K ↔ args.length = np ∧ OKr (body (args.map some ++ List.replicate (nN - np) none)) fun f _ => (∃ s, f = .rt s ∧ K s) ∨ (f = .nx ∧ K (.d .non)) := by
  unfold OKFr runF
  by_cases ha : args.length = np
  · rw [if_pos ha]
    cases e : body (args.map some ++ List.replicate (nN - np) none) with
    | stuck => exact ⟨fun h => h.elim, fun h => h.2.elim⟩
    | err _ _ => exact ⟨fun h => h.elim, fun h => h.2.elim⟩
    | ok f ρ' =>
      cases f with
      | rt s => exact ⟨fun h => ⟨ha, .inl ⟨s, rfl, h⟩⟩, fun h => by
          rcases h.2 with ⟨t, e, k⟩ | ⟨e, k⟩
          · cases e; exact k
          · cases e⟩
      | nx => exact ⟨fun h => ⟨ha, .inr ⟨rfl, h⟩⟩, fun h => by
          rcases h.2 with ⟨t, e, k⟩ | ⟨e, k⟩
          · cases e
          · exact k⟩
      | bk => exact ⟨fun h => h.elim, fun h => by
          rcases h.2 with ⟨t, e, k⟩ | ⟨e, k⟩ <;> cases e⟩
      | ct => exact ⟨fun h => h.elim, fun h => by
          rcases h.2 with ⟨t, e, k⟩ | ⟨e, k⟩ <;> cases e⟩
  · rw [if_neg ha]
    exact ⟨fun h => h.elim, fun h => absurd h.1 ha⟩
theorem ok_runF {np nN : Nat} {body : M Fl} {args : List S} {K : S → En → Prop} (ha : args.length = np) (h : OKr (body (args.map some ++ List.replicate (nN - np) none)) fun f ρ => (∃ s, f = .rt s ∧ K s ρ) ∨ (f = .nx ∧ K (.d .non) ρ)) : OKr (runF np nN body args) K := by
  unfold runF
  rw [if_pos ha]
  obtain ⟨f, ρ', e, h⟩ := h.at
  rw [e]
  rcases h with ⟨t, rfl, k⟩ | ⟨rfl, k⟩
  · exact k
  · exact k
theorem rt_or {s : S} {K : S → Prop} : ((∃ t, Fl.rt s = .rt t ∧ K t) ∨ (Fl.rt s = .nx ∧ K (.d .non))) ↔ K s := by
  constructor
  · rintro (⟨t, e, k⟩ | ⟨e, _⟩)
    · cases e; exact k
    · cases e
  · exact fun h => .inl ⟨s, rfl, h⟩
theorem nx_or {K : S → Prop} : ((∃ t, Fl.nx = .rt t ∧ K t) ∨ (Fl.nx = .nx ∧ K (.d .non))) ↔ K (.d .non) := by
  constructor
  · rintro (⟨t, e, k⟩ | ⟨_, k⟩)
    · cases e
    · exact k
  · exact fun h => .inr ⟨rfl, h⟩
theorem okF_runL {np nN : Nat} {fe : M S} {args : List S} {K : S → Prop} : OKFr (runL np nN fe args) K ↔ args.length = np ∧ OKr (fe (args.map some ++ List.replicate (nN - np) none)) fun s _ => K s := by
  unfold OKFr runL
  by_cases ha : args.length = np
  · rw [if_pos ha]
    exact ⟨fun h => ⟨ha, h⟩, fun h => h.2⟩
  · rw [if_neg ha]
    exact ⟨fun h => h.elim, fun h => absurd h.1 ha⟩
/-! loops by what they keep -/
theorem ok_loop {gm : D → M Unit} {F : M Fl} {I : Nat → En → Prop} {PF : Fl → En → Prop} : ∀ {items : List D} {k : Nat} {ρ : En}, I k ρ →
    (∀ i x ρ, items[i]? = some x → I (k + i) ρ → OKr (gm x ρ) fun _ ρ1 => OKr (F ρ1) fun f ρ2 => (f = .nx ∨ f = .ct → I (k + i + 1) ρ2) ∧ (f = .bk → PF .nx ρ2) ∧ ∀ s, f = .rt s → PF (.rt s) ρ2) →
    (∀ ρ, I (k + items.length) ρ → PF .nx ρ) → OKr (mLoop gm F items ρ) PF
  | [], k, ρ, h, _, e => e ρ h
  | x :: xs, k, ρ, h, st, e => by
    show OKr ((gm x ρ).then fun _ ρ1 => (F ρ1).then fun f ρ2 => _) PF
    rw [ok_then]
    refine (st 0 x ρ rfl h).imp fun _ ρ1 h1 => ?_
    rw [ok_then]
    refine h1.imp fun f ρ2 ⟨a, b, d⟩ => ?_
    have st' : ∀ i y ρ, xs[i]? = some y → I (k + 1 + i) ρ → OKr (gm y ρ) fun _ ρ1 => OKr (F ρ1) fun f ρ2 => (f = .nx ∨ f = .ct → I (k + 1 + i + 1) ρ2) ∧ (f = .bk → PF .nx ρ2) ∧ ∀ s, f = .rt s → PF (.rt s) ρ2 := fun i y ρ hy hi => by
      have := st (i + 1) y ρ (by simpa using hy) (by rw [show k + (i + 1) = k + 1 + i by omega]; exact hi)
      rw [show k + (i + 1) + 1 = k + 1 + i + 1 by omega] at this
      exact this
    have e' : ∀ ρ, I (k + 1 + xs.length) ρ → PF .nx ρ := fun ρ h => e ρ (by rw [List.length_cons, show k + (xs.length + 1) = k + 1 + xs.length by omega]; exact h)
    cases f with
    | nx => exact ok_loop (k := k + 1) (a (.inl rfl)) st' e'
    | ct => exact ok_loop (k := k + 1) (a (.inr rfl)) st' e'
    | bk => exact b rfl
    | rt s => exact d s rfl
theorem ok_for {fI : M (List D)} {gm : D → M Unit} {F : M Fl} {PF : Fl → En → Prop} : OKr (mFor fI gm F ρ) PF ↔ OKr (fI ρ) fun items ρ1 => OKr (mLoop gm F items ρ1) PF := by
  unfold mFor
  rw [ok_then]
theorem ok_comp {gm : D → M Unit} {ft : M Bool} {fe : M S} {own : List Nat} {I : Nat → List D → En → Prop} {PL : List D → En → Prop} : ∀ {items : List D} {k : Nat} {acc : List D} {ρ : En}, I k acc ρ →
    (∀ i x acc ρ, items[i]? = some x → I (k + i) acc ρ → OKr (gm x ρ) fun _ ρ1 => OKr (ft ρ1) fun b ρ2 => (b = true → OKr (dv fe ρ2) fun y ρ3 => small (acc.length + 1) = true ∧ I (k + i + 1) (acc ++ [y]) (wipeE ρ3 own)) ∧ (¬b = true → I (k + i + 1) acc (wipeE ρ2 own))) →
    (∀ acc ρ, I (k + items.length) acc ρ → PL acc ρ) → OKr (mComp gm ft fe own items acc ρ) PL
  | [], k, acc, ρ, h, _, e => e acc ρ h
  | x :: xs, k, acc, ρ, h, st, e => by
    show OKr ((gm x ρ).calm.then fun _ ρ1 => (ft ρ1).calm.then fun b ρ2 => _) PL
    rw [ok_then, ok_calm]
    refine (st 0 x acc ρ rfl h).imp fun _ ρ1 h1 => ?_
    rw [ok_then, ok_calm]
    have st' : ∀ i y acc ρ, xs[i]? = some y → I (k + 1 + i) acc ρ → OKr (gm y ρ) fun _ ρ1 => OKr (ft ρ1) fun b ρ2 => (b = true → OKr (dv fe ρ2) fun y ρ3 => small (acc.length + 1) = true ∧ I (k + 1 + i + 1) (acc ++ [y]) (wipeE ρ3 own)) ∧ (¬b = true → I (k + 1 + i + 1) acc (wipeE ρ2 own)) := fun i y acc ρ hy hi => by
      have := st (i + 1) y acc ρ (by simpa using hy) (by rw [show k + (i + 1) = k + 1 + i by omega]; exact hi)
      rw [show k + (i + 1) + 1 = k + 1 + i + 1 by omega] at this
      exact this
    have e' : ∀ acc ρ, I (k + 1 + xs.length) acc ρ → PL acc ρ := fun acc ρ h => e acc ρ (by rw [List.length_cons, show k + (xs.length + 1) = k + 1 + xs.length by omega]; exact h)
    refine h1.imp fun b ρ2 ⟨a, d⟩ => ?_
    by_cases hb : b = true
    · rw [if_pos hb, ok_then, ok_calm]
      refine (a hb).imp fun y ρ3 ⟨hz, h⟩ => ?_
      rw [if_pos hz]
      exact ok_comp (k := k + 1) h st' e'
    · rw [if_neg hb]
      exact ok_comp (k := k + 1) (d hb) st' e'
theorem ok_lc {fI : M (List D)} {gm : D → M Unit} {ft : M Bool} {fe : M S} {own : List Nat} : OKr (mLc fI gm ft fe own ρ) P ↔ OKr (fI ρ) fun items ρ1 => OKr (mComp gm ft fe own items [] (wipeE ρ1 own)) fun ds ρ2 => P (.o none (.lst ds)) ρ2 := by
  unfold mLc
  simp only [ok_then, ok_ok]
theorem ok_tup : OKr (mTup fA ρ) P ↔ OKr (fA ρ) fun ds ρ1 => small ds.length = true ∧ P (.d (.tup ds)) ρ1 := by
  unfold mTup
  rw [ok_then]
  refine ⟨fun h => h.imp fun ds ρ1 h => ?_, fun h => h.imp fun ds ρ1 h => ?_⟩
  · by_cases hz : small ds.length = true
    · rw [if_pos hz] at h
      exact ⟨hz, h⟩
    · rw [if_neg hz] at h
      exact h.elim
  · rw [if_pos h.1]
    exact h.2
end
end R
/-- the run goes well and gives what P tells -/
@[irreducible] def OK {α : Type} (m : Out α) (P : α → En → Prop) : Prop := R.OKr m P
@[irreducible] def OKF (o : Out S) (K : S → Prop) : Prop := R.OKFr o K
theorem ok_eq : @OK = @R.OKr := by
  funext α m P
  unfold OK
  rfl
theorem okF_eq : @OKF = @R.OKFr := by
  funext o K
  unfold OKF
  rfl
theorem ok_of {α : Type} {m : Out α} {P : α → En → Prop} (h : R.OKr m P) : OK m P := by
  rw [ok_eq]
  exact h
theorem ok_out {α : Type} {m : Out α} {P : α → En → Prop} (h : OK m P) : R.OKr m P := by
  rw [ok_eq] at h
  exact h
theorem okF {o : Out S} {K : S → Prop} : OKF o K ↔ OK o fun s _ => K s := by
  rw [ok_eq, okF_eq]
  exact Iff.rfl
section
variable {α β : Type} {P Q : α → En → Prop}
theorem ok_ok {a : α} {ρ : En} : OK (.ok a ρ) P ↔ P a ρ := by
  first | exact R.ok_ok | skip
  all_goals (try simp only [okF_eq, ok_eq] at *)
  all_goals first | exact R.ok_ok | exact R.ok_ok (by assumption) | exact R.ok_ok (by assumption) (by assumption) | exact R.ok_ok (by assumption) (by assumption) (by assumption) | apply R.ok_ok <;> assumption
theorem ok_stuck : OK (.stuck : Out α) P ↔ False := by
  first | exact R.ok_stuck | skip
  all_goals (try simp only [okF_eq, ok_eq] at *)
  all_goals first | exact R.ok_stuck | exact R.ok_stuck (by assumption) | exact R.ok_stuck (by assumption) (by assumption) | exact R.ok_stuck (by assumption) (by assumption) (by assumption) | apply R.ok_stuck <;> assumption
theorem ok_then {m : Out α} {f : α → En → Out β} {P : β → En → Prop} : OK (m.then f) P ↔ OK m fun a ρ => OK (f a ρ) P := by
  first | exact R.ok_then | skip
  all_goals (try simp only [okF_eq, ok_eq] at *)
  all_goals first | exact R.ok_then | exact R.ok_then (by assumption) | exact R.ok_then (by assumption) (by assumption) | exact R.ok_then (by assumption) (by assumption) (by assumption) | apply R.ok_then <;> assumption
theorem ok_ite {c : Prop} [Decidable c] {a b : Out α} : OK (if c then a else b) P ↔ (c → OK a P) ∧ (¬c → OK b P) := by
  first | exact R.ok_ite | skip
  all_goals (try simp only [okF_eq, ok_eq] at *)
  all_goals first | exact R.ok_ite | exact R.ok_ite (by assumption) | exact R.ok_ite (by assumption) (by assumption) | exact R.ok_ite (by assumption) (by assumption) (by assumption) | apply R.ok_ite <;> assumption
theorem OK.imp {m : Out α} (h : OK m P) (k : ∀ a ρ, P a ρ → Q a ρ) : OK m Q := by
  first | exact R.OKr.imp | skip
  all_goals (try simp only [okF_eq, ok_eq] at *)
  all_goals first | exact R.OKr.imp | exact R.OKr.imp (by assumption) | exact R.OKr.imp (by assumption) (by assumption) | exact R.OKr.imp (by assumption) (by assumption) (by assumption) | apply R.OKr.imp <;> assumption
theorem OK.at {m : Out α} (h : OK m P) : ∃ a ρ, m = .ok a ρ ∧ P a ρ := by
  first | exact R.OKr.at | skip
  all_goals (try simp only [okF_eq, ok_eq] at *)
  all_goals first | exact R.OKr.at | exact R.OKr.at (by assumption) | exact R.OKr.at (by assumption) (by assumption) | exact R.OKr.at (by assumption) (by assumption) (by assumption) | apply R.OKr.at <;> assumption
theorem ok_calm {m : Out α} : OK m.calm P ↔ OK m P := by
  first | exact R.ok_calm | skip
  all_goals (try simp only [okF_eq, ok_eq] at *)
  all_goals first | exact R.ok_calm | exact R.ok_calm (by assumption) | exact R.ok_calm (by assumption) (by assumption) | exact R.ok_calm (by assumption) (by assumption) (by assumption) | apply R.ok_calm <;> assumption
theorem OKF.imp {o : Out S} {K K' : S → Prop} (h : OKF o K) (k : ∀ s, K s → K' s) : OKF o K' := by
  first | exact R.OKFr.imp | skip
  all_goals (try simp only [okF_eq, ok_eq] at *)
  all_goals first | exact R.OKFr.imp | exact R.OKFr.imp (by assumption) | exact R.OKFr.imp (by assumption) (by assumption) | exact R.OKFr.imp (by assumption) (by assumption) (by assumption) | apply R.OKFr.imp <;> assumption
end
section
variable {ρ : En} {P : S → En → Prop} {PB : Bool → En → Prop} {PA : List D → En → Prop} {PF : Fl → En → Prop} {PU : Unit → En → Prop} {fa fb fe : M S} {fA : M (List D)} {ft fu : M Bool} {F G : M Fl}
theorem ok_dv {f : M S} {K : D → En → Prop} : OK (dv f ρ) K ↔ OK (f ρ) fun s ρ' => ∃ x, toD s = some x ∧ K x ρ' := by
  first | exact R.ok_dv | skip
  all_goals (try simp only [okF_eq, ok_eq] at *)
  all_goals first | exact R.ok_dv | exact R.ok_dv (by assumption) | exact R.ok_dv (by assumption) (by assumption) | exact R.ok_dv (by assumption) (by assumption) (by assumption) | apply R.ok_dv <;> assumption
theorem ex_toD {x : D} {K : D → Prop} : (∃ y, toD (.d x) = some y ∧ K y) ↔ K x := by
  first | exact R.ex_toD | skip
  all_goals (try simp only [okF_eq, ok_eq] at *)
  all_goals first | exact R.ex_toD | exact R.ex_toD (by assumption) | exact R.ex_toD (by assumption) (by assumption) | exact R.ex_toD (by assumption) (by assumption) (by assumption) | apply R.ex_toD <;> assumption
theorem ex_toL {ds : List D} {K : D → Prop} : (∃ y, toD (.o none (.lst ds)) = some y ∧ K y) ↔ K (.lst ds) := by
  first | exact R.ex_toL | skip
  all_goals (try simp only [okF_eq, ok_eq] at *)
  all_goals first | exact R.ex_toL | exact R.ex_toL (by assumption) | exact R.ex_toL (by assumption) (by assumption) | exact R.ex_toL (by assumption) (by assumption) (by assumption) | apply R.ex_toL <;> assumption
theorem ok_c {x : D} : OK (mC x ρ) P ↔ P (.d x) ρ := by
  first | exact R.ok_c | skip
  all_goals (try simp only [okF_eq, ok_eq] at *)
  all_goals first | exact R.ok_c | exact R.ok_c (by assumption) | exact R.ok_c (by assumption) (by assumption) | exact R.ok_c (by assumption) (by assumption) (by assumption) | apply R.ok_c <;> assumption
theorem ok_var {i : Nat} : OK (mVar i ρ) P ↔ OK (mVar i ρ) P := by
  first | exact R.ok_var | skip
  all_goals (try simp only [okF_eq, ok_eq] at *)
  all_goals first | exact R.ok_var | exact R.ok_var (by assumption) | exact R.ok_var (by assumption) (by assumption) | exact R.ok_var (by assumption) (by assumption) (by assumption) | apply R.ok_var <;> assumption
theorem ok_varD {i : Nat} {x : D} (e : ρ[i]? = some (some (.d x))) : OK (mVar i ρ) P ↔ P (.d x) ρ := by
  first | exact R.ok_varD | skip
  all_goals (try simp only [okF_eq, ok_eq] at *)
  all_goals first | exact R.ok_varD | exact R.ok_varD (by assumption) | exact R.ok_varD (by assumption) (by assumption) | exact R.ok_varD (by assumption) (by assumption) (by assumption) | apply R.ok_varD <;> assumption
theorem ok_op {g : D → D → Option S} : OK (mOp g fa fb ρ) P ↔ OK (dv fa ρ) fun x ρ1 => OK (dv fb ρ1) fun y ρ2 => ∃ s, g x y = some s ∧ P s ρ2 := by
  first | exact R.ok_op | skip
  all_goals (try simp only [okF_eq, ok_eq] at *)
  all_goals first | exact R.ok_op | exact R.ok_op (by assumption) | exact R.ok_op (by assumption) (by assumption) | exact R.ok_op (by assumption) (by assumption) (by assumption) | apply R.ok_op <;> assumption
theorem ok_un {g : D → Option S} : OK (mUn g fa ρ) P ↔ OK (dv fa ρ) fun x ρ1 => ∃ s, g x = some s ∧ P s ρ1 := by
  first | exact R.ok_un | skip
  all_goals (try simp only [okF_eq, ok_eq] at *)
  all_goals first | exact R.ok_un | exact R.ok_un (by assumption) | exact R.ok_un (by assumption) (by assumption) | exact R.ok_un (by assumption) (by assumption) (by assumption) | apply R.ok_un <;> assumption
theorem ok_nil : OK (aNil ρ) PA ↔ PA [] ρ := by
  first | exact R.ok_nil | skip
  all_goals (try simp only [okF_eq, ok_eq] at *)
  all_goals first | exact R.ok_nil | exact R.ok_nil (by assumption) | exact R.ok_nil (by assumption) (by assumption) | exact R.ok_nil (by assumption) (by assumption) (by assumption) | apply R.ok_nil <;> assumption
theorem ok_cons {fr : M (List D)} : OK (aCons fa fr ρ) PA ↔ OK (dv fa ρ) fun x ρ1 => OK (fr ρ1) fun ds ρ2 => PA (x :: ds) ρ2 := by
  first | exact R.ok_cons | skip
  all_goals (try simp only [okF_eq, ok_eq] at *)
  all_goals first | exact R.ok_cons | exact R.ok_cons (by assumption) | exact R.ok_cons (by assumption) (by assumption) | exact R.ok_cons (by assumption) (by assumption) (by assumption) | apply R.ok_cons <;> assumption
theorem ok_cb {g : List D → Option S} : OK (mCB g fA ρ) P ↔ OK (fA ρ) fun ds ρ1 => ∃ s, g ds = some s ∧ P s ρ1 := by
  first | exact R.ok_cb | skip
  all_goals (try simp only [okF_eq, ok_eq] at *)
  all_goals first | exact R.ok_cb | exact R.ok_cb (by assumption) | exact R.ok_cb (by assumption) (by assumption) | exact R.ok_cb (by assumption) (by assumption) (by assumption) | apply R.ok_cb <;> assumption
theorem ok_test : OK (mTest fa ρ) PB ↔ OK (dv fa ρ) fun x ρ1 => ∃ b, x = .bl b ∧ PB b ρ1 := by
  first | exact R.ok_test | skip
  all_goals (try simp only [okF_eq, ok_eq] at *)
  all_goals first | exact R.ok_test | exact R.ok_test (by assumption) | exact R.ok_test (by assumption) (by assumption) | exact R.ok_test (by assumption) (by assumption) (by assumption) | apply R.ok_test <;> assumption
theorem ex_bl {b : Bool} {K : Bool → Prop} : (∃ c, D.bl b = D.bl c ∧ K c) ↔ K b := by
  first | exact R.ex_bl | skip
  all_goals (try simp only [okF_eq, ok_eq] at *)
  all_goals first | exact R.ex_bl | exact R.ex_bl (by assumption) | exact R.ex_bl (by assumption) (by assumption) | exact R.ex_bl (by assumption) (by assumption) (by assumption) | apply R.ex_bl <;> assumption
theorem ok_not : OK (mNot ft ρ) PB ↔ OK (ft ρ) fun b ρ1 => PB (!b) ρ1 := by
  first | exact R.ok_not | skip
  all_goals (try simp only [okF_eq, ok_eq] at *)
  all_goals first | exact R.ok_not | exact R.ok_not (by assumption) | exact R.ok_not (by assumption) (by assumption) | exact R.ok_not (by assumption) (by assumption) (by assumption) | apply R.ok_not <;> assumption
theorem ok_and : OK (mAnd ft fu ρ) PB ↔ OK (ft ρ) fun b ρ1 => (b = true → OK (fu ρ1) PB) ∧ (¬b = true → PB false ρ1) := by
  first | exact R.ok_and | skip
  all_goals (try simp only [okF_eq, ok_eq] at *)
  all_goals first | exact R.ok_and | exact R.ok_and (by assumption) | exact R.ok_and (by assumption) (by assumption) | exact R.ok_and (by assumption) (by assumption) (by assumption) | apply R.ok_and <;> assumption
theorem ok_or : OK (mOr ft fu ρ) PB ↔ OK (ft ρ) fun b ρ1 => (b = true → PB true ρ1) ∧ (¬b = true → OK (fu ρ1) PB) := by
  first | exact R.ok_or | skip
  all_goals (try simp only [okF_eq, ok_eq] at *)
  all_goals first | exact R.ok_or | exact R.ok_or (by assumption) | exact R.ok_or (by assumption) (by assumption) | exact R.ok_or (by assumption) (by assumption) (by assumption) | apply R.ok_or <;> assumption
theorem ok_andV : OK (mAndV fa fb ρ) P ↔ OK (mTest fa ρ) fun b ρ1 => (b = true → OK (fb ρ1) P) ∧ (¬b = true → P (.d (.bl false)) ρ1) := by
  first | exact R.ok_andV | skip
  all_goals (try simp only [okF_eq, ok_eq] at *)
  all_goals first | exact R.ok_andV | exact R.ok_andV (by assumption) | exact R.ok_andV (by assumption) (by assumption) | exact R.ok_andV (by assumption) (by assumption) (by assumption) | apply R.ok_andV <;> assumption
theorem ok_orV : OK (mOrV fa fb ρ) P ↔ OK (mTest fa ρ) fun b ρ1 => (b = true → P (.d (.bl true)) ρ1) ∧ (¬b = true → OK (fb ρ1) P) := by
  first | exact R.ok_orV | skip
  all_goals (try simp only [okF_eq, ok_eq] at *)
  all_goals first | exact R.ok_orV | exact R.ok_orV (by assumption) | exact R.ok_orV (by assumption) (by assumption) | exact R.ok_orV (by assumption) (by assumption) (by assumption) | apply R.ok_orV <;> assumption
theorem ok_notV : OK (mNotV fa ρ) P ↔ OK (mTest fa ρ) fun b ρ1 => P (.d (.bl (!b))) ρ1 := by
  first | exact R.ok_notV | skip
  all_goals (try simp only [okF_eq, ok_eq] at *)
  all_goals first | exact R.ok_notV | exact R.ok_notV (by assumption) | exact R.ok_notV (by assumption) (by assumption) | exact R.ok_notV (by assumption) (by assumption) (by assumption) | apply R.ok_notV <;> assumption
theorem ok_if : OK (mIf ft fa fb ρ) P ↔ OK (ft ρ) fun b ρ1 => (b = true → OK (fa ρ1) P) ∧ (¬b = true → OK (fb ρ1) P) := by
  first | exact R.ok_if | skip
  all_goals (try simp only [okF_eq, ok_eq] at *)
  all_goals first | exact R.ok_if | exact R.ok_if (by assumption) | exact R.ok_if (by assumption) (by assumption) | exact R.ok_if (by assumption) (by assumption) (by assumption) | apply R.ok_if <;> assumption
theorem ok_yes : OK (mYes ρ) PB ↔ PB true ρ := by
  first | exact R.ok_yes | skip
  all_goals (try simp only [okF_eq, ok_eq] at *)
  all_goals first | exact R.ok_yes | exact R.ok_yes (by assumption) | exact R.ok_yes (by assumption) (by assumption) | exact R.ok_yes (by assumption) (by assumption) (by assumption) | apply R.ok_yes <;> assumption
/-! statements -/
theorem ok_seq : OK (mSeq F G ρ) PF ↔ OK (F ρ) fun f ρ1 => (f = .nx → OK (G ρ1) PF) ∧ (f ≠ .nx → PF f ρ1) := by
  first | exact R.ok_seq | skip
  all_goals (try simp only [okF_eq, ok_eq] at *)
  all_goals first | exact R.ok_seq | exact R.ok_seq (by assumption) | exact R.ok_seq (by assumption) (by assumption) | exact R.ok_seq (by assumption) (by assumption) (by assumption) | apply R.ok_seq <;> assumption
theorem fl_nx {A : Prop} {B : Prop} : ((Fl.nx = Fl.nx → A) ∧ (Fl.nx ≠ Fl.nx → B)) ↔ A := by
  first | exact R.fl_nx | skip
  all_goals (try simp only [okF_eq, ok_eq] at *)
  all_goals first | exact R.fl_nx | exact R.fl_nx (by assumption) | exact R.fl_nx (by assumption) (by assumption) | exact R.fl_nx (by assumption) (by assumption) (by assumption) | apply R.fl_nx <;> assumption
theorem fl_rt {s : S} {A : Prop} {B : Prop} : ((Fl.rt s = Fl.nx → A) ∧ (Fl.rt s ≠ Fl.nx → B)) ↔ B := by
  first | exact R.fl_rt | skip
  all_goals (try simp only [okF_eq, ok_eq] at *)
  all_goals first | exact R.fl_rt | exact R.fl_rt (by assumption) | exact R.fl_rt (by assumption) (by assumption) | exact R.fl_rt (by assumption) (by assumption) (by assumption) | apply R.fl_rt <;> assumption
theorem fl_bk {A : Prop} {B : Prop} : ((Fl.bk = Fl.nx → A) ∧ (Fl.bk ≠ Fl.nx → B)) ↔ B := by
  first | exact R.fl_bk | skip
  all_goals (try simp only [okF_eq, ok_eq] at *)
  all_goals first | exact R.fl_bk | exact R.fl_bk (by assumption) | exact R.fl_bk (by assumption) (by assumption) | exact R.fl_bk (by assumption) (by assumption) (by assumption) | apply R.fl_bk <;> assumption
theorem fl_ct {A : Prop} {B : Prop} : ((Fl.ct = Fl.nx → A) ∧ (Fl.ct ≠ Fl.nx → B)) ↔ B := by
  first | exact R.fl_ct | skip
  all_goals (try simp only [okF_eq, ok_eq] at *)
  all_goals first | exact R.fl_ct | exact R.fl_ct (by assumption) | exact R.fl_ct (by assumption) (by assumption) | exact R.fl_ct (by assumption) (by assumption) (by assumption) | apply R.fl_ct <;> assumption
theorem ok_nx : OK (mNx ρ) PF ↔ PF .nx ρ := by
  first | exact R.ok_nx | skip
  all_goals (try simp only [okF_eq, ok_eq] at *)
  all_goals first | exact R.ok_nx | exact R.ok_nx (by assumption) | exact R.ok_nx (by assumption) (by assumption) | exact R.ok_nx (by assumption) (by assumption) (by assumption) | apply R.ok_nx <;> assumption
theorem ok_bk : OK (mBk ρ) PF ↔ PF .bk ρ := by
  first | exact R.ok_bk | skip
  all_goals (try simp only [okF_eq, ok_eq] at *)
  all_goals first | exact R.ok_bk | exact R.ok_bk (by assumption) | exact R.ok_bk (by assumption) (by assumption) | exact R.ok_bk (by assumption) (by assumption) (by assumption) | apply R.ok_bk <;> assumption
theorem ok_ct : OK (mCt ρ) PF ↔ PF .ct ρ := by
  first | exact R.ok_ct | skip
  all_goals (try simp only [okF_eq, ok_eq] at *)
  all_goals first | exact R.ok_ct | exact R.ok_ct (by assumption) | exact R.ok_ct (by assumption) (by assumption) | exact R.ok_ct (by assumption) (by assumption) (by assumption) | apply R.ok_ct <;> assumption
theorem ok_st : OK (mSt ρ) PF ↔ False := by
  first | exact R.ok_st | skip
  all_goals (try simp only [okF_eq, ok_eq] at *)
  all_goals first | exact R.ok_st | exact R.ok_st (by assumption) | exact R.ok_st (by assumption) (by assumption) | exact R.ok_st (by assumption) (by assumption) (by assumption) | apply R.ok_st <;> assumption
theorem ok_ret : OK (mRet fa ρ) PF ↔ OK (fa ρ) fun s ρ1 => PF (.rt s) ρ1 := by
  first | exact R.ok_ret | skip
  all_goals (try simp only [okF_eq, ok_eq] at *)
  all_goals first | exact R.ok_ret | exact R.ok_ret (by assumption) | exact R.ok_ret (by assumption) (by assumption) | exact R.ok_ret (by assumption) (by assumption) (by assumption) | apply R.ok_ret <;> assumption
theorem ok_retN : OK (mRetN ρ) PF ↔ PF (.rt (.d .non)) ρ := by
  first | exact R.ok_retN | skip
  all_goals (try simp only [okF_eq, ok_eq] at *)
  all_goals first | exact R.ok_retN | exact R.ok_retN (by assumption) | exact R.ok_retN (by assumption) (by assumption) | exact R.ok_retN (by assumption) (by assumption) (by assumption) | apply R.ok_retN <;> assumption
theorem ok_ifS : OK (mIfS ft F G ρ) PF ↔ OK (ft ρ) fun b ρ1 => (b = true → OK (F ρ1) PF) ∧ (¬b = true → OK (G ρ1) PF) := by
  first | exact R.ok_ifS | skip
  all_goals (try simp only [okF_eq, ok_eq] at *)
  all_goals first | exact R.ok_ifS | exact R.ok_ifS (by assumption) | exact R.ok_ifS (by assumption) (by assumption) | exact R.ok_ifS (by assumption) (by assumption) (by assumption) | apply R.ok_ifS <;> assumption
theorem ok_drop : OK (mDrop fa ρ) PF ↔ OK (fa ρ) fun _ ρ1 => PF .nx ρ1 := by
  first | exact R.ok_drop | skip
  all_goals (try simp only [okF_eq, ok_eq] at *)
  all_goals first | exact R.ok_drop | exact R.ok_drop (by assumption) | exact R.ok_drop (by assumption) (by assumption) | exact R.ok_drop (by assumption) (by assumption) (by assumption) | apply R.ok_drop <;> assumption
theorem ok_asg {g : D → M Unit} : OK (mAsg fa g ρ) PF ↔ OK (dv fa ρ) fun x ρ1 => OK (g x ρ1) fun _ ρ2 => PF .nx ρ2 := by
  first | exact R.ok_asg | skip
  all_goals (try simp only [okF_eq, ok_eq] at *)
  all_goals first | exact R.ok_asg | exact R.ok_asg (by assumption) | exact R.ok_asg (by assumption) (by assumption) | exact R.ok_asg (by assumption) (by assumption) (by assumption) | apply R.ok_asg <;> assumption
theorem ok_gname {i : Nat} {x : D} : OK (gmName i x ρ) PU ↔ PU () (ρ.set i (some (.d x))) := by
  first | exact R.ok_gname | skip
  all_goals (try simp only [okF_eq, ok_eq] at *)
  all_goals first | exact R.ok_gname | exact R.ok_gname (by assumption) | exact R.ok_gname (by assumption) (by assumption) | exact R.ok_gname (by assumption) (by assumption) (by assumption) | apply R.ok_gname <;> assumption
theorem ok_call {f : Fn} : OK (mCall f fA ρ) P ↔ OK (fA ρ) fun ds ρ1 => OKF (f (ds.map .d)) fun s => bare s = true ∧ P s ρ1 := by
  first | exact R.ok_call | skip
  all_goals (try simp only [okF_eq, ok_eq] at *)
  all_goals first | exact R.ok_call | exact R.ok_call (by assumption) | exact R.ok_call (by assumption) (by assumption) | exact R.ok_call (by assumption) (by assumption) (by assumption) | apply R.ok_call <;> assumption
theorem okF_runF {np nN : Nat} {body : M Fl} {args : List S} {K : S → Prop} : OKF (runF np nN body args) K ↔ args.length = np ∧ OK (body (args.map some ++ List.replicate (nN - np) none)) fun f _ => (∃ s, f = .rt s ∧ K s) ∨ (f = .nx ∧ K (.d .non)) := by
  first | exact R.okF_runF | skip
  all_goals (try simp only [okF_eq, ok_eq] at *)
  all_goals first | exact R.okF_runF | exact R.okF_runF (by assumption) | exact R.okF_runF (by assumption) (by assumption) | exact R.okF_runF (by assumption) (by assumption) (by assumption) | apply R.okF_runF <;> assumption
theorem ok_runF {np nN : Nat} {body : M Fl} {args : List S} {K : S → En → Prop} (ha : args.length = np) (h : OK (body (args.map some ++ List.replicate (nN - np) none)) fun f ρ => (∃ s, f = .rt s ∧ K s ρ) ∨ (f = .nx ∧ K (.d .non) ρ)) : OK (runF np nN body args) K := by
  first | exact R.ok_runF | skip
  all_goals (try simp only [okF_eq, ok_eq] at *)
  all_goals first | exact R.ok_runF | exact R.ok_runF (by assumption) | exact R.ok_runF (by assumption) (by assumption) | exact R.ok_runF (by assumption) (by assumption) (by assumption) | apply R.ok_runF <;> assumption
theorem rt_or {s : S} {K : S → Prop} : ((∃ t, Fl.rt s = .rt t ∧ K t) ∨ (Fl.rt s = .nx ∧ K (.d .non))) ↔ K s := by
  first | exact R.rt_or | skip
  all_goals (try simp only [okF_eq, ok_eq] at *)
  all_goals first | exact R.rt_or | exact R.rt_or (by assumption) | exact R.rt_or (by assumption) (by assumption) | exact R.rt_or (by assumption) (by assumption) (by assumption) | apply R.rt_or <;> assumption
theorem nx_or {K : S → Prop} : ((∃ t, Fl.nx = .rt t ∧ K t) ∨ (Fl.nx = .nx ∧ K (.d .non))) ↔ K (.d .non) := by
  first | exact R.nx_or | skip
  all_goals (try simp only [okF_eq, ok_eq] at *)
  all_goals first | exact R.nx_or | exact R.nx_or (by assumption) | exact R.nx_or (by assumption) (by assumption) | exact R.nx_or (by assumption) (by assumption) (by assumption) | apply R.nx_or <;> assumption
theorem okF_runL {np nN : Nat} {fe : M S} {args : List S} {K : S → Prop} : OKF (runL np nN fe args) K ↔ args.length = np ∧ OK (fe (args.map some ++ List.replicate (nN - np) none)) fun s _ => K s := by
  first | exact R.okF_runL | skip
  all_goals (try simp only [okF_eq, ok_eq] at *)
  all_goals first | exact R.okF_runL | exact R.okF_runL (by assumption) | exact R.okF_runL (by assumption) (by assumption) | exact R.okF_runL (by assumption) (by assumption) (by assumption) | apply R.okF_runL <;> assumption
/-! loops by what they keep -/
theorem ok_loop {gm : D → M Unit} {F : M Fl} {I : Nat → En → Prop} {PF : Fl → En → Prop} : ∀ {items : List D} {k : Nat} {ρ : En}, I k ρ →
    (∀ i x ρ, items[i]? = some x → I (k + i) ρ → OK (gm x ρ) fun _ ρ1 => OK (F ρ1) fun f ρ2 => (f = .nx ∨ f = .ct → I (k + i + 1) ρ2) ∧ (f = .bk → PF .nx ρ2) ∧ ∀ s, f = .rt s → PF (.rt s) ρ2) →
    (∀ ρ, I (k + items.length) ρ → PF .nx ρ) → OK (mLoop gm F items ρ) PF := by
  first | exact R.ok_loop | skip
  all_goals (try simp only [okF_eq, ok_eq] at *)
  all_goals first | exact R.ok_loop | exact R.ok_loop (by assumption) | exact R.ok_loop (by assumption) (by assumption) | exact R.ok_loop (by assumption) (by assumption) (by assumption) | apply R.ok_loop <;> assumption
theorem ok_for {fI : M (List D)} {gm : D → M Unit} {F : M Fl} {PF : Fl → En → Prop} : OK (mFor fI gm F ρ) PF ↔ OK (fI ρ) fun items ρ1 => OK (mLoop gm F items ρ1) PF := by
  first | exact R.ok_for | skip
  all_goals (try simp only [okF_eq, ok_eq] at *)
  all_goals first | exact R.ok_for | exact R.ok_for (by assumption) | exact R.ok_for (by assumption) (by assumption) | exact R.ok_for (by assumption) (by assumption) (by assumption) | apply R.ok_for <;> assumption
theorem ok_comp {gm : D → M Unit} {ft : M Bool} {fe : M S} {own : List Nat} {I : Nat → List D → En → Prop} {PL : List D → En → Prop} : ∀ {items : List D} {k : Nat} {acc : List D} {ρ : En}, I k acc ρ →
    (∀ i x acc ρ, items[i]? = some x → I (k + i) acc ρ → OK (gm x ρ) fun _ ρ1 => OK (ft ρ1) fun b ρ2 => (b = true → OK (dv fe ρ2) fun y ρ3 => small (acc.length + 1) = true ∧ I (k + i + 1) (acc ++ [y]) (wipeE ρ3 own)) ∧ (¬b = true → I (k + i + 1) acc (wipeE ρ2 own))) →
    (∀ acc ρ, I (k + items.length) acc ρ → PL acc ρ) → OK (mComp gm ft fe own items acc ρ) PL := by
  first | exact R.ok_comp | skip
  all_goals (try simp only [okF_eq, ok_eq] at *)
  all_goals first | exact R.ok_comp | exact R.ok_comp (by assumption) | exact R.ok_comp (by assumption) (by assumption) | exact R.ok_comp (by assumption) (by assumption) (by assumption) | apply R.ok_comp <;> assumption
theorem ok_lc {fI : M (List D)} {gm : D → M Unit} {ft : M Bool} {fe : M S} {own : List Nat} : OK (mLc fI gm ft fe own ρ) P ↔ OK (fI ρ) fun items ρ1 => OK (mComp gm ft fe own items [] (wipeE ρ1 own)) fun ds ρ2 => P (.o none (.lst ds)) ρ2 := by
  first | exact R.ok_lc | skip
  all_goals (try simp only [okF_eq, ok_eq] at *)
  all_goals first | exact R.ok_lc | exact R.ok_lc (by assumption) | exact R.ok_lc (by assumption) (by assumption) | exact R.ok_lc (by assumption) (by assumption) (by assumption) | apply R.ok_lc <;> assumption
theorem ok_tup : OK (mTup fA ρ) P ↔ OK (fA ρ) fun ds ρ1 => small ds.length = true ∧ P (.d (.tup ds)) ρ1 := by
  first | exact R.ok_tup | skip
  all_goals (try simp only [okF_eq, ok_eq] at *)
  all_goals first | exact R.ok_tup | exact R.ok_tup (by assumption) | exact R.ok_tup (by assumption) (by assumption) | exact R.ok_tup (by assumption) (by assumption) (by assumption) | apply R.ok_tup <;> assumption
end
end Fx
/-! the checks and the draws, on data -/
namespace Fx
open PySem
namespace R
theorem ok_chain {g g' : D → D → Option S} {fa fb fc : M S} {ρ : En} {P : S → En → Prop} : OKr (mChain g g' fa fb fc ρ) P ↔ OKr (dv fa ρ) fun x ρ1 => OKr (dv fb ρ1) fun y ρ2 => ∃ b, g x y = some (.d (.bl b)) ∧ (b = true → OKr (dv fc ρ2) fun z ρ3 => ∃ s, g' y z = some s ∧ P s ρ3) ∧ (¬b = true → P (.d (.bl false)) ρ2) := by
  unfold mChain
  simp only [ok_then]
  constructor
  · exact fun h => h.imp fun x ρ1 h => h.imp fun y ρ2 h => by
      split at h
      · rename_i e
        refine ⟨true, e, fun _ => ?_, fun n => absurd rfl n⟩
        rw [ok_then] at h
        refine h.imp fun z ρ3 h => ?_
        cases e : g' y z with
        | none => rw [e] at h; exact h.elim
        | some s => rw [e] at h; exact ⟨s, rfl, h⟩
      · rename_i e
        exact ⟨false, e, fun n => (by cases n), fun _ => h⟩
      · exact h.elim
  · exact fun h => h.imp fun x ρ1 h => h.imp fun y ρ2 h => by
      obtain ⟨b, e, h1, h2⟩ := h
      rw [e]
      cases b with
      | true =>
        dsimp only
        rw [ok_then]
        refine (h1 rfl).imp fun z ρ3 h => ?_
        obtain ⟨s, e, k⟩ := h
        rw [e]
        exact k
      | false => exact h2 (by decide)
end R
theorem ok_chain {g g' : D → D → Option S} {fa fb fc : M S} {ρ : En} {P : S → En → Prop} : OK (mChain g g' fa fb fc ρ) P ↔ OK (dv fa ρ) fun x ρ1 => OK (dv fb ρ1) fun y ρ2 => ∃ b, g x y = some (.d (.bl b)) ∧ (b = true → OK (dv fc ρ2) fun z ρ3 => ∃ s, g' y z = some s ∧ P s ρ3) ∧ (¬b = true → P (.d (.bl false)) ρ2) := by
  simp only [ok_eq]
  exact R.ok_chain
theorem ex_some {α : Type} {a : α} {K : α → Prop} : (∃ s, some a = some s ∧ K s) ↔ K a := ⟨fun ⟨s, e, k⟩ => by cases e; exact k, fun k => ⟨a, rfl, k⟩⟩
theorem ex_bl1 {b : Bool} {K : Bool → Prop} : (∃ c, some (S.d (.bl b)) = some (S.d (.bl c)) ∧ K c) ↔ K b := ⟨fun ⟨s, e, k⟩ => by cases e; exact k, fun k => ⟨b, rfl, k⟩⟩
section
variable {k : Nat} {fe : M S} {items : List D} {ρ0 : En} {f : D → D} {PL : List D → En → Prop}
/-- a comprehension whose element is told of its item alone -/
theorem ok_map (hw : ρ0.set k none = ρ0) (st : ∀ x ∈ items, OK (dv fe (ρ0.set k (some (.d x)))) fun y ρ3 => y = f x ∧ ρ3.set k none = ρ0) (hs : items.length ≤ 16777216) (q : PL (items.map f) ρ0) : OK (mComp (gmName k) mYes fe [k] items [] ρ0) PL := by
  refine ok_comp (I := fun i acc ρ => acc = (items.take i).map f ∧ ρ = ρ0) (k := 0) ⟨rfl, rfl⟩ ?_ ?_
  · rintro i x acc ρ hx ⟨rfl, rfl⟩
    have hi : i < items.length := (List.getElem?_eq_some_iff.mp hx).1
    rw [ok_gname, ok_yes]
    refine ⟨fun _ => ?_, fun n => absurd rfl n⟩
    refine (st x (List.mem_of_getElem? hx)).imp fun y ρ3 ⟨e1, e2⟩ => ⟨?_, ?_, ?_⟩
    · rw [List.length_map, List.length_take, Nat.zero_add, Nat.min_eq_left (Nat.le_of_lt hi)]
      exact decide_eq_true (by omega)
    · rw [e1, Nat.zero_add, List.take_add_one, hx, List.map_append]
      rfl
    · exact e2
  · rintro acc ρ ⟨rfl, rfl⟩
    rw [Nat.zero_add, List.take_length]
    exact q
end
theorem blsD_map {α : Type} {g : α → Bool} : ∀ xs : List α, blsD (xs.map fun x => D.bl (g x)) = some (xs.map g)
  | [] => rfl
  | x :: xs => by
    show (blsD (xs.map fun x => D.bl (g x))).map (g x :: ·) = _
    rw [blsD_map xs]
    rfl
section
variable {x0 x1 x2 x3 : D}
theorem at1 : L2.atI [x0, x1, x2, x3] 1 = some x1 := rfl
theorem at2 : L2.atI [x0, x1, x2, x3] 2 = some x2 := rfl
end
/-- a law's row of draws -/
def rowD (ns : List Int) (a b c : Int) : D := .lst [.scr ns, .int a, .int b, .int c]
def RowOk (a b c : Int) : Prop := 0 ≤ a ∧ 0 ≤ b ∧ b < 2147483647 ∧ 0 ≤ c
section
variable {K : S → Prop} {i j : Int}
theorem e_add : (∃ s, gAdd (.int i) (.int j) = some s ∧ K s) ↔ K (.d (.int (i + j))) := ex_some
theorem e_sub : (∃ s, gMinus (.int i) (.int j) = some s ∧ K s) ↔ K (.d (.int (i - j))) := ex_some
theorem e_mul (h : i64 j = true) : (∃ s, gMul (.int i) (.int j) = some s ∧ K s) ↔ K (.d (.int (i * j))) := by
  have e : gMul (.int i) (.int j) = ok1 (.int (i * j)) := by
    show (if (i64 i || i64 j) = true then ok1 (.int (i * j)) else none) = _
    rw [if_pos (by rw [h, Bool.or_true])]
  rw [e]
  exact ex_some
theorem e_mod (h : 0 < j) : (∃ s, gMod (.int i) (.int j) = some s ∧ K s) ↔ K (.d (.int (i % j))) := by
  unfold gMod gIIc
  dsimp only
  rw [if_pos (decide_eq_true h)]
  exact ex_some
theorem e_div (h : 0 < j) (h2 : j < 1073741824) : (∃ s, gDiv (.int i) (.int j) = some s ∧ K s) ↔ K (.d (.int (i / j))) := by
  have e : gDiv (.int i) (.int j) = ok1 (.int (i / j)) := by
    show (if (decide (0 < j) && decide (j < 1073741824)) = true then ok1 (.int (i / j)) else none) = _
    rw [if_pos (by simp [h, h2])]
  rw [e]
  exact ex_some
theorem e_pow : (∃ s, gPow (.int 10) (.int 18) = some s ∧ K s) ↔ K (.d (.int 1000000000000000000)) := ex_some
theorem e_int : (∃ s, gInt1 [.int i] = some s ∧ K s) ↔ K (.d (.int i)) := ex_some
theorem e_lenS {ns : List Int} : (∃ s, gLen [.scr ns] = some s ∧ K s) ↔ K (.d (.int ns.length)) := ex_some
theorem e_lenT {ds : List D} : (∃ s, gLen [.tup ds] = some s ∧ K s) ↔ K (.d (.int ds.length)) := ex_some
theorem e_lenL {ds : List D} : (∃ s, gLen [.lst ds] = some s ∧ K s) ↔ K (.d (.int ds.length)) := ex_some
theorem at_nat {α : Type} {xs : List α} {i : Int} (h0 : 0 ≤ i) (h1 : i < xs.length) : ∃ x, L2.atI xs i = some x ∧ xs[i.toNat]? = some x := by
  have hj : i.toNat < xs.length := by omega
  refine ⟨xs[i.toNat], ?_, List.getElem?_eq_getElem hj⟩
  have := L2.atI_nat (xs := xs) (List.getElem?_eq_getElem hj)
  rwa [Int.toNat_of_nonneg h0] at this
theorem e_ixS {ns : List Int} (h0 : 0 ≤ i) (h1 : i < ns.length) : (∃ s, gIx (.scr ns) (.int i) = some s ∧ K s) ↔ K (.d (.int ((ns[i.toNat]?).getD 0))) := by
  obtain ⟨x, e1, e2⟩ := at_nat h0 h1
  show (∃ s, (L2.atI ns i).bind (fun n => ok1 (.int n)) = some s ∧ K s) ↔ _
  rw [e1, e2]
  exact ex_some
theorem e_ixT {ds : List D} (h0 : 0 ≤ i) (h1 : i < ds.length) : (∃ s, gIx (.tup ds) (.int i) = some s ∧ K s) ↔ K (.d ((ds[i.toNat]?).getD .non)) := by
  obtain ⟨x, e1, e2⟩ := at_nat h0 h1
  show (∃ s, (L2.atI ds i).bind ok1 = some s ∧ K s) ↔ _
  rw [e1, e2]
  exact ex_some
theorem e_lt : (∃ s, gLt (.int i) (.int j) = some s ∧ K s) ↔ K (.d (.bl (decide (i < j)))) := ex_some
theorem e_le : (∃ s, gLe (.int i) (.int j) = some s ∧ K s) ↔ K (.d (.bl (decide (i ≤ j)))) := ex_some
theorem e_gt : (∃ s, gGt (.int i) (.int j) = some s ∧ K s) ↔ K (.d (.bl (decide (j < i)))) := ex_some
theorem e_ge : (∃ s, gGe (.int i) (.int j) = some s ∧ K s) ↔ K (.d (.bl (decide (j ≤ i)))) := ex_some
theorem e_leC {K : Bool → Prop} : (∃ b, gLe (.int i) (.int j) = some (S.d (.bl b)) ∧ K b) ↔ K (decide (i ≤ j)) := ex_bl1
theorem e_ltC {K : Bool → Prop} : (∃ b, gLt (.int i) (.int j) = some (S.d (.bl b)) ∧ K b) ↔ K (decide (i < j)) := ex_bl1
theorem e_isN {x : D} : (∃ s, gIsN x .non = some s ∧ K s) ↔ K (.d (.bl (isN x))) := ex_some
theorem e_notN {x : D} : (∃ s, gNotN x .non = some s ∧ K s) ↔ K (.d (.bl (!isN x))) := ex_some
end
section
variable {ns : List Int} {a b c : Int} {o : Option Nat} {P : S → En → Prop} {ρ : En}
theorem ok_row1 : OK (mIxO 0 (mC (.int 1)) (some (.o o (rowD ns a b c)) :: ρ)) P ↔ P (.d (.int a)) (some (.o o (rowD ns a b c)) :: ρ) := by
  rw [ok_eq]
  exact Iff.rfl
theorem ok_row2 : OK (mIxO 0 (mC (.int 2)) (some (.o o (rowD ns a b c)) :: ρ)) P ↔ P (.d (.int b)) (some (.o o (rowD ns a b c)) :: ρ) := by
  rw [ok_eq]
  exact Iff.rfl
theorem ok_row3 : OK (mIxO 0 (mC (.int 3)) (some (.o o (rowD ns a b c)) :: ρ)) P ↔ P (.d (.int c)) (some (.o o (rowD ns a b c)) :: ρ) := by
  rw [ok_eq]
  exact Iff.rfl
theorem ok_row0 : OK (mIxO 0 (mC (.int 0)) (some (.o o (rowD ns a b c)) :: ρ)) P ↔ P (.d (.scr ns)) (some (.o o (rowD ns a b c)) :: ρ) := by
  rw [ok_eq]
  exact Iff.rfl
variable {PU : Unit → En → Prop} {x : Int}
theorem ok_put1 : OK (gmItem 0 (mC (.int 1)) (.int x) (some (.o o (rowD ns a b c)) :: ρ)) PU ↔ PU () (some (.o o (rowD ns x b c)) :: ρ) := by
  rw [ok_eq]
  exact Iff.rfl
theorem ok_put2 : OK (gmItem 0 (mC (.int 2)) (.int x) (some (.o o (rowD ns a b c)) :: ρ)) PU ↔ PU () (some (.o o (rowD ns a x c)) :: ρ) := by
  rw [ok_eq]
  exact Iff.rfl
theorem ok_put3 : OK (gmItem 0 (mC (.int 3)) (.int x) (some (.o o (rowD ns a b c)) :: ρ)) PU ↔ PU () (some (.o o (rowD ns a b x)) :: ρ) := by
  rw [ok_eq]
  exact Iff.rfl
end
local macro_rules | `(tactic| walk_at "wp") => `(tactic| simp only [okF_runF, okF_runL, ok_seq, ok_ret, ok_retN, ok_andV, ok_orV, ok_notV, ok_cb, ok_cons, ok_nil, ok_test, ok_dv, ok_op, ok_un, ok_c, ok_if, ok_ifS, ok_and, ok_or, ok_not, ok_asg, ok_gname, ok_drop, ok_call, ok_chain, ok_nx, ok_bk, ok_ct, ok_st, ok_yes, ok_for, ok_lc, ok_tup, ok_ok, ok_stuck, ex_toD, ex_toL, ex_bl, ex_some, ex_bl1, fl_nx, fl_rt, fl_bk, fl_ct, rt_or, nx_or, mVar, ok1, gIsi, isTy, Option.bind, bare, e_add, e_sub, e_int, e_lenS, e_lenT, e_lenL, e_lt, e_le, e_gt, e_ge, e_leC, e_ltC, e_isN, e_notN, e_pow,
  List.map_cons, List.map_nil, List.length_cons, List.length_nil, List.replicate_succ, List.replicate_zero, List.cons_append, List.nil_append, List.append_nil, List.getElem?_cons_zero, List.getElem?_cons_succ, List.set_cons_zero, List.set_cons_succ, Nat.reduceAdd, Nat.reduceSub, true_and, and_true, Bool.not_true, Bool.not_false, true_implies, forall_const, not_true_eq_false, false_implies, Bool.false_eq_true, not_false_eq_true, implies_true, eq_self, ne_eq, reduceCtorEq, Fl.rt.injEq, S.d.injEq, D.int.injEq, false_and, exists_false, or_false, false_or, exists_eq_left'])
local macro_rules | `(tactic| walk_at "wt") => `(tactic| simp (config := { contextual := false }) only [ok_row0, ok_row1, ok_row2, ok_row3, ok_put1, ok_put2, ok_put3, e_mod, e_div, e_mul, e_ixS, decide_true, decide_false, *, okF_runF, okF_runL, ok_seq, ok_ret, ok_retN, ok_andV, ok_orV, ok_notV, ok_cb, ok_cons, ok_nil, ok_test, ok_dv, ok_op, ok_un, ok_c, ok_if, ok_ifS, ok_and, ok_or, ok_not, ok_asg, ok_gname, ok_drop, ok_call, ok_chain, ok_nx, ok_bk, ok_ct, ok_st, ok_yes, ok_for, ok_lc, ok_tup, ok_ok, ok_stuck, ex_toD, ex_toL, ex_bl, ex_some, ex_bl1, fl_nx, fl_rt, fl_bk, fl_ct, rt_or, nx_or, mVar, ok1, gIsi, isTy, Option.bind, bare, e_add, e_sub, e_int, e_lenS, e_lenT, e_lenL, e_lt, e_le, e_gt, e_ge, e_leC, e_ltC, e_isN, e_notN, e_pow,
  List.map_cons, List.map_nil, List.length_cons, List.length_nil, List.replicate_succ, List.replicate_zero, List.cons_append, List.nil_append, List.append_nil, List.getElem?_cons_zero, List.getElem?_cons_succ, List.set_cons_zero, List.set_cons_succ, Nat.reduceAdd, Nat.reduceSub, true_and, and_true, Bool.not_true, Bool.not_false, true_implies, forall_const, not_true_eq_false, false_implies, Bool.false_eq_true, not_false_eq_true, implies_true, eq_self, ne_eq, reduceCtorEq, Fl.rt.injEq, S.d.injEq, D.int.injEq, false_and, exists_false, or_false, false_or, exists_eq_left'])
namespace Lib
def b_is_number : M Fl := (mRet (mAndV (mCB gIsi (aCons (mVar 0) (aCons (mC (.ty "int")) aNil))) (mAndV (mNotV (mCB gIsi (aCons (mVar 0) (aCons (mC (.ty "bool")) aNil)))) (mChain gLe gLe (mVar 1) (mVar 0) (mVar 2)))))
def f_is_number : Fn := runF 3 3 b_is_number
def oD : Option Int → D
  | none => .non
  | some i => .int i
def numB (lo hi : Int) : Option Int → Bool
  | none => false
  | some i => decide (lo ≤ i) && decide (i ≤ hi)
theorem num {o : Option Int} {lo hi : Int} {K : S → Prop} : OKF (f_is_number [.d (oD o), .d (.int lo), .d (.int hi)]) K ↔ K (.d (.bl (numB lo hi o))) := by
  cases o with
  | none =>
    unfold f_is_number b_is_number oD numB
    walk_at "wp"
  | some i =>
    unfold f_is_number b_is_number oD numB
    walk_at "wp"
    by_cases h : lo ≤ i <;> simp [h]
def b_is_tuple : M Fl := (mRet (mAndV (mCB gIsi (aCons (mVar 0) (aCons (mC (.ty "tuple")) aNil))) (mChain gLe gLe (mVar 1) (mCB gLen (aCons (mVar 0) aNil)) (mVar 2))))
def f_is_tuple : Fn := runF 3 3 b_is_tuple
theorem tup {ds : List D} {lo hi : Int} {K : S → Prop} : OKF (f_is_tuple [.d (.tup ds), .d (.int lo), .d (.int hi)]) K ↔ K (.d (.bl (decide (lo ≤ ds.length) && decide ((ds.length : Int) ≤ hi)))) := by
  unfold f_is_tuple b_is_tuple
  walk_at "wp"
  by_cases h : lo ≤ ds.length <;> simp [h]
def b_are_numbers : M Fl := (mRet (mAndV (mCB gIsi (aCons (mVar 0) (aCons (mC (.ty "tuple")) aNil))) (mCB gAll (aCons (mLc (iSeq (mVar 0)) (gmName 3) mYes (mCall f_is_number (aCons (mVar 3) (aCons (mVar 1) (aCons (mVar 2) aNil)))) [3]) aNil))))
def f_are_numbers : Fn := runF 3 4 b_are_numbers
theorem nums {os : List (Option Int)} {lo hi : Int} {K : S → Prop} (hl : os.length ≤ 16777216) (h : K (.d (.bl (os.all (numB lo hi))))) : OKF (f_are_numbers [.d (.tup (os.map oD)), .d (.int lo), .d (.int hi)]) K := by
  unfold f_are_numbers b_are_numbers
  walk_at "wp"
  simp only [iSeq, ok_then, ok_dv, ok_var]
  walk_at "wp"
  simp only [itemsD, ok_ok, wipeE]
  walk_at "wp"
  refine ok_map (f := fun x => .bl (match x with | .int i => decide (lo ≤ i) && decide (i ≤ hi) | _ => false)) rfl ?_ (by rw [List.length_map]; exact hl) ?_
  · intro x hx
    obtain ⟨o, _, rfl⟩ := List.mem_map.mp hx
    walk_at "wp"
    rw [num]
    walk_at "wp"
    cases o <;> rfl
  · refine ⟨_, ?_, h⟩
    show (blsD _).bind _ = _
    have e : List.map (fun x => D.bl (match x with | D.int i => decide (lo ≤ i) && decide (i ≤ hi) | x => false)) (List.map oD os) = os.map fun o => D.bl (numB lo hi o) := by
      rw [List.map_map]
      refine List.map_congr_left fun o _ => ?_
      cases o <;> rfl
    rw [e, blsD_map, Option.bind_some, List.all_map]
    rfl
def b_law_taken : M Fl := (mSeq (mIfS (mTest (mOp gGt (mIxO 0 (mC (.int 3))) (mC (.int 0)))) (mSeq (mAsg (mOp gMod (mCB gInt1 (aCons (mIxO 0 (mC (.int 3))) aNil)) (mVar 1)) (gmName 2))
    (mSeq (mAsg (mOp gDiv (mIxO 0 (mC (.int 3))) (mVar 1)) (gmItem 0 (mC (.int 3))))
    (mRet (mVar 2)))) mNx)
    (mSeq (mAsg (mOp gAdd (mIxO 0 (mC (.int 1))) (mC (.int 1))) (gmItem 0 (mC (.int 1))))
    (mSeq (mIfS (mTest (mOp gGt (mIxO 0 (mC (.int 1))) (mCB gLen (aCons (mIxO 0 (mC (.int 0))) aNil)))) (mSeq (mAsg (mOp gMod (mCB gInt1 (aCons (mOp gAdd (mOp gMul (mIxO 0 (mC (.int 2))) (mC (.int 48271))) (mC (.int 11))) aNil)) (mC (.int 2147483647))) (gmItem 0 (mC (.int 2))))
    (mRet (mOp gMod (mCB gInt1 (aCons (mOp gDiv (mIxO 0 (mC (.int 2))) (mC (.int 7))) aNil)) (mVar 1)))) mNx)
    (mSeq (mAsg (mOp gIx (mIxO 0 (mC (.int 0))) (mOp gMinus (mIxO 0 (mC (.int 1))) (mC (.int 1)))) (gmName 3))
    (mSeq (mAsg (mOp gMod (mCB gInt1 (aCons (mOp gAdd (mOp gAdd (mOp gMul (mIxO 0 (mC (.int 2))) (mC (.int 48271))) (mVar 3)) (mC (.int 11))) aNil)) (mC (.int 2147483647))) (gmItem 0 (mC (.int 2))))
    (mSeq (mIfS (mTest (mOp gGe (mVar 3) (mOp gPow (mC (.int 10)) (mC (.int 18))))) (mAsg (mOp gDiv (mVar 3) (mVar 1)) (gmItem 0 (mC (.int 3)))) mNx)
    (mRet (mOp gMod (mCB gInt1 (aCons (mVar 3) aNil)) (mVar 1)))))))))
def f_law_taken : Fn := runF 2 4 b_law_taken
theorem taken {ns : List Int} {a b c m : Int} (h : RowOk a b c) (h1 : 0 < m) (h2 : m < 1073741824) : OK (f_law_taken [.o (some 0) (rowD ns a b c), .d (.int m)]) fun s ρ => ∃ k a' b' c', s = .d (.int k) ∧ 0 ≤ k ∧ k < m ∧ RowOk a' b' c' ∧ ∃ ρ', ρ = some (.o (some 0) (rowD ns a' b' c')) :: ρ' := by
  obtain ⟨ha, hb, hb2, hc⟩ := h
  have key : OK (b_law_taken [some (.o (some 0) (rowD ns a b c)), some (.d (.int m)), none, none]) fun f ρ => ∃ k a' b' c', f = .rt (.d (.int k)) ∧ 0 ≤ k ∧ k < m ∧ RowOk a' b' c' ∧ ∃ ρ', ρ = some (.o (some 0) (rowD ns a' b' c')) :: ρ' := by
    unfold b_law_taken
    by_cases c0 : 0 < c
    · walk_at "wt"
      refine ⟨c % m, a, b, c / m, rfl, Int.emod_nonneg _ (by omega), Int.emod_lt_of_pos _ h1, ⟨ha, hb, hb2, Int.ediv_nonneg hc (Int.le_of_lt h1)⟩, _, rfl⟩
    · have q1 : i64 48271 = true := rfl
      have q2 : (0 : Int) < 2147483647 := by decide
      have q3 : (0 : Int) < 7 := by decide
      have q4 : (7 : Int) < 1073741824 := by decide
      by_cases c1 : (ns.length : Int) < a + 1
      · walk_at "wt"
        have hm := Int.emod_nonneg ((b * 48271 + 11) % 2147483647 / 7) (show m ≠ 0 by omega)
        have hl := Int.emod_lt_of_pos ((b * 48271 + 11) % 2147483647 / 7) h1
        have hb3 := Int.emod_nonneg (b * 48271 + 11) (show (2147483647 : Int) ≠ 0 by decide)
        have hb4 := Int.emod_lt_of_pos (b * 48271 + 11) q2
        exact ⟨_, _, _, _, rfl, hm, hl, ⟨by omega, hb3, hb4, hc⟩, _, rfl⟩
      · have q5 : 0 ≤ a + 1 - 1 := by omega
        have q6 : a + 1 - 1 < (ns.length : Int) := by omega
        by_cases c2 : 1000000000000000000 ≤ (ns[(a + 1 - 1).toNat]?).getD 0
        · walk_at "wt"
          have hm := Int.emod_nonneg ((ns[(a + 1 - 1).toNat]?).getD 0) (show m ≠ 0 by omega)
          have hl := Int.emod_lt_of_pos ((ns[(a + 1 - 1).toNat]?).getD 0) h1
          have hb3 := Int.emod_nonneg (b * 48271 + (ns[(a + 1 - 1).toNat]?).getD 0 + 11) (show (2147483647 : Int) ≠ 0 by decide)
          have hb4 := Int.emod_lt_of_pos (b * 48271 + (ns[(a + 1 - 1).toNat]?).getD 0 + 11) q2
          exact ⟨_, _, _, _, rfl, hm, hl, ⟨by omega, hb3, hb4, Int.ediv_nonneg (by omega) (Int.le_of_lt h1)⟩, _, rfl⟩
        · walk_at "wt"
          have hm := Int.emod_nonneg ((ns[(a + 1 - 1).toNat]?).getD 0) (show m ≠ 0 by omega)
          have hl := Int.emod_lt_of_pos ((ns[(a + 1 - 1).toNat]?).getD 0) h1
          have hb3 := Int.emod_nonneg (b * 48271 + (ns[(a + 1 - 1).toNat]?).getD 0 + 11) (show (2147483647 : Int) ≠ 0 by decide)
          have hb4 := Int.emod_lt_of_pos (b * 48271 + (ns[(a + 1 - 1).toNat]?).getD 0 + 11) q2
          exact ⟨_, _, _, _, rfl, hm, hl, ⟨by omega, hb3, hb4, hc⟩, _, rfl⟩
  refine ok_runF rfl (key.imp fun f ρ h => ?_)
  obtain ⟨k, a', b', c', rfl, h⟩ := h
  exact .inl ⟨_, rfl, k, a', b', c', rfl, h⟩
end Lib
end Fx
/-! draws within a def, comprehensions that draw -/
namespace Fx
open PySem
def rowS (o : Option Nat) (ns : List Int) (a b c : Int) : Option S := some (.o o (rowD ns a b c))
theorem ok_callO {F : Fn} {i j : Nat} {fA : M (List D)} {ρ : En} {P : S → En → Prop} (h : OK (fA ρ) fun ds ρ1 => ∃ b x, ρ1[i]? = some (some (.o b x)) ∧ j ≤ ds.length ∧ OK (F ((ds.take j).map .d ++ .o (some j) x :: (ds.drop j).map .d)) fun s ρ' => ∃ y, ρ'[j]? = some (some (.o (some j) y)) ∧ bare s = true ∧ P s (ρ1.set i (some (.o b y)))) : OK (mCallO F i j fA ρ) P := by
  unfold mCallO
  rw [ok_then]
  refine h.imp fun ds ρ1 ⟨b, x, e, hj, k⟩ => ?_
  rw [e]
  dsimp only
  rw [if_pos hj]
  obtain ⟨s, ρ', e2, y, e3, hb, k⟩ := k.at
  rw [e2]
  dsimp only
  rw [e3]
  dsimp only
  rw [if_pos ⟨rfl, hb⟩, ok_ok]
  exact k
theorem ok_own {i : Nat} {fr : M (List D)} {ρ : En} {P : List D → En → Prop} : OK (aOwn i fr ρ) P ↔ isOwn ρ i = true ∧ OK (fr ρ) P := by
  unfold aOwn
  rw [ok_ite]
  exact ⟨fun h => by
    by_cases ho : isOwn ρ i = true
    · exact ⟨ho, h.1 ho⟩
    · exact (ok_stuck.mp (h.2 ho)).elim, fun h => ⟨fun _ => h.2, fun n => absurd h.1 n⟩⟩
section
variable {r k : Nat} {o : Option Nat} {ns : List Int} {ρ : En} {P : S → En → Prop} {fm fe : M S} {m : Int}
theorem own_row {a b c : Int} (e : ρ[r]? = some (rowS o ns a b c)) : isOwn ρ r = true := by
  unfold isOwn
  rw [e]
  rfl
/-- a draw of m ways -/
theorem ok_taken {a b c : Int} (e : ρ[r]? = some (rowS o ns a b c)) (hr : RowOk a b c) (hm : OK (dv fm ρ) fun x ρ1 => x = .int m ∧ ρ1 = ρ) (h1 : 0 < m) (h2 : m < 1073741824)
    (q : ∀ v a b c, 0 ≤ v → v < m → RowOk a b c → P (.d (.int v)) (ρ.set r (rowS o ns a b c))) : OK (mCallO Lib.f_law_taken r 0 (aOwn r (aCons fm aNil)) ρ) P := by
  refine ok_callO (ok_own.mpr ⟨own_row e, ?_⟩)
  rw [ok_cons]
  refine hm.imp fun x ρ1 ⟨e1, e2⟩ => ?_
  subst e1
  subst e2
  rw [ok_nil]
  refine ⟨o, rowD ns a b c, e, Nat.zero_le _, (Lib.taken hr h1 h2).imp fun s ρ' h => ?_⟩
  obtain ⟨v, a', b', c', rfl, v0, v1, hr', ρ2, rfl⟩ := h
  exact ⟨rowD ns a' b' c', rfl, rfl, q v a' b' c' v0 v1 hr'⟩
variable {items : List D} {PL : List D → En → Prop}
/-- a comprehension that draws -/
theorem ok_compR {a b c : Int} (Good : Nat → D → Prop) (e : ρ[r]? = some (rowS o ns a b c)) (hr : RowOk a b c) (hw : ρ.set k none = ρ) (hkr : k ≠ r)
    (st : ∀ i x a b c ρ', items[i]? = some x → RowOk a b c → ρ' = (ρ.set r (rowS o ns a b c)).set k (some (.d x)) → ρ'[r]? = some (rowS o ns a b c) → OK (dv fe ρ') fun y ρ3 => Good i y ∧ ∃ a' b' c', RowOk a' b' c' ∧ ρ3 = ρ'.set r (rowS o ns a' b' c'))
    (hs : items.length ≤ 16777216) (q : ∀ ys a b c, ys.length = items.length → (∀ i y, ys[i]? = some y → Good i y) → RowOk a b c → PL ys (ρ.set r (rowS o ns a b c))) : OK (mComp (gmName k) mYes fe [k] items [] ρ) PL := by
  have hrl : r < ρ.length := (List.getElem?_eq_some_iff.mp e).1
  refine ok_comp (I := fun i acc ρ' => acc.length = i ∧ i ≤ items.length ∧ (∀ j y, acc[j]? = some y → Good j y) ∧ ∃ a b c, RowOk a b c ∧ ρ' = ρ.set r (rowS o ns a b c)) (k := 0) ⟨rfl, Nat.zero_le _, fun j y h => by simp at h, a, b, c, hr, ?_⟩ ?_ ?_
  · have := List.set_getElem_self hrl
    have e2 : ρ[r] = rowS o ns a b c := by
      rw [List.getElem?_eq_getElem hrl] at e
      exact Option.some.inj e
    rw [e2] at this
    exact this.symm
  · rintro i x acc ρ' hx ⟨hl, hle, hg, a, b, c, hr, rfl⟩
    have hi : i < items.length := (List.getElem?_eq_some_iff.mp hx).1
    rw [ok_gname, ok_yes]
    refine ⟨fun _ => ?_, fun n => absurd rfl n⟩
    have er : ((ρ.set r (rowS o ns a b c)).set k (some (.d x)))[r]? = some (rowS o ns a b c) := by
      rw [List.getElem?_set_ne hkr, List.getElem?_set_self hrl]
    refine (st i x a b c _ hx hr rfl er).imp fun y ρ3 ⟨hy, a', b', c', hr', e3⟩ => ⟨?_, ?_, ?_, ?_, a', b', c', hr', ?_⟩
    · exact decide_eq_true (by omega)
    · rw [List.length_append, hl]
      rfl
    · omega
    · intro j z hz
      by_cases hj : j < acc.length
      · rw [List.getElem?_append_left hj] at hz
        exact hg j z hz
      · rw [List.getElem?_append_right (by omega)] at hz
        have : j - acc.length = 0 := by
          have := (List.getElem?_eq_some_iff.mp hz).1
          simp at this
          omega
        rw [this] at hz
        cases hz
        have : j = i := by omega
        rw [this]
        exact hy
    · subst e3
      show (List.set _ r _).set k none = _
      rw [List.set_comm _ _ (Ne.symm hkr), List.set_set, List.set_comm _ _ hkr.symm, hw, List.set_set]
  · rintro acc ρ' ⟨hl, _, hg, a, b, c, hr, rfl⟩
    exact q acc a b c (by omega) hg hr
end
end Fx
/-! algebras: drawn, made, on data -/
namespace Fx
open PySem
theorem ok_psNil {ρ : En} {P : List S → En → Prop} : OK (psNil ρ) P ↔ P [] ρ := by
  rw [ok_eq]
  exact Iff.rfl
theorem ok_psCons {fa : M S} {fr : M (List S)} {ρ : En} {P : List S → En → Prop} : OK (psCons fa fr ρ) P ↔ OK (fa ρ) fun s ρ1 => OK (fr ρ1) fun ss ρ2 => P (s :: ss) ρ2 := by
  unfold psCons
  simp only [ok_then, ok_ok]
theorem ok_par3 {i j k : Nat} {oi oj ok : Bool} {fP : M (List S)} {ρ : En} {PF : Fl → En → Prop} (h : OK (fP ρ) fun ss ρ1 => ∃ s t u s' t' u', ss = [s, t, u] ∧ stS oi s = some s' ∧ stS oj t = some t' ∧ stS ok u = some u' ∧ PF .nx (((ρ1.set k (some u')).set j (some t')).set i (some s'))) : OK (mPar3 i oi j oj k ok fP ρ) PF := by
  unfold mPar3
  rw [ok_then]
  refine h.imp fun ss ρ1 ⟨s, t, u, s', t', u', e, e1, e2, e3, q⟩ => ?_
  subst e
  dsimp only
  rw [e1, e2, e3]
  exact ok_of q
theorem ok_par2 {i j : Nat} {oi oj : Bool} {fP : M (List S)} {ρ : En} {PF : Fl → En → Prop} (h : OK (fP ρ) fun ss ρ1 => ∃ s t s' t', ss = [s, t] ∧ stS oi s = some s' ∧ stS oj t = some t' ∧ PF .nx ((ρ1.set j (some t')).set i (some s'))) : OK (mPar2 i oi j oj fP ρ) PF := by
  unfold mPar2
  rw [ok_then]
  refine h.imp fun ss ρ1 ⟨s, t, s', t', e, e1, e2, q⟩ => ?_
  subst e
  dsimp only
  rw [e1, e2]
  exact ok_of q
theorem ok_range1e {fA : M (List D)} {ρ : En} {P : List D → En → Prop} (h : OK (fA ρ) fun ds ρ1 => ∃ n, ds = [.int n] ∧ -4611686018427387904 ≤ n ∧ n < 4611686018427387904 ∧ P (intsFrom 0 n.toNat) ρ1) : OK (iRange1 fA ρ) P := by
  unfold iRange1
  rw [ok_then]
  refine h.imp fun ds ρ1 ⟨n, e, h1, h2, q⟩ => ?_
  subst e
  dsimp only
  rw [if_pos (by unfold rOk; simp [h1, h2])]
  exact ok_of q
theorem intsD_get {ys : List D} {Good : Int → Prop} (h : ∀ (i : Nat) y, ys[i]? = some y → ∃ v, y = .int v ∧ Good v) : ∃ vs : List Int, ys = vs.map D.int ∧ vs.length = ys.length ∧ ∀ v ∈ vs, Good v := by
  induction ys with
  | nil => exact ⟨[], rfl, rfl, fun v hv => by cases hv⟩
  | cons y ys ih =>
    obtain ⟨v, rfl, hv⟩ := h 0 y rfl
    obtain ⟨vs, rfl, hl, hg⟩ := ih fun i y hy => h (i + 1) y (by simpa using hy)
    refine ⟨v :: vs, rfl, by simp, fun w hw => ?_⟩
    rcases List.mem_cons.mp hw with rfl | hw
    · exact hv
    · exact hg w hw
theorem ok_seqI {F G : M Fl} {ρ : En} {PF : Fl → En → Prop} (I : En → Prop) (h : OK (F ρ) fun f ρ1 => f = .nx ∧ I ρ1) (k : ∀ ρ1, I ρ1 → OK (G ρ1) PF) : OK (mSeq F G ρ) PF := by
  rw [ok_seq]
  exact h.imp fun f ρ1 ⟨e, hi⟩ => ⟨fun _ => k ρ1 hi, fun n => absurd e n⟩
theorem ok_asgO {i : Nat} {fa : M S} {ρ : En} {PF : Fl → En → Prop} : OK (mAsgO i fa ρ) PF ↔ OK (fa ρ) fun s ρ1 => (∃ x, s = .o none x ∧ PF .nx (ρ1.set i (some (.o none x)))) ∨ ∃ x, s = .d x ∧ PF .nx (ρ1.set i (some (.d x))) := by
  unfold mAsgO
  rw [ok_then]
  refine ⟨fun h => h.imp fun s ρ1 h => ?_, fun h => h.imp fun s ρ1 h => ?_⟩
  · split at h
    · exact .inl ⟨_, rfl, ok_out h⟩
    · exact .inr ⟨_, rfl, ok_out h⟩
    · exact (ok_out h).elim
  · rcases h with ⟨x, rfl, h⟩ | ⟨x, rfl, h⟩
    · exact ok_of h
    · exact ok_of h
theorem ok_lst {fA : M (List D)} {ρ : En} {P : S → En → Prop} : OK (mLst fA ρ) P ↔ OK (fA ρ) fun ds ρ1 => small ds.length = true ∧ P (.o none (.lst ds)) ρ1 := by
  unfold mLst
  rw [ok_then]
  refine ⟨fun h => h.imp fun ds ρ1 h => ?_, fun h => h.imp fun ds ρ1 h => ?_⟩
  · by_cases hz : small ds.length = true
    · rw [if_pos hz] at h
      exact ⟨hz, ok_out h⟩
    · rw [if_neg hz] at h
      exact (ok_out h).elim
  · rw [if_pos h.1]
    exact ok_of h.2
theorem ok_app {i : Nat} {fe : M S} {ρ : En} {P : S → En → Prop} {o : Option Nat} {ds : List D} (e : ρ[i]? = some (some (.o o (.lst ds)))) (h : OK (dv fe ρ) fun y ρ1 => ρ1[i]? = some (some (.o o (.lst ds))) ∧ small (ds.length + 1) = true ∧ P (.d .non) (ρ1.set i (some (.o o (.lst (ds ++ [y])))))) : OK (mMeth1 i gApp fe ρ) P := by
  unfold mMeth1
  have ho : ownL ρ i = true := by
    unfold ownL
    rw [e]
  rw [if_pos ho, ok_then]
  refine h.imp fun y ρ1 ⟨e1, hz, q⟩ => ?_
  rw [e1]
  dsimp only
  have e2 : gApp ds y = some (.non, ds ++ [y]) := if_pos hz
  rw [e2]
  exact ok_of q
theorem intsFrom_at {n i : Nat} {x : D} (h : (intsFrom 0 n)[i]? = some x) : x = .int i ∧ i < n := by
  have hi := (List.getElem?_eq_some_iff.mp h).1
  rw [intsFrom_length] at hi
  rw [intsFrom_get n 0 i hi] at h
  cases h
  exact ⟨by simp, hi⟩
theorem ok_iseq {f : M S} {ρ : En} {P : List D → En → Prop} : OK (iSeq f ρ) P ↔ OK (dv f ρ) fun x ρ1 => ∃ ds, itemsD x = some ds ∧ P ds ρ1 := by
  unfold iSeq
  rw [ok_then]
  refine ⟨fun h => h.imp fun x ρ1 h => ?_, fun h => h.imp fun x ρ1 h => ?_⟩
  · cases e : itemsD x with
    | none => rw [e] at h; exact (ok_out h).elim
    | some ds => rw [e] at h; exact ⟨ds, rfl, ok_out h⟩
  · obtain ⟨ds, e, h⟩ := h
    rw [e]
    exact ok_of h
theorem ok_sl {fe : M S} {fl fh : M (Option Int)} {ρ : En} {P : S → En → Prop} (h : OK (dv fe ρ) fun x ρ1 => OK (fl ρ1) fun lo ρ2 => OK (fh ρ2) fun hi ρ3 => ∃ s, gSl x lo hi = some s ∧ P s ρ3) : OK (mSl fe fl fh ρ) P := by
  unfold mSl
  simp only [ok_then]
  refine h.imp fun x ρ1 h => h.imp fun lo ρ2 h => h.imp fun hi ρ3 ⟨s, e, h⟩ => ?_
  rw [e]
  exact ok_of h
theorem ok_onone {ρ : En} {P : Option Int → En → Prop} : OK (oNone ρ) P ↔ P none ρ := by
  rw [ok_eq]
  exact Iff.rfl
theorem ok_osome {f : M S} {ρ : En} {P : Option Int → En → Prop} (h : OK (dv f ρ) fun x ρ1 => ∃ i, x = .int i ∧ P (some i) ρ1) : OK (oSome f ρ) P := by
  unfold oSome
  rw [ok_then]
  refine h.imp fun x ρ1 ⟨i, e, h⟩ => ?_
  subst e
  exact ok_of h
theorem cutD_to {xs : List D} {k : Int} (h : 0 ≤ k) : cutD xs none (some k) = xs.take k.toNat := by
  unfold cutD
  have e : HT.sIx xs.length xs.length (some k) = min k.toNat xs.length := by
    show (if k < 0 then _ else min k.toNat xs.length) = _
    rw [if_neg (by omega)]
  rw [e]
  show (xs.drop 0).take (min k.toNat xs.length - 0) = _
  rw [List.drop_zero, Nat.sub_zero]
  by_cases hk : k.toNat ≤ xs.length
  · rw [Nat.min_eq_left hk]
  · rw [Nat.min_eq_right (by omega), List.take_length, List.take_of_length_le (by omega)]
local macro_rules | `(tactic| walk_at "wp") => `(tactic| simp only [okF_runF, okF_runL, ok_seq, ok_ret, ok_retN, ok_andV, ok_orV, ok_notV, ok_cb, ok_cons, ok_nil, ok_test, ok_dv, ok_op, ok_un, ok_c, ok_if, ok_ifS, ok_and, ok_or, ok_not, ok_asg, ok_gname, ok_drop, ok_call, ok_chain, ok_nx, ok_bk, ok_ct, ok_st, ok_yes, ok_tup, ok_ok, ok_stuck, ex_toD, ex_toL, ex_bl, ex_some, ex_bl1, fl_nx, fl_rt, fl_bk, fl_ct, rt_or, nx_or, mVar, ok1, gIsi, mIsi2, gIsi2, isTy2, isTy, Option.bind, bare, e_add, e_sub, e_int, e_lenS, e_lenT, e_lenL, e_lt, e_le, e_gt, e_ge, e_leC, e_ltC, e_isN, e_notN, e_pow,
  List.map_cons, List.map_nil, List.length_cons, List.length_nil, List.replicate_succ, List.replicate_zero, List.cons_append, List.nil_append, List.append_nil, List.getElem?_cons_zero, List.getElem?_cons_succ, List.set_cons_zero, List.set_cons_succ, Nat.reduceAdd, Nat.reduceSub, true_and, and_true, Bool.not_true, Bool.not_false, true_implies, forall_const, not_true_eq_false, false_implies, Bool.false_eq_true, not_false_eq_true, implies_true, eq_self, ne_eq, reduceCtorEq, Fl.rt.injEq, S.d.injEq, D.int.injEq, false_and, exists_false, or_false, false_or, exists_eq_left'])
local macro_rules | `(tactic| walk_at "wt") => `(tactic| simp (config := { contextual := false }) only [ok_row0, ok_row1, ok_row2, ok_row3, ok_put1, ok_put2, ok_put3, e_mod, e_div, e_mul, e_ixS, decide_true, decide_false, *, okF_runF, okF_runL, ok_seq, ok_ret, ok_retN, ok_andV, ok_orV, ok_notV, ok_cb, ok_cons, ok_nil, ok_test, ok_dv, ok_op, ok_un, ok_c, ok_if, ok_ifS, ok_and, ok_or, ok_not, ok_asg, ok_gname, ok_drop, ok_call, ok_chain, ok_nx, ok_bk, ok_ct, ok_st, ok_yes, ok_tup, ok_ok, ok_stuck, ex_toD, ex_toL, ex_bl, ex_some, ex_bl1, fl_nx, fl_rt, fl_bk, fl_ct, rt_or, nx_or, mVar, ok1, gIsi, mIsi2, gIsi2, isTy2, isTy, Option.bind, bare, e_add, e_sub, e_int, e_lenS, e_lenT, e_lenL, e_lt, e_le, e_gt, e_ge, e_leC, e_ltC, e_isN, e_notN, e_pow,
  List.map_cons, List.map_nil, List.length_cons, List.length_nil, List.replicate_succ, List.replicate_zero, List.cons_append, List.nil_append, List.append_nil, List.getElem?_cons_zero, List.getElem?_cons_succ, List.set_cons_zero, List.set_cons_succ, Nat.reduceAdd, Nat.reduceSub, true_and, and_true, Bool.not_true, Bool.not_false, true_implies, forall_const, not_true_eq_false, false_implies, Bool.false_eq_true, not_false_eq_true, implies_true, eq_self, ne_eq, reduceCtorEq, Fl.rt.injEq, S.d.injEq, D.int.injEq, false_and, exists_false, or_false, false_or, exists_eq_left'])
local macro_rules | `(tactic| walk_at "wy") => `(tactic| try walk_at "wp")
local macro_rules | `(tactic| walk_at "we") => `(tactic| first | done | rfl | exact ⟨rfl, rfl⟩ | exact ⟨rfl, rfl, rfl⟩)
namespace Lib
def b_is_table : M Fl := (mSeq (mIfS (mNot (mTest (mCall f_is_tuple (aCons (mVar 0) (aCons (mVar 1) (aCons (mVar 1) aNil)))))) (mRet (mC (.bl false))) mNx)
    (mRet (mCB gAll (aCons (mLc (iSeq (mVar 0)) (gmName 2) mYes (mOrV (mOp gIsN (mVar 2) (mC .non)) (mCall f_is_number (aCons (mVar 2) (aCons (mC (.int 0)) (aCons (mOp gMinus (mVar 1) (mC (.int 1))) aNil))))) [2]) aNil))))
def f_is_table : Fn := runF 2 3 b_is_table
def b_levels_after : M Fl := (mSeq (mAsg (mOp gIx (mFldE "Algebra" 1 (mVar 0)) (mVar 1)) (gmName 2))
    (mRet (mLc (iSeq (mVar 2)) (gmName 3) mYes (mIf (mTest (mOp gIsN (mVar 3) (mC .non))) (mC (.int 4096)) (mOp gIx (mFldE "Algebra" 0 (mVar 0)) (mVar 3))) [3])))
def f_levels_after : Fn := runF 2 4 b_levels_after
def b_Algebra_init : M Fl := (mSeq (mIfS (mOr (mNot (mTest (mCall f_is_tuple (aCons (mVar 1) (aCons (mC (.int 1)) (aCons (mC (.int 64)) aNil)))))) (mNot (mTest (mCall f_are_numbers (aCons (mVar 1) (aCons (mC (.int 0)) (aCons (mC (.int 4095)) aNil))))))) mSt mNx)
    (mSeq (mIfS (mNot (mTest (mCall f_is_tuple (aCons (mVar 2) (aCons (mC (.int 1)) (aCons (mC (.int 64)) aNil)))))) mSt mNx)
    (mSeq (mFor (iEnu (aCons (mVar 2) aNil)) (gmTup 2 (gmCons (gmName 3) (gmCons (gmName 4) gmNil))) (mIfS (mNot (mTest (mCall f_is_table (aCons (mVar 4) (aCons (mCB gLen (aCons (mVar 1) aNil)) aNil))))) mSt mNx))
    (mSeq (mSetF "Algebra" 0 0 (mVar 1))
    (mSetF "Algebra" 1 0 (mVar 2))))))
def f_Algebra_init : Fn := runF 3 5 b_Algebra_init
def tabD (t : List (Option Int)) : D := .tup (t.map oD)
/-- an algebra as it is drawn -/
structure OkAlg (most many : Int) (ls : List Int) (ts : List (List (Option Int))) : Prop where
  l1 : 1 ≤ ls.length
  l2 : (ls.length : Int) ≤ most
  lv : ∀ l ∈ ls, 0 ≤ l ∧ l ≤ most
  t1 : 1 ≤ ts.length
  t2 : (ts.length : Int) ≤ many
  tb : ∀ t ∈ ts, t.length = ls.length ∧ ∀ i, some i ∈ t → 0 ≤ i ∧ i < (ls.length : Int)
end Lib
end Fx
/-! a value is alike itself -/
namespace Fx
open PySem
theorem eqD_self {x : D} (h : pl60 x = true) : eqD x x = true := SeqAt.eqv_refl_plain _ (pl60_shaped h).1
theorem gEq_self {x : D} (h : pl60 x = true) : gEq x x = some (.d (.bl true)) := by
  unfold gEq
  rw [h, eqD_self h]
  rfl
theorem gNe_self {x : D} (h : pl60 x = true) : gNe x x = some (.d (.bl false)) := by
  unfold gNe
  rw [h, eqD_self h]
  rfl
local macro_rules | `(tactic| walk_at "wp") => `(tactic| simp only [okF_runF, okF_runL, ok_seq, ok_ret, ok_retN, ok_andV, ok_orV, ok_notV, ok_cb, ok_cons, ok_nil, ok_test, ok_dv, ok_op, ok_un, ok_c, ok_if, ok_ifS, ok_and, ok_or, ok_not, ok_asg, ok_gname, ok_drop, ok_call, ok_chain, ok_nx, ok_bk, ok_ct, ok_st, ok_yes, ok_tup, ok_ok, ok_stuck, ex_toD, ex_toL, ex_bl, ex_some, ex_bl1, fl_nx, fl_rt, fl_bk, fl_ct, rt_or, nx_or, mVar, ok1, gIsi, mIsi2, gIsi2, isTy2, isTy, Option.bind, bare, e_add, e_sub, e_int, e_lenS, e_lenT, e_lenL, e_lt, e_le, e_gt, e_ge, e_leC, e_ltC, e_isN, e_notN, e_pow,
  List.map_cons, List.map_nil, List.length_cons, List.length_nil, List.replicate_succ, List.replicate_zero, List.cons_append, List.nil_append, List.append_nil, List.getElem?_cons_zero, List.getElem?_cons_succ, List.set_cons_zero, List.set_cons_succ, Nat.reduceAdd, Nat.reduceSub, true_and, and_true, Bool.not_true, Bool.not_false, true_implies, forall_const, not_true_eq_false, false_implies, Bool.false_eq_true, not_false_eq_true, implies_true, eq_self, ne_eq, reduceCtorEq, Fl.rt.injEq, S.d.injEq, D.int.injEq, false_and, exists_false, or_false, false_or, exists_eq_left'])
local macro_rules | `(tactic| walk_at "wt") => `(tactic| simp (config := { contextual := false }) only [ok_row0, ok_row1, ok_row2, ok_row3, ok_put1, ok_put2, ok_put3, e_mod, e_div, e_mul, e_ixS, decide_true, decide_false, *, okF_runF, okF_runL, ok_seq, ok_ret, ok_retN, ok_andV, ok_orV, ok_notV, ok_cb, ok_cons, ok_nil, ok_test, ok_dv, ok_op, ok_un, ok_c, ok_if, ok_ifS, ok_and, ok_or, ok_not, ok_asg, ok_gname, ok_drop, ok_call, ok_chain, ok_nx, ok_bk, ok_ct, ok_st, ok_yes, ok_tup, ok_ok, ok_stuck, ex_toD, ex_toL, ex_bl, ex_some, ex_bl1, fl_nx, fl_rt, fl_bk, fl_ct, rt_or, nx_or, mVar, ok1, gIsi, mIsi2, gIsi2, isTy2, isTy, Option.bind, bare, e_add, e_sub, e_int, e_lenS, e_lenT, e_lenL, e_lt, e_le, e_gt, e_ge, e_leC, e_ltC, e_isN, e_notN, e_pow,
  List.map_cons, List.map_nil, List.length_cons, List.length_nil, List.replicate_succ, List.replicate_zero, List.cons_append, List.nil_append, List.append_nil, List.getElem?_cons_zero, List.getElem?_cons_succ, List.set_cons_zero, List.set_cons_succ, Nat.reduceAdd, Nat.reduceSub, true_and, and_true, Bool.not_true, Bool.not_false, true_implies, forall_const, not_true_eq_false, false_implies, Bool.false_eq_true, not_false_eq_true, implies_true, eq_self, ne_eq, reduceCtorEq, Fl.rt.injEq, S.d.injEq, D.int.injEq, false_and, exists_false, or_false, false_or, exists_eq_left'])
local macro_rules | `(tactic| walk_at "wy") => `(tactic| try walk_at "wp")
local macro_rules | `(tactic| walk_at "we") => `(tactic| first | done | rfl | exact ⟨rfl, rfl⟩ | exact ⟨rfl, rfl, rfl⟩)
namespace Lib
theorem e_eqT {b : Bool} {K : S → Prop} : (∃ s, gEq (.bl b) (.bl b) = some s ∧ K s) ↔ K (.d (.bl true)) := by
  rw [gEq_self rfl]
  exact ex_some
theorem e_neF {b : Bool} {K : S → Prop} : (∃ s, gNe (.bl b) (.bl b) = some s ∧ K s) ↔ K (.d (.bl false)) := by
  rw [gNe_self rfl]
  exact ex_some
theorem e_neI {i : Int} {K : S → Prop} : (∃ s, gNe (.int i) (.int i) = some s ∧ K s) ↔ K (.d (.bl false)) := by
  rw [gNe_self rfl]
  exact ex_some
theorem e_eqI {i : Int} {K : S → Prop} : (∃ s, gEq (.int i) (.int i) = some s ∧ K s) ↔ K (.d (.bl true)) := by
  rw [gEq_self rfl]
  exact ex_some
theorem e_eqN {K : S → Prop} : (∃ s, gEq .non .non = some s ∧ K s) ↔ K (.d (.bl true)) := by
  rw [gEq_self rfl]
  exact ex_some
theorem e_eqS {z : Str} {K : S → Prop} : (∃ s, gEq (.str z) (.str z) = some s ∧ K s) ↔ K (.d (.bl true)) := by
  rw [gEq_self rfl]
  exact ex_some
local macro_rules | `(tactic| walk_at "wz") => `(tactic| repeat (first | walk_at "wp" | simp only [isN, e_eqN, e_eqT, e_eqI, e_eqS, e_neF, e_neI]))
end Lib
end Fx
/-! algebras on data: made, checked, followed -/
namespace Fx
open PySem
theorem ok_setF {n : String} {i k : Nat} {fe : M S} {ρ : En} {PF : Fl → En → Prop} (h : OK (dv fe ρ) fun x ρ1 => ∃ b ds, ρ1[k]? = some (some (.o b (.ins n ds))) ∧ ds.length = i ∧ PF .nx (ρ1.set k (some (.o b (.ins n (ds ++ [x])))))) : OK (mSetF n i k fe ρ) PF := by
  unfold mSetF
  rw [ok_then]
  refine h.imp fun x ρ1 ⟨b, ds, e, hl, q⟩ => ?_
  rw [e]
  dsimp only
  rw [if_pos ⟨rfl, hl⟩]
  exact ok_of q
theorem ok_ienu {fA : M (List D)} {ρ : En} {P : List D → En → Prop} (h : OK (fA ρ) fun ds ρ1 => ∃ x es, ds = [x] ∧ itemsD x = some es ∧ P (enumD 0 es) ρ1) : OK (iEnu fA ρ) P := by
  unfold iEnu
  rw [ok_then]
  refine h.imp fun ds ρ1 ⟨x, es, e, e2, q⟩ => ?_
  subst e
  dsimp only
  rw [e2]
  exact ok_of q
theorem enumD_at {ds : List D} {i : Nat} {x : D} (h : (enumD 0 ds)[i]? = some x) : ∃ d, ds[i]? = some d ∧ x = .tup [.int (i : Nat), d] := by
  have hi := (List.getElem?_eq_some_iff.mp h).1
  rw [enumD_length] at hi
  have e := List.getElem?_eq_getElem hi
  rw [enumD_get ds 0 i _ e] at h
  cases h
  exact ⟨_, e, by rw [Nat.zero_add]⟩
theorem ok_gtup2 {i j : Nat} {x y : D} {ρ : En} {P : Unit → En → Prop} (h : P () ((ρ.set i (some (.d x))).set j (some (.d y)))) : OK (gmTup 2 (gmCons (gmName i) (gmCons (gmName j) gmNil)) (.tup [x, y]) ρ) P := ok_of h
theorem ok_fld {n : String} {i : Nat} {fe : M S} {ρ : En} {P : S → En → Prop} (h : OK (dv fe ρ) fun x ρ1 => ∃ ds y, x = .ins n ds ∧ ds[i]? = some y ∧ P (.d y) ρ1) : OK (mFldE n i fe ρ) P := by
  unfold mFldE
  rw [ok_un]
  refine h.imp fun x ρ1 ⟨ds, y, e, e2, q⟩ => ⟨.d y, ?_, q⟩
  subst e
  show (if n = n then (ds[i]?).bind ok1 else none) = _
  rw [if_pos rfl, e2]
  rfl
theorem ok_truth {fe : M S} {ρ : En} {PB : Bool → En → Prop} (h : OK (dv fe ρ) fun x ρ1 => ∃ b, truD x = some b ∧ PB b ρ1) : OK (mTruth fe ρ) PB := by
  unfold mTruth
  rw [ok_then]
  refine h.imp fun x ρ1 ⟨b, e, q⟩ => ?_
  rw [e]
  exact ok_of q
local macro_rules | `(tactic| walk_at "wp") => `(tactic| simp only [okF_runF, okF_runL, ok_seq, ok_ret, ok_retN, ok_andV, ok_orV, ok_notV, ok_cb, ok_cons, ok_nil, ok_test, ok_dv, ok_op, ok_un, ok_c, ok_if, ok_ifS, ok_and, ok_or, ok_not, ok_asg, ok_gname, ok_drop, ok_call, ok_chain, ok_nx, ok_bk, ok_ct, ok_st, ok_yes, ok_tup, ok_ok, ok_stuck, ex_toD, ex_toL, ex_bl, ex_some, ex_bl1, fl_nx, fl_rt, fl_bk, fl_ct, rt_or, nx_or, mVar, ok1, gIsi, mIsi2, gIsi2, isTy2, isTy, Option.bind, bare, e_add, e_sub, e_int, e_lenS, e_lenT, e_lenL, e_lt, e_le, e_gt, e_ge, e_leC, e_ltC, e_isN, e_notN, e_pow,
  List.map_cons, List.map_nil, List.length_cons, List.length_nil, List.replicate_succ, List.replicate_zero, List.cons_append, List.nil_append, List.append_nil, List.getElem?_cons_zero, List.getElem?_cons_succ, List.set_cons_zero, List.set_cons_succ, Nat.reduceAdd, Nat.reduceSub, true_and, and_true, Bool.not_true, Bool.not_false, true_implies, forall_const, not_true_eq_false, false_implies, Bool.false_eq_true, not_false_eq_true, implies_true, eq_self, ne_eq, reduceCtorEq, Fl.rt.injEq, S.d.injEq, D.int.injEq, false_and, exists_false, or_false, false_or, exists_eq_left'])
local macro_rules | `(tactic| walk_at "wt") => `(tactic| simp (config := { contextual := false }) only [ok_row0, ok_row1, ok_row2, ok_row3, ok_put1, ok_put2, ok_put3, e_mod, e_div, e_mul, e_ixS, decide_true, decide_false, *, okF_runF, okF_runL, ok_seq, ok_ret, ok_retN, ok_andV, ok_orV, ok_notV, ok_cb, ok_cons, ok_nil, ok_test, ok_dv, ok_op, ok_un, ok_c, ok_if, ok_ifS, ok_and, ok_or, ok_not, ok_asg, ok_gname, ok_drop, ok_call, ok_chain, ok_nx, ok_bk, ok_ct, ok_st, ok_yes, ok_tup, ok_ok, ok_stuck, ex_toD, ex_toL, ex_bl, ex_some, ex_bl1, fl_nx, fl_rt, fl_bk, fl_ct, rt_or, nx_or, mVar, ok1, gIsi, mIsi2, gIsi2, isTy2, isTy, Option.bind, bare, e_add, e_sub, e_int, e_lenS, e_lenT, e_lenL, e_lt, e_le, e_gt, e_ge, e_leC, e_ltC, e_isN, e_notN, e_pow,
  List.map_cons, List.map_nil, List.length_cons, List.length_nil, List.replicate_succ, List.replicate_zero, List.cons_append, List.nil_append, List.append_nil, List.getElem?_cons_zero, List.getElem?_cons_succ, List.set_cons_zero, List.set_cons_succ, Nat.reduceAdd, Nat.reduceSub, true_and, and_true, Bool.not_true, Bool.not_false, true_implies, forall_const, not_true_eq_false, false_implies, Bool.false_eq_true, not_false_eq_true, implies_true, eq_self, ne_eq, reduceCtorEq, Fl.rt.injEq, S.d.injEq, D.int.injEq, false_and, exists_false, or_false, false_or, exists_eq_left'])
local macro_rules | `(tactic| walk_at "wy") => `(tactic| try walk_at "wp")
local macro_rules | `(tactic| walk_at "we") => `(tactic| first | done | rfl | exact ⟨rfl, rfl⟩ | exact ⟨rfl, rfl, rfl⟩)
namespace Lib
def algD (ls : List Int) (ts : List (List (Option Int))) : D := .ins "Algebra" [.tup (ls.map D.int), .tup (ts.map tabD)]
theorem nums1 {ls : List Int} {lo hi : Int} {K : S → Prop} (hl : ls.length ≤ 16777216) (hv : ∀ l ∈ ls, lo ≤ l ∧ l ≤ hi) (h : K (.d (.bl true))) : OKF (f_are_numbers [.d (.tup (ls.map D.int)), .d (.int lo), .d (.int hi)]) K := by
  have e : ls.map D.int = (ls.map some).map oD := by
    rw [List.map_map]
    rfl
  rw [e]
  refine nums (by rw [List.length_map]; exact hl) ?_
  have e2 : (ls.map some).all (numB lo hi) = true := by
    rw [List.all_eq_true]
    intro o ho
    obtain ⟨l, hm, rfl⟩ := List.mem_map.mp ho
    have := hv l hm
    simp [numB, this.1, this.2]
  rw [e2]
  exact h
theorem table {t : List (Option Int)} {n : Int} {K : S → Prop} (hl : (t.length : Int) = n) (hn : n ≤ 1000) (ht : ∀ i, some i ∈ t → 0 ≤ i ∧ i < n) (h : K (.d (.bl true))) : OKF (f_is_table [.d (tabD t), .d (.int n)]) K := by
  unfold f_is_table b_is_table tabD
  walk_at "wp"
  rw [tup, List.length_map, hl]
  walk_at "wp"
  have e : (decide (n ≤ n)) = true := decide_eq_true (Int.le_refl n)
  simp only [e, Bool.and_true]
  walk_at "wp"
  simp only [ok_lc, ok_iseq]
  walk_at "wp"
  simp only [itemsD, ex_some, wipeE]
  walk_at "wp"
  refine ok_map (f := fun _ => .bl true) rfl ?_ (by rw [List.length_map]; omega) ?_
  · intro y hy
    obtain ⟨o, ho, rfl⟩ := List.mem_map.mp hy
    walk_at "wp"
    cases o with
    | none => exact fun n => absurd rfl n
    | some i =>
      intro _
      rw [num]
      have := ht i ho
      have e : numB 0 (n - 1) (some i) = true := by
        show (decide (0 ≤ i) && decide (i ≤ n - 1)) = true
        rw [decide_eq_true this.1, decide_eq_true (show i ≤ n - 1 by omega)]
        rfl
      rw [e]
      exact ⟨rfl, _, rfl, rfl⟩
  · refine ⟨.d (.bl true), ?_, h⟩
    show (blsD _).bind _ = _
    rw [blsD_map (g := fun _ => true), Option.bind_some]
    show ok1 (.bl ((List.map (fun _ => true) (t.map oD)).all id)) = _
    rw [List.all_map]
    simp [ok1]
theorem made {most many : Int} {ls : List Int} {ts : List (List (Option Int))} (o : OkAlg most many ls ts) (h1 : most ≤ 64) (h2 : many ≤ 64) :
    OK (f_Algebra_init [.o (some 0) (.ins "Algebra" []), .d (.tup (ls.map D.int)), .d (.tup (ts.map tabD))]) fun s ρ => s = .d .non ∧ ρ[0]? = some (some (.o (some 0) (algD ls ts))) := by
  obtain ⟨l1, l2, lv, t1, t2, tb⟩ := o
  unfold f_Algebra_init
  refine ok_runF rfl ?_
  show OK (b_Algebra_init [some (.o (some 0) (.ins "Algebra" [])), some (.d (.tup (ls.map D.int))), some (.d (.tup (ts.map tabD))), none, none]) _
  unfold b_Algebra_init
  refine ok_seqI (fun ρ => ρ = [some (.o (some 0) (.ins "Algebra" [])), some (.d (.tup (ls.map D.int))), some (.d (.tup (ts.map tabD))), none, none]) ?_ ?_
  · walk_at "wp"
    rw [tup, List.length_map, decide_eq_true (show (1 : Int) ≤ ls.length by omega), decide_eq_true (show (ls.length : Int) ≤ 64 by omega)]
    walk_at "wp"
    refine ⟨fun n => (by cases n), fun _ => nums1 (ls := ls) (lo := 0) (hi := 4095) (by omega) (fun l hl => by have := lv l hl; omega) ?_⟩
    walk_at "wp"
  rintro _ rfl
  refine ok_seqI (fun ρ => ρ = [some (.o (some 0) (.ins "Algebra" [])), some (.d (.tup (ls.map D.int))), some (.d (.tup (ts.map tabD))), none, none]) ?_ ?_
  · walk_at "wp"
    rw [tup, List.length_map, decide_eq_true (show (1 : Int) ≤ ts.length by omega), decide_eq_true (show (ts.length : Int) ≤ 64 by omega)]
    walk_at "wp"
    exact fun n => (by cases n)
  rintro _ rfl
  refine ok_seqI (fun ρ => ∃ x3 x4, ρ = [some (.o (some 0) (.ins "Algebra" [])), some (.d (.tup (ls.map D.int))), some (.d (.tup (ts.map tabD))), x3, x4]) ?_ ?_
  · rw [ok_for]
    refine ok_ienu ?_
    walk_at "wp"
    refine ⟨_, _, rfl, rfl, ?_⟩
    refine ok_loop (k := 0) (I := fun i ρ => ∃ x3 x4, ρ = [some (.o (some 0) (.ins "Algebra" [])), some (.d (.tup (ls.map D.int))), some (.d (.tup (ts.map tabD))), x3, x4]) ⟨_, _, rfl⟩ ?_ ?_
    · rintro i x ρ hx ⟨x3, x4, rfl⟩
      obtain ⟨d, hd, rfl⟩ := enumD_at hx
      rw [List.getElem?_map] at hd
      obtain ⟨t, ht, rfl⟩ := Option.map_eq_some_iff.mp hd
      refine ok_gtup2 ?_
      walk_at "wp"
      rw [List.length_map]
      have hm := tb t (List.mem_of_getElem? ht)
      refine table (by rw [hm.1]) (by omega) hm.2 ?_
      walk_at "wp"
      exact ⟨_, _, rfl⟩
    · rintro ρ ⟨x3, x4, rfl⟩
      exact ⟨rfl, _, _, rfl⟩
  rintro _ ⟨x3, x4, rfl⟩
  rw [ok_seq]
  refine ok_setF ?_
  walk_at "wp"
  refine ⟨_, _, rfl, rfl, ?_⟩
  walk_at "wp"
  refine ok_setF ?_
  walk_at "wp"
  exact ⟨_, _, rfl, rfl, rfl⟩
/-! ### what is asked of an algebra -/
/-- the level of what was made -/
def lev (ls : List Int) : Option Int → Int
  | none => 4096
  | some i => (ls[i.toNat]?).getD 0
theorem after {ls : List Int} {ts : List (List (Option Int))} {t : List (Option Int)} {f : Nat} {K : S → Prop} (ht : ts[f]? = some t) (hl : t.length ≤ 1000) (hr : ∀ i, some i ∈ t → 0 ≤ i ∧ i < (ls.length : Int)) (h : K (.o none (.lst (t.map fun o => .int (lev ls o))))) : OKF (f_levels_after [.d (algD ls ts), .d (.int (f : Nat))]) K := by
  unfold f_levels_after b_levels_after
  walk_at "wp"
  refine ok_fld ?_
  walk_at "wp"
  refine ⟨_, _, rfl, rfl, ?_⟩
  have hf := (List.getElem?_eq_some_iff.mp ht).1
  rw [e_ixT (by omega) (by rw [List.length_map]; omega), Int.toNat_natCast, List.getElem?_map, ht]
  walk_at "wp"
  show OK (mLc _ _ _ _ _ [some (.d (algD ls ts)), some (.d (.int (f : Nat))), some (.d (tabD t)), none]) _
  simp only [ok_lc, ok_iseq]
  walk_at "wp"
  simp only [tabD, itemsD, ex_some, wipeE]
  walk_at "wp"
  refine ok_map (f := fun y => match y with | .int i => .int ((ls[i.toNat]?).getD 0) | _ => .int 4096) rfl ?_ (by rw [List.length_map]; omega) ?_
  · intro y hy
    obtain ⟨o, ho, rfl⟩ := List.mem_map.mp hy
    walk_at "wp"
    cases o with
    | none => exact ⟨fun _ => rfl, fun n => absurd rfl n⟩
    | some i =>
      refine ⟨fun n => (by cases n), fun _ => ?_⟩
      have := hr i ho
      refine ok_fld ?_
      walk_at "wp"
      refine ⟨_, _, rfl, rfl, ?_⟩
      show ∃ s, gIx (.tup (ls.map D.int)) (.int i) = some s ∧ _
      rw [e_ixT this.1 (by rw [List.length_map]; exact this.2), List.getElem?_map]
      walk_at "wp"
      obtain ⟨v, e1, e2⟩ := at_nat (xs := ls) this.1 this.2
      show (Option.map D.int ls[i.toNat]?).getD D.non = D.int ((ls[i.toNat]?).getD 0)
      rw [e2]
      rfl
  · have e : (t.map oD).map (fun y => match y with | .int i => D.int ((ls[i.toNat]?).getD 0) | _ => D.int 4096) = t.map fun o => D.int (lev ls o) := by
      rw [List.map_map]
      refine List.map_congr_left fun o _ => ?_
      cases o <;> rfl
    rw [e]
    exact h
/-- a breaks at element j of the table at f -/
def Brk2 (br : Int → Int → Bool) (ls : List Int) (ts : List (List (Option Int))) (f j : Nat) : Bool := match ts[f]?, ls[j]? with
  | some t, some l => br l (lev ls ((t[j]?).getD none))
  | _, _ => false
theorem Brk2.out {br : Int → Int → Bool} {ls : List Int} {ts : List (List (Option Int))} {f j : Nat} (h : ts.length ≤ f ∨ ls.length ≤ j) : Brk2 br ls ts f j = false := by
  unfold Brk2
  rcases h with h | h
  · rw [List.getElem?_eq_none h]
  · rw [List.getElem?_eq_none h]
    cases ts[f]? <;> rfl
/-- a breaks at elements i, j of the table at f -/
def Brk3 (br : Int → Int → Int → Int → Bool) (ls : List Int) (ts : List (List (Option Int))) (f i j : Nat) : Bool := match ts[f]?, ls[i]?, ls[j]? with
  | some t, some a, some b => br a b (lev ls ((t[i]?).getD none)) (lev ls ((t[j]?).getD none))
  | _, _, _ => false
theorem Brk3.out {br : Int → Int → Int → Int → Bool} {ls : List Int} {ts : List (List (Option Int))} {f i j : Nat} (h : ts.length ≤ f ∨ ls.length ≤ i ∨ ls.length ≤ j) : Brk3 br ls ts f i j = false := by
  unfold Brk3
  rcases h with h | h | h
  · rw [List.getElem?_eq_none h]
  · rw [List.getElem?_eq_none h]
    cases ts[f]? <;> rfl
  · rw [List.getElem?_eq_none h]
    cases ts[f]? <;> cases ls[i]? <;> rfl
end Lib
end Fx
/-! words followed, on data -/
namespace Fx
open PySem
local macro_rules | `(tactic| walk_at "wp") => `(tactic| simp only [okF_runF, okF_runL, ok_seq, ok_ret, ok_retN, ok_andV, ok_orV, ok_notV, ok_cb, ok_cons, ok_nil, ok_test, ok_dv, ok_op, ok_un, ok_c, ok_if, ok_ifS, ok_and, ok_or, ok_not, ok_asg, ok_gname, ok_drop, ok_call, ok_chain, ok_nx, ok_bk, ok_ct, ok_st, ok_yes, ok_tup, ok_ok, ok_stuck, ex_toD, ex_toL, ex_bl, ex_some, ex_bl1, fl_nx, fl_rt, fl_bk, fl_ct, rt_or, nx_or, mVar, ok1, gIsi, mIsi2, gIsi2, isTy2, isTy, Option.bind, bare, e_add, e_sub, e_int, e_lenS, e_lenT, e_lenL, e_lt, e_le, e_gt, e_ge, e_leC, e_ltC, e_isN, e_notN, e_pow,
  List.map_cons, List.map_nil, List.length_cons, List.length_nil, List.replicate_succ, List.replicate_zero, List.cons_append, List.nil_append, List.append_nil, List.getElem?_cons_zero, List.getElem?_cons_succ, List.set_cons_zero, List.set_cons_succ, Nat.reduceAdd, Nat.reduceSub, true_and, and_true, Bool.not_true, Bool.not_false, true_implies, forall_const, not_true_eq_false, false_implies, Bool.false_eq_true, not_false_eq_true, implies_true, eq_self, ne_eq, reduceCtorEq, Fl.rt.injEq, S.d.injEq, D.int.injEq, false_and, exists_false, or_false, false_or, exists_eq_left'])
local macro_rules | `(tactic| walk_at "wt") => `(tactic| simp (config := { contextual := false }) only [ok_row0, ok_row1, ok_row2, ok_row3, ok_put1, ok_put2, ok_put3, e_mod, e_div, e_mul, e_ixS, decide_true, decide_false, *, okF_runF, okF_runL, ok_seq, ok_ret, ok_retN, ok_andV, ok_orV, ok_notV, ok_cb, ok_cons, ok_nil, ok_test, ok_dv, ok_op, ok_un, ok_c, ok_if, ok_ifS, ok_and, ok_or, ok_not, ok_asg, ok_gname, ok_drop, ok_call, ok_chain, ok_nx, ok_bk, ok_ct, ok_st, ok_yes, ok_tup, ok_ok, ok_stuck, ex_toD, ex_toL, ex_bl, ex_some, ex_bl1, fl_nx, fl_rt, fl_bk, fl_ct, rt_or, nx_or, mVar, ok1, gIsi, mIsi2, gIsi2, isTy2, isTy, Option.bind, bare, e_add, e_sub, e_int, e_lenS, e_lenT, e_lenL, e_lt, e_le, e_gt, e_ge, e_leC, e_ltC, e_isN, e_notN, e_pow,
  List.map_cons, List.map_nil, List.length_cons, List.length_nil, List.replicate_succ, List.replicate_zero, List.cons_append, List.nil_append, List.append_nil, List.getElem?_cons_zero, List.getElem?_cons_succ, List.set_cons_zero, List.set_cons_succ, Nat.reduceAdd, Nat.reduceSub, true_and, and_true, Bool.not_true, Bool.not_false, true_implies, forall_const, not_true_eq_false, false_implies, Bool.false_eq_true, not_false_eq_true, implies_true, eq_self, ne_eq, reduceCtorEq, Fl.rt.injEq, S.d.injEq, D.int.injEq, false_and, exists_false, or_false, false_or, exists_eq_left'])
local macro_rules | `(tactic| walk_at "wy") => `(tactic| try walk_at "wp")
local macro_rules | `(tactic| walk_at "we") => `(tactic| first | done | rfl | exact ⟨rfl, rfl⟩ | exact ⟨rfl, rfl, rfl⟩)
namespace Lib
def step (ts : List (List (Option Int))) (f : Int) : Option Int → Option Int
  | none => none
  | some i => (((ts[f.toNat]?).getD [])[i.toNat]?).getD none
def In (ls : List Int) (x : Option Int) : Prop := ∀ i, x = some i → 0 ≤ i ∧ i < (ls.length : Int)
end Lib
end Fx
/-! words keep laws; more of rows -/
namespace Fx
open PySem
/-- a def that draws from the row -/
theorem ok_rowF {F : Fn} {r : Nat} {o : Option Nat} {ns : List Int} {a b c : Int} {fr : M (List D)} {ds : List D} {ρ : En} {P : S → En → Prop} {Pv : S → Prop} (e : ρ[r]? = some (rowS o ns a b c)) (h : OK (fr ρ) fun es ρ1 => es = ds ∧ ρ1 = ρ)
    (k : OK (F (.o (some 0) (rowD ns a b c) :: ds.map .d)) fun s ρ' => Pv s ∧ bare s = true ∧ ∃ a b c, RowOk a b c ∧ ∃ ρ2, ρ' = some (.o (some 0) (rowD ns a b c)) :: ρ2)
    (q : ∀ s a b c, Pv s → RowOk a b c → P s (ρ.set r (rowS o ns a b c))) : OK (mCallO F r 0 (aOwn r fr) ρ) P := by
  refine ok_callO (ok_own.mpr ⟨own_row e, ?_⟩)
  refine h.imp fun es ρ1 ⟨e1, e2⟩ => ?_
  subst e1
  subst e2
  refine ⟨o, rowD ns a b c, e, Nat.zero_le _, k.imp fun s ρ' ⟨hp, hb, a', b', c', hr, ρ2, e3⟩ => ?_⟩
  subst e3
  exact ⟨rowD ns a' b' c', rfl, hb, q s a' b' c' hp hr⟩
namespace Lib
end Lib
end Fx
/-! data that fit, slices, sums of tuples -/
namespace Fx
open PySem
/-! slices of tuples -/
theorem cutD_from {xs : List D} {k : Int} (h : 0 ≤ k) : cutD xs (some k) none = xs.drop k.toNat := by
  unfold cutD
  have e : HT.sIx xs.length 0 (some k) = min k.toNat xs.length := by
    show (if k < 0 then _ else min k.toNat xs.length) = _
    rw [if_neg (by omega)]
  rw [e, HT.sIx_none]
  by_cases hk : k.toNat ≤ xs.length
  · rw [Nat.min_eq_left hk]
    exact List.take_of_length_le (by rw [List.length_drop]; omega)
  · rw [Nat.min_eq_right (by omega), List.drop_length, List.drop_of_length_le (by omega), List.take_nil]
theorem ok_slTo {fe fh : M S} {ρ : En} {P : S → En → Prop} (h : OK (dv fe ρ) fun x ρ1 => OK (dv fh ρ1) fun y ρ2 => ∃ xs k, x = .tup xs ∧ y = .int k ∧ 0 ≤ k ∧ P (.d (.tup (xs.take k.toNat))) ρ2) : OK (mSl fe oNone (oSome fh) ρ) P := by
  refine ok_sl (h.imp fun x ρ1 h => ?_)
  rw [ok_onone]
  refine ok_osome (h.imp fun y ρ2 h => ?_)
  obtain ⟨xs, k, rfl, rfl, k0, q⟩ := h
  refine ⟨k, rfl, _, rfl, ?_⟩
  rw [cutD_to k0]
  exact q
theorem e_neII {i j : Int} {K : S → Prop} : (∃ s, gNe (.int i) (.int j) = some s ∧ K s) ↔ K (.d (.bl (!decide (i = j)))) := by
  have e : gNe (.int i) (.int j) = some (.d (.bl (!decide (i = j)))) := rfl
  rw [e]
  exact ex_some
local macro_rules | `(tactic| walk_at "wp") => `(tactic| simp only [okF_runF, okF_runL, ok_seq, ok_ret, ok_retN, ok_andV, ok_orV, ok_notV, ok_cb, ok_cons, ok_nil, ok_test, ok_dv, ok_op, ok_un, ok_c, ok_if, ok_ifS, ok_and, ok_or, ok_not, ok_asg, ok_gname, ok_drop, ok_call, ok_chain, ok_nx, ok_bk, ok_ct, ok_st, ok_yes, ok_tup, ok_ok, ok_stuck, ex_toD, ex_toL, ex_bl, ex_some, ex_bl1, fl_nx, fl_rt, fl_bk, fl_ct, rt_or, nx_or, mVar, ok1, gIsi, mIsi2, gIsi2, isTy2, isTy, Option.bind, bare, e_add, e_sub, e_int, e_lenS, e_lenT, e_lenL, e_lt, e_le, e_gt, e_ge, e_leC, e_ltC, e_isN, e_notN, e_pow,
  List.map_cons, List.map_nil, List.length_cons, List.length_nil, List.replicate_succ, List.replicate_zero, List.cons_append, List.nil_append, List.append_nil, List.getElem?_cons_zero, List.getElem?_cons_succ, List.set_cons_zero, List.set_cons_succ, Nat.reduceAdd, Nat.reduceSub, true_and, and_true, Bool.not_true, Bool.not_false, true_implies, forall_const, not_true_eq_false, false_implies, Bool.false_eq_true, not_false_eq_true, implies_true, eq_self, ne_eq, reduceCtorEq, Fl.rt.injEq, S.d.injEq, D.int.injEq, false_and, exists_false, or_false, false_or, exists_eq_left'])
local macro_rules | `(tactic| walk_at "wt") => `(tactic| simp (config := { contextual := false }) only [ok_row0, ok_row1, ok_row2, ok_row3, ok_put1, ok_put2, ok_put3, e_mod, e_div, e_mul, e_ixS, decide_true, decide_false, *, okF_runF, okF_runL, ok_seq, ok_ret, ok_retN, ok_andV, ok_orV, ok_notV, ok_cb, ok_cons, ok_nil, ok_test, ok_dv, ok_op, ok_un, ok_c, ok_if, ok_ifS, ok_and, ok_or, ok_not, ok_asg, ok_gname, ok_drop, ok_call, ok_chain, ok_nx, ok_bk, ok_ct, ok_st, ok_yes, ok_tup, ok_ok, ok_stuck, ex_toD, ex_toL, ex_bl, ex_some, ex_bl1, fl_nx, fl_rt, fl_bk, fl_ct, rt_or, nx_or, mVar, ok1, gIsi, mIsi2, gIsi2, isTy2, isTy, Option.bind, bare, e_add, e_sub, e_int, e_lenS, e_lenT, e_lenL, e_lt, e_le, e_gt, e_ge, e_leC, e_ltC, e_isN, e_notN, e_pow,
  List.map_cons, List.map_nil, List.length_cons, List.length_nil, List.replicate_succ, List.replicate_zero, List.cons_append, List.nil_append, List.append_nil, List.getElem?_cons_zero, List.getElem?_cons_succ, List.set_cons_zero, List.set_cons_succ, Nat.reduceAdd, Nat.reduceSub, true_and, and_true, Bool.not_true, Bool.not_false, true_implies, forall_const, not_true_eq_false, false_implies, Bool.false_eq_true, not_false_eq_true, implies_true, eq_self, ne_eq, reduceCtorEq, Fl.rt.injEq, S.d.injEq, D.int.injEq, false_and, exists_false, or_false, false_or, exists_eq_left'])
local macro_rules | `(tactic| walk_at "wy") => `(tactic| try walk_at "wp")
local macro_rules | `(tactic| walk_at "we") => `(tactic| first | done | rfl | exact ⟨rfl, rfl⟩ | exact ⟨rfl, rfl, rfl⟩)
namespace Lib
theorem OkAlg.app {most m1 m2 : Int} {ls : List Int} {A B : List (List (Option Int))} (a : OkAlg most m1 ls A) (b : OkAlg most m2 ls B) : OkAlg most (m1 + m2) ls (A ++ B) := by
  refine ⟨a.l1, a.l2, a.lv, by rw [List.length_append]; have := a.t1; omega, by rw [List.length_append]; have := a.t2; have := b.t2; omega, fun t ht => ?_⟩
  rcases List.mem_append.mp ht with h | h
  · exact a.tb t h
  · exact b.tb t h
/-! breaks of both -/
end Lib
end Fx
/-! lexicographic products: their levels and functions, when they are isotone -/
namespace Fx
open PySem
namespace Lib
/-! ### the product -/
/-! ### isotone exactly by the parts -/
end Lib
end Fx
/-! comprehensions of two fors -/
namespace Fx
open PySem
end Fx
/-! expressions that change nothing: their value -/
namespace Fx
open PySem
/-- what stands there has the value x and changes nothing -/
def Ev (f : M S) (ρ : En) (x : D) : Prop := OK (dv f ρ) fun y ρ1 => y = x ∧ ρ1 = ρ
def EvA (f : M (List D)) (ρ : En) (xs : List D) : Prop := OK (f ρ) fun ys ρ1 => ys = xs ∧ ρ1 = ρ
def EvB (f : M Bool) (ρ : En) (b : Bool) : Prop := OK (f ρ) fun c ρ1 => c = b ∧ ρ1 = ρ
section
variable {ρ : En} {x y z : D} {fa fb fe : M S} {fA : M (List D)} {xs : List D} {p q b : Bool} {ft fu : M Bool}
theorem Ev.dv (h : Ev fe ρ x) {P : D → En → Prop} (k : P x ρ) : OK (Fx.dv fe ρ) P := h.imp fun y ρ1 ⟨e1, e2⟩ => by rw [e1, e2]; exact k
theorem EvA.ok (h : EvA fA ρ xs) {P : List D → En → Prop} (k : P xs ρ) : OK (fA ρ) P := h.imp fun y ρ1 ⟨e1, e2⟩ => by rw [e1, e2]; exact k
theorem EvB.ok (h : EvB ft ρ b) {P : Bool → En → Prop} (k : P b ρ) : OK (ft ρ) P := h.imp fun y ρ1 ⟨e1, e2⟩ => by rw [e1, e2]; exact k
theorem ev_of (h : OK (fe ρ) fun s ρ1 => s = .d x ∧ ρ1 = ρ) : Ev fe ρ x := by
  unfold Ev
  rw [ok_dv]
  exact h.imp fun s ρ1 ⟨e1, e2⟩ => ⟨x, by rw [e1]; rfl, rfl, e2⟩
theorem ev_var (i : Nat) (e : ρ[i]? = some (some (.d x))) : Ev (mVar i) ρ x := ev_of (by rw [ok_varD e]; exact ⟨rfl, rfl⟩)
theorem ev_c : Ev (mC x) ρ x := ev_of (by rw [ok_c]; exact ⟨rfl, rfl⟩)
theorem ev_op {g : D → D → Option S} (ha : Ev fa ρ x) (hb : Ev fb ρ y) (e : g x y = some (.d z)) : Ev (mOp g fa fb) ρ z := ev_of (by
  rw [ok_op]
  exact ha.dv (hb.dv ⟨_, e, rfl, rfl⟩))
theorem ev_lt {i j : Int} (ha : Ev fa ρ (.int i)) (hb : Ev fb ρ (.int j)) : Ev (mOp gLt fa fb) ρ (.bl (decide (i < j))) := ev_op ha hb rfl
theorem ev_le {i j : Int} (ha : Ev fa ρ (.int i)) (hb : Ev fb ρ (.int j)) : Ev (mOp gLe fa fb) ρ (.bl (decide (i ≤ j))) := ev_op ha hb rfl
theorem ev_gt {i j : Int} (ha : Ev fa ρ (.int i)) (hb : Ev fb ρ (.int j)) : Ev (mOp gGt fa fb) ρ (.bl (decide (j < i))) := ev_op ha hb rfl
theorem ev_eq {i j : Int} (ha : Ev fa ρ (.int i)) (hb : Ev fb ρ (.int j)) : Ev (mOp gEq fa fb) ρ (.bl (decide (i = j))) := ev_op ha hb rfl
theorem ev_ne {i j : Int} (ha : Ev fa ρ (.int i)) (hb : Ev fb ρ (.int j)) : Ev (mOp gNe fa fb) ρ (.bl (!decide (i = j))) := ev_op ha hb (by
  obtain ⟨s, e, k⟩ := (e_neII (i := i) (j := j) (K := fun s => s = .d (.bl (!decide (i = j))))).mpr rfl
  rw [e, k])
theorem ev_isN (ha : Ev fa ρ x) : Ev (mOp gIsN fa (mC .non)) ρ (.bl (isN x)) := ev_op ha ev_c rfl
theorem ev_notN (ha : Ev fa ρ x) : Ev (mOp gNotN fa (mC .non)) ρ (.bl (!isN x)) := ev_op ha ev_c rfl
theorem eb_test (h : Ev fe ρ (.bl b)) : EvB (mTest fe) ρ b := by
  unfold EvB
  rw [ok_test]
  exact h.dv ⟨_, rfl, rfl, rfl⟩
theorem eb_not (h : EvB ft ρ b) : EvB (mNot ft) ρ (!b) := by
  unfold EvB
  rw [ok_not]
  exact h.ok ⟨rfl, rfl⟩
theorem eb_and (h : EvB ft ρ p) (k : p = true → EvB fu ρ q) : EvB (mAnd ft fu) ρ (p && q) := by
  unfold EvB
  rw [ok_and]
  refine h.ok ⟨fun e => (k e).ok ⟨by rw [e]; rfl, rfl⟩, fun e => ⟨?_, rfl⟩⟩
  cases p
  · rfl
  · exact absurd rfl e
theorem eb_or (h : EvB ft ρ p) (k : p = false → EvB fu ρ q) : EvB (mOr ft fu) ρ (p || q) := by
  unfold EvB
  rw [ok_or]
  refine h.ok ⟨fun e => ⟨by rw [e]; rfl, rfl⟩, fun e => (k (by simpa using e)).ok ⟨?_, rfl⟩⟩
  cases p
  · rfl
  · exact absurd rfl e
theorem eb_truth (h : Ev fe ρ x) (e : truD x = some b) : EvB (mTruth fe) ρ b := by
  unfold EvB
  exact ok_truth (h.dv ⟨b, e, rfl, rfl⟩)
theorem ev_and (h : Ev fa ρ (.bl p)) (k : Ev fb ρ (.bl q)) : Ev (mAndV fa fb) ρ (.bl (p && q)) := by
  unfold Ev
  rw [ok_dv, ok_andV]
  refine (eb_test h).ok ⟨fun e => ?_, fun e => ?_⟩
  · rw [← ok_dv]
    exact k.dv ⟨by rw [e]; rfl, rfl⟩
  · refine ⟨_, rfl, ?_, rfl⟩
    cases p
    · rfl
    · exact absurd rfl e
theorem ev_if (h : EvB ft ρ b) (k1 : b = true → Ev fa ρ x) (k2 : b = false → Ev fb ρ x) : Ev (mIf ft fa fb) ρ x := by
  unfold Ev
  rw [ok_dv, ok_if]
  refine h.ok ⟨fun e => ?_, fun e => ?_⟩
  · rw [← ok_dv]
    exact (k1 e).dv ⟨rfl, rfl⟩
  · rw [← ok_dv]
    exact (k2 (by simpa using e)).dv ⟨rfl, rfl⟩
theorem ea_nil : EvA aNil ρ [] := by
  unfold EvA
  rw [ok_nil]
  exact ⟨rfl, rfl⟩
theorem ea_cons (h : Ev fe ρ x) (k : EvA fA ρ xs) : EvA (aCons fe fA) ρ (x :: xs) := by
  unfold EvA
  rw [ok_cons]
  exact h.dv (k.ok ⟨rfl, rfl⟩)
theorem ev_tup (h : EvA fA ρ xs) (hs : small xs.length = true := by rfl) : Ev (mTup fA) ρ (.tup xs) := ev_of (by
  rw [ok_tup]
  exact h.ok ⟨hs, rfl, rfl⟩)
theorem ev_call {F : Fn} (h : EvA fA ρ xs) (k : OKF (F (xs.map .d)) fun s => s = .d x) : Ev (mCall F fA) ρ x := ev_of (by
  rw [ok_call]
  exact h.ok (by
    rw [okF] at k ⊢
    exact k.imp fun s _ e => by rw [e]; exact ⟨rfl, rfl, rfl⟩))
theorem ev_ixT {ds : List D} {i : Nat} (ha : Ev fa ρ (.tup ds)) (hb : Ev fb ρ (.int (i : Nat))) (e : ds[i]? = some x) : Ev (mOp gIx fa fb) ρ x := ev_op ha hb (by
  have hi := (List.getElem?_eq_some_iff.mp e).1
  obtain ⟨s, e1, k⟩ := (e_ixT (ds := ds) (i := (i : Int)) (by omega) (by omega) (K := fun s => s = .d x)).mpr (by rw [Int.toNat_natCast, e]; rfl)
  rw [e1, k])
theorem atI_nat {α : Type} {ds : List α} {i : Nat} {x : α} (e : ds[i]? = some x) : L2.atI ds (i : Int) = some x := by
  have hi := (List.getElem?_eq_some_iff.mp e).1
  obtain ⟨y, e1, e2⟩ := at_nat (xs := ds) (i := (i : Int)) (by omega) (by omega)
  rw [Int.toNat_natCast, e] at e2
  cases e2
  exact e1
/-- an element of a list in a name -/
theorem ev_ixO {i : Nat} {b : Option Nat} {ds : List D} {k : Nat} (e1 : ρ[i]? = some (some (.o b (.lst ds)))) (hb : Ev fe ρ (.int (k : Nat))) (e : ds[k]? = some x) : Ev (mIxO i fe) ρ x := ev_of (by
  have ep : peek ρ i = some (.lst ds) := by
    unfold peek
    rw [e1]
  unfold mIxO peekL
  rw [ep]
  dsimp only
  rw [if_pos rfl, ok_then]
  refine hb.dv ?_
  rw [ep]
  dsimp only
  rw [atI_nat e]
  dsimp only
  rw [ok_ok]
  exact ⟨rfl, rfl⟩)
theorem ok_appE {i : Nat} {b : Option Nat} {ds : List D} {PF : S → En → Prop} (e1 : ρ[i]? = some (some (.o b (.lst ds)))) (hb : Ev fe ρ x) (hk : ds.length ≤ 1000000) (q : PF (.d .non) (ρ.set i (some (.o b (.lst (ds ++ [x])))))) : OK (mMeth1 i gApp fe ρ) PF := by
  have hs : small (ds.length + 1) = true := by
    unfold small
    exact decide_eq_true (by omega)
  unfold mMeth1 ownL
  rw [e1]
  dsimp only
  rw [if_pos rfl, ok_then]
  refine hb.dv ?_
  rw [e1]
  dsimp only
  unfold gApp
  rw [if_pos hs]
  dsimp only
  rw [ok_ok]
  exact q
theorem ok_varZ {i : Nat} {P : S → En → Prop} (e : ρ[i]? = some (some (.o none x))) (hc : canFz x = true) (q : P (.d x) (ρ.set i (some (.d x)))) : OK (mVar i ρ) P := by
  unfold mVar
  rw [e]
  dsimp only
  rw [if_pos hc, ok_ok]
  exact q
theorem Ev.raw (h : Ev fe ρ x) : OK (fe ρ) fun s ρ1 => toD s = some x ∧ ρ1 = ρ := by
  unfold Ev at h
  rw [ok_dv] at h
  exact h.imp fun s ρ1 ⟨x', e1, e2, e3⟩ => ⟨by rw [e1, e2], e3⟩
theorem ok_par2E {i j : Nat} {PF : Fl → En → Prop} (ha : Ev fa ρ x) (hb : Ev fb ρ y) (q : PF .nx ((ρ.set j (some (.d y))).set i (some (.d x)))) : OK (mPar2 i false j false (psCons fa (psCons fb psNil)) ρ) PF := by
  refine ok_par2 ?_
  rw [ok_psCons]
  refine ha.raw.imp fun s ρ1 ⟨e1, e2⟩ => ?_
  rw [ok_psCons, e2]
  refine hb.raw.imp fun s' ρ1 ⟨e3, e4⟩ => ?_
  rw [ok_psNil, e4]
  refine ⟨s, s', _, _, rfl, ?_, ?_, q⟩
  · unfold stS
    rw [e1]
    rfl
  · unfold stS
    rw [e3]
    rfl
theorem ev_lst (h : EvA fA ρ xs) (hs : small xs.length = true := by rfl) (hc : canFz (.lst xs) = true := by rfl) : Ev (mLst fA) ρ (.lst xs) := by
  unfold Ev
  rw [ok_dv, ok_lst]
  refine h.ok ⟨hs, .lst xs, ?_, rfl, rfl⟩
  show (if canFz (.lst xs) then some (D.lst xs) else none) = _
  rw [if_pos hc]
theorem ev_cb {g : List D → Option S} (h : EvA fA ρ xs) (e : g xs = some (.d z)) : Ev (mCB g fA) ρ z := ev_of (by
  rw [ok_cb]
  exact h.ok ⟨_, e, rfl, rfl⟩)
theorem ev_catL {ys : List D} (ha : Ev fa ρ (.lst xs)) (hb : Ev fb ρ (.lst ys)) (hs : small (xs.length + ys.length) = true) : Ev (mOp gAdd fa fb) ρ (.lst (xs ++ ys)) := by
  unfold Ev
  rw [ok_dv, ok_op]
  refine ha.dv (hb.dv ⟨.o none (.lst (xs ++ ys)), ?_, _, rfl, rfl, rfl⟩)
  show (if small (xs.length + ys.length) then some (S.o none (.lst (xs ++ ys))) else none) = _
  rw [if_pos hs]
end
end Fx
/-! graphs on data: drawn -/
namespace Fx
open PySem
namespace Lib
def b_law_pick : M Fl := (mRet (mOp gIx (mVar 1) (mCallO f_law_taken 0 0 (aOwn 0 (aCons (mCB gLen (aCons (mVar 1) aNil)) aNil)))))
def f_law_pick : Fn := runF 2 2 b_law_pick
/-- an arc -/
def arcD (p : Nat × Nat) : D := .tup [.int p.1, .int p.2]
def ltA (p q : Nat × Nat) : Prop := p.1 < q.1 ∨ (p.1 = q.1 ∧ p.2 < q.2)
/-- arcs of n nodes, ascending -/
structure OkArcs (n : Nat) (as : List (Nat × Nat)) : Prop where
  rng : ∀ p ∈ as, p.1 < n ∧ p.2 < n ∧ p.1 ≠ p.2
  asc : as.Pairwise ltA
theorem OkArcs.len {n : Nat} : ∀ {as : List (Nat × Nat)}, OkArcs n as → as.length ≤ n * n := by
  intro as o
  have key : ∀ (l : List (Nat × Nat)) (k : Nat), (∀ p ∈ l, k ≤ p.1 * n + p.2 ∧ p.1 * n + p.2 < n * n) → (l.map fun p => p.1 * n + p.2).Pairwise (· < ·) → l.length + k ≤ n * n ∨ l = [] := by
    intro l
    induction l with
    | nil => exact fun _ _ _ => .inr rfl
    | cons p l ih =>
      intro k h hp
      obtain ⟨h1, h2⟩ := h p List.mem_cons_self
      rw [List.map_cons, List.pairwise_cons] at hp
      have := ih (p.1 * n + p.2 + 1) (fun q hq => ⟨hp.1 _ (List.mem_map.mpr ⟨q, hq, rfl⟩), (h q (List.mem_cons_of_mem _ hq)).2⟩) hp.2
      left
      rcases this with this | rfl
      · rw [List.length_cons]
        omega
      · simp only [List.length_cons, List.length_nil]
        omega
  have hb : ∀ p ∈ as, 0 ≤ p.1 * n + p.2 ∧ p.1 * n + p.2 < n * n := fun p hp => by
    obtain ⟨a, b, _⟩ := o.rng p hp
    have : (p.1 + 1) * n ≤ n * n := Nat.mul_le_mul (by omega) (Nat.le_refl _)
    rw [Nat.add_mul, Nat.one_mul] at this
    exact ⟨Nat.zero_le _, by omega⟩
  have hp : (as.map fun p => p.1 * n + p.2).Pairwise (· < ·) := by
    rw [List.pairwise_map]
    refine List.Pairwise.imp_of_mem (fun {p q} hp hq h => ?_) o.asc
    obtain ⟨_, b, _⟩ := o.rng p hp
    rcases h with h | ⟨h1, h2⟩
    · have : (p.1 + 1) * n ≤ q.1 * n := Nat.mul_le_mul (by omega) (Nat.le_refl _)
      rw [Nat.add_mul, Nat.one_mul] at this
      omega
    · rw [h1]
      omega
  rcases key as 0 hb hp with h | rfl
  · omega
  · exact Nat.zero_le _
theorem pick {ns : List Int} {a b c : Int} {ds : List D} (h : RowOk a b c) (h0 : 0 < ds.length) (h1 : ds.length ≤ 1000) :
    OK (f_law_pick [.o (some 0) (rowD ns a b c), .d (.lst ds)]) fun s ρ => ∃ x a b c, x ∈ ds ∧ s = .d x ∧ RowOk a b c ∧ ∃ ρ', ρ = some (.o (some 0) (rowD ns a b c)) :: ρ' := by
  unfold f_law_pick
  refine ok_runF rfl ?_
  show OK (b_law_pick [some (.o (some 0) (rowD ns a b c)), some (.d (.lst ds))]) _
  unfold b_law_pick
  rw [ok_ret, ok_op]
  refine (ev_var 1 rfl).dv ?_
  rw [ok_dv]
  refine ok_taken (m := ds.length) rfl h ?_ (by omega) (by omega) fun v a b c v0 v1 h => ?_
  · exact (ev_cb (ea_cons (ev_var 1 rfl) ea_nil) rfl).dv ⟨rfl, rfl⟩
  refine ⟨_, rfl, ?_⟩
  obtain ⟨x, e1, e2⟩ := at_nat (xs := ds) v0 v1
  refine ⟨.d x, ?_, .inl ⟨_, rfl, x, a, b, c, List.mem_of_getElem? e2, rfl, h, _, rfl⟩⟩
  show (L2.atI ds v).bind ok1 = _
  rw [e1]
  rfl
end Lib
end Fx
/-! graphs on data: made, checked -/
namespace Fx
open PySem
local macro_rules | `(tactic| walk_at "wp") => `(tactic| simp only [okF_runF, okF_runL, ok_seq, ok_ret, ok_retN, ok_andV, ok_orV, ok_notV, ok_cb, ok_cons, ok_nil, ok_test, ok_dv, ok_op, ok_un, ok_c, ok_if, ok_ifS, ok_and, ok_or, ok_not, ok_asg, ok_gname, ok_drop, ok_call, ok_chain, ok_nx, ok_bk, ok_ct, ok_st, ok_yes, ok_tup, ok_ok, ok_stuck, ex_toD, ex_toL, ex_bl, ex_some, ex_bl1, fl_nx, fl_rt, fl_bk, fl_ct, rt_or, nx_or, mVar, ok1, gIsi, mIsi2, gIsi2, isTy2, isTy, Option.bind, bare, e_add, e_sub, e_int, e_lenS, e_lenT, e_lenL, e_lt, e_le, e_gt, e_ge, e_leC, e_ltC, e_isN, e_notN, e_pow,
  List.map_cons, List.map_nil, List.length_cons, List.length_nil, List.replicate_succ, List.replicate_zero, List.cons_append, List.nil_append, List.append_nil, List.getElem?_cons_zero, List.getElem?_cons_succ, List.set_cons_zero, List.set_cons_succ, Nat.reduceAdd, Nat.reduceSub, true_and, and_true, Bool.not_true, Bool.not_false, true_implies, forall_const, not_true_eq_false, false_implies, Bool.false_eq_true, not_false_eq_true, implies_true, eq_self, ne_eq, reduceCtorEq, Fl.rt.injEq, S.d.injEq, D.int.injEq, false_and, exists_false, or_false, false_or, exists_eq_left'])
local macro_rules | `(tactic| walk_at "wt") => `(tactic| simp (config := { contextual := false }) only [ok_row0, ok_row1, ok_row2, ok_row3, ok_put1, ok_put2, ok_put3, e_mod, e_div, e_mul, e_ixS, decide_true, decide_false, *, okF_runF, okF_runL, ok_seq, ok_ret, ok_retN, ok_andV, ok_orV, ok_notV, ok_cb, ok_cons, ok_nil, ok_test, ok_dv, ok_op, ok_un, ok_c, ok_if, ok_ifS, ok_and, ok_or, ok_not, ok_asg, ok_gname, ok_drop, ok_call, ok_chain, ok_nx, ok_bk, ok_ct, ok_st, ok_yes, ok_tup, ok_ok, ok_stuck, ex_toD, ex_toL, ex_bl, ex_some, ex_bl1, fl_nx, fl_rt, fl_bk, fl_ct, rt_or, nx_or, mVar, ok1, gIsi, mIsi2, gIsi2, isTy2, isTy, Option.bind, bare, e_add, e_sub, e_int, e_lenS, e_lenT, e_lenL, e_lt, e_le, e_gt, e_ge, e_leC, e_ltC, e_isN, e_notN, e_pow,
  List.map_cons, List.map_nil, List.length_cons, List.length_nil, List.replicate_succ, List.replicate_zero, List.cons_append, List.nil_append, List.append_nil, List.getElem?_cons_zero, List.getElem?_cons_succ, List.set_cons_zero, List.set_cons_succ, Nat.reduceAdd, Nat.reduceSub, true_and, and_true, Bool.not_true, Bool.not_false, true_implies, forall_const, not_true_eq_false, false_implies, Bool.false_eq_true, not_false_eq_true, implies_true, eq_self, ne_eq, reduceCtorEq, Fl.rt.injEq, S.d.injEq, D.int.injEq, false_and, exists_false, or_false, false_or, exists_eq_left'])
local macro_rules | `(tactic| walk_at "wy") => `(tactic| try walk_at "wp")
local macro_rules | `(tactic| walk_at "we") => `(tactic| first | done | rfl | exact ⟨rfl, rfl⟩ | exact ⟨rfl, rfl, rfl⟩)
namespace Lib
theorem toD_back {s : S} {x : D} (h : toD s = some x) (hc : canFz x = false) : s = .d x := by
  cases s with
  | d y =>
    have h : some y = some x := h
    cases h
    rfl
  | o b y =>
    cases b with
    | none =>
      have h : (if canFz y then some y else none) = some x := h
      split at h
      · rename_i k
        cases h
        rw [hc] at k
        cases k
      · cases h
    | some k => cases h
  | q _ _ => cases h
end Lib
end Fx
/-! graphs on data: drawn whole -/
namespace Fx
open PySem
local macro_rules | `(tactic| walk_at "wp") => `(tactic| simp only [okF_runF, okF_runL, ok_seq, ok_ret, ok_retN, ok_andV, ok_orV, ok_notV, ok_cb, ok_cons, ok_nil, ok_test, ok_dv, ok_op, ok_un, ok_c, ok_if, ok_ifS, ok_and, ok_or, ok_not, ok_asg, ok_gname, ok_drop, ok_call, ok_chain, ok_nx, ok_bk, ok_ct, ok_st, ok_yes, ok_tup, ok_ok, ok_stuck, ex_toD, ex_toL, ex_bl, ex_some, ex_bl1, fl_nx, fl_rt, fl_bk, fl_ct, rt_or, nx_or, mVar, ok1, gIsi, mIsi2, gIsi2, isTy2, isTy, Option.bind, bare, e_add, e_sub, e_int, e_lenS, e_lenT, e_lenL, e_lt, e_le, e_gt, e_ge, e_leC, e_ltC, e_isN, e_notN, e_pow,
  List.map_cons, List.map_nil, List.length_cons, List.length_nil, List.replicate_succ, List.replicate_zero, List.cons_append, List.nil_append, List.append_nil, List.getElem?_cons_zero, List.getElem?_cons_succ, List.set_cons_zero, List.set_cons_succ, Nat.reduceAdd, Nat.reduceSub, true_and, and_true, Bool.not_true, Bool.not_false, true_implies, forall_const, not_true_eq_false, false_implies, Bool.false_eq_true, not_false_eq_true, implies_true, eq_self, ne_eq, reduceCtorEq, Fl.rt.injEq, S.d.injEq, D.int.injEq, false_and, exists_false, or_false, false_or, exists_eq_left'])
local macro_rules | `(tactic| walk_at "wt") => `(tactic| simp (config := { contextual := false }) only [ok_row0, ok_row1, ok_row2, ok_row3, ok_put1, ok_put2, ok_put3, e_mod, e_div, e_mul, e_ixS, decide_true, decide_false, *, okF_runF, okF_runL, ok_seq, ok_ret, ok_retN, ok_andV, ok_orV, ok_notV, ok_cb, ok_cons, ok_nil, ok_test, ok_dv, ok_op, ok_un, ok_c, ok_if, ok_ifS, ok_and, ok_or, ok_not, ok_asg, ok_gname, ok_drop, ok_call, ok_chain, ok_nx, ok_bk, ok_ct, ok_st, ok_yes, ok_tup, ok_ok, ok_stuck, ex_toD, ex_toL, ex_bl, ex_some, ex_bl1, fl_nx, fl_rt, fl_bk, fl_ct, rt_or, nx_or, mVar, ok1, gIsi, mIsi2, gIsi2, isTy2, isTy, Option.bind, bare, e_add, e_sub, e_int, e_lenS, e_lenT, e_lenL, e_lt, e_le, e_gt, e_ge, e_leC, e_ltC, e_isN, e_notN, e_pow,
  List.map_cons, List.map_nil, List.length_cons, List.length_nil, List.replicate_succ, List.replicate_zero, List.cons_append, List.nil_append, List.append_nil, List.getElem?_cons_zero, List.getElem?_cons_succ, List.set_cons_zero, List.set_cons_succ, Nat.reduceAdd, Nat.reduceSub, true_and, and_true, Bool.not_true, Bool.not_false, true_implies, forall_const, not_true_eq_false, false_implies, Bool.false_eq_true, not_false_eq_true, implies_true, eq_self, ne_eq, reduceCtorEq, Fl.rt.injEq, S.d.injEq, D.int.injEq, false_and, exists_false, or_false, false_or, exists_eq_left'])
local macro_rules | `(tactic| walk_at "wy") => `(tactic| try walk_at "wp")
local macro_rules | `(tactic| walk_at "we") => `(tactic| first | done | rfl | exact ⟨rfl, rfl⟩ | exact ⟨rfl, rfl, rfl⟩)
namespace Lib
theorem pick_at {ns : List Int} {o : Option Nat} {a b c : Int} {r : Nat} {ρ : En} {fl : M S} {ds : List D} {P : S → En → Prop} (e : ρ[r]? = some (rowS o ns a b c)) (h : RowOk a b c) (hl : Ev fl ρ (.lst ds)) (h0 : 0 < ds.length) (h1 : ds.length ≤ 1000)
    (q : ∀ x a b c, x ∈ ds → RowOk a b c → P (.d x) (ρ.set r (rowS o ns a b c))) : OK (mCallO f_law_pick r 0 (aOwn r (aCons fl aNil)) ρ) P := by
  refine ok_callO (ok_own.mpr ⟨own_row e, ?_⟩)
  refine (ea_cons hl ea_nil).ok ⟨o, rowD ns a b c, e, Nat.zero_le _, (pick h h0 h1).imp fun s ρ' hp => ?_⟩
  obtain ⟨x, a', b', c', hx, rfl, h', ρ2, rfl⟩ := hp
  exact ⟨rowD ns a' b' c', rfl, rfl, q x a' b' c' hx h'⟩
end Lib
end Fx
/-! defs of the program and of laws, on data -/
namespace Fx.Lib
open PySem PySem.Spec PyProof.Rows L2
def b_check_node : M Fl := (mIfS (mNot (mTest (mCall f_is_number (aCons (mVar 1) (aCons (mC (.int 0)) (aCons (mOp gMinus (mCB gLen (aCons (mFldE "Graph" 0 (mVar 0)) aNil)) (mC (.int 1))) aNil)))))) mSt mNx)
def f_check_node : Fn := runF 2 2 b_check_node
end Fx.Lib
/-! min(x, default=d) of a list or tuple of data that can be compared -/
namespace Fx
open PySem PySem.Spec PyProof.Rows L2 PySem.SeqAt
open PySem.W (AlikeAll minD alike dataLt min_list_default min_tuple_default readsAll_at)
/-! ### on data -/
end Fx
/-! sorted(xs, key=f), f a def of the program or what may be called so; keys that can be compared -/
namespace Fx
open PySem PySem.Spec PyProof.Rows L2
open PySem.W (AllAlike Sortable dataLe EachIs dataLt KeepsBut copyHeap sortVals SortsAt dataKind)
end Fx
/-! a stable sort that the kernel computes -/
namespace Fx
open PySem PyProof.Rows
open PySem.W
end Fx
/-! sorted(xs, key=f) on data -/
namespace Fx
open PySem PySem.Spec PyProof.Rows L2
open PySem.W (AllAlike Sortable dataLe EachIs)
open C8 (Cal Mak pe_c pe_mk)
end Fx
/-! sorted of a list of data that can be compared: tuples, none empty, or no tuples at all (lists, numbers) -/
namespace Fx
open PySem PySem.Spec PyProof.Rows L2
open PySem.W (AllAlike Sortable dataLe)
end Fx
/-! len(set(x)), x a tuple or a list of integers -/
namespace Fx
open PySem PySem.Spec PyProof.Rows L2
end Fx
/-! the defs of tables and of their laws, on data -/
namespace Fx.Tb
open PySem PySem.Spec PyProof.Rows L2 Lib
end Fx.Tb
/-! dict comprehensions on data -/
namespace Fx
open PySem
local macro_rules | `(tactic| walk_at "wp") => `(tactic| simp only [okF_runF, okF_runL, ok_seq, ok_ret, ok_retN, ok_andV, ok_orV, ok_notV, ok_cb, ok_cons, ok_nil, ok_test, ok_dv, ok_op, ok_un, ok_c, ok_if, ok_ifS, ok_and, ok_or, ok_not, ok_asg, ok_gname, ok_drop, ok_call, ok_chain, ok_nx, ok_bk, ok_ct, ok_st, ok_yes, ok_tup, ok_ok, ok_stuck, ex_toD, ex_toL, ex_bl, ex_some, ex_bl1, fl_nx, fl_rt, fl_bk, fl_ct, rt_or, nx_or, mVar, ok1, gIsi, mIsi2, gIsi2, isTy2, isTy, Option.bind, bare, e_add, e_sub, e_int, e_lenS, e_lenT, e_lenL, e_lt, e_le, e_gt, e_ge, e_leC, e_ltC, e_isN, e_notN, e_pow,
  List.map_cons, List.map_nil, List.length_cons, List.length_nil, List.replicate_succ, List.replicate_zero, List.cons_append, List.nil_append, List.append_nil, List.getElem?_cons_zero, List.getElem?_cons_succ, List.set_cons_zero, List.set_cons_succ, Nat.reduceAdd, Nat.reduceSub, true_and, and_true, Bool.not_true, Bool.not_false, true_implies, forall_const, not_true_eq_false, false_implies, Bool.false_eq_true, not_false_eq_true, implies_true, eq_self, ne_eq, reduceCtorEq, Fl.rt.injEq, S.d.injEq, D.int.injEq, false_and, exists_false, or_false, false_or, exists_eq_left'])
local macro_rules | `(tactic| walk_at "wt") => `(tactic| simp (config := { contextual := false }) only [ok_row0, ok_row1, ok_row2, ok_row3, ok_put1, ok_put2, ok_put3, e_mod, e_div, e_mul, e_ixS, decide_true, decide_false, *, okF_runF, okF_runL, ok_seq, ok_ret, ok_retN, ok_andV, ok_orV, ok_notV, ok_cb, ok_cons, ok_nil, ok_test, ok_dv, ok_op, ok_un, ok_c, ok_if, ok_ifS, ok_and, ok_or, ok_not, ok_asg, ok_gname, ok_drop, ok_call, ok_chain, ok_nx, ok_bk, ok_ct, ok_st, ok_yes, ok_tup, ok_ok, ok_stuck, ex_toD, ex_toL, ex_bl, ex_some, ex_bl1, fl_nx, fl_rt, fl_bk, fl_ct, rt_or, nx_or, mVar, ok1, gIsi, mIsi2, gIsi2, isTy2, isTy, Option.bind, bare, e_add, e_sub, e_int, e_lenS, e_lenT, e_lenL, e_lt, e_le, e_gt, e_ge, e_leC, e_ltC, e_isN, e_notN, e_pow,
  List.map_cons, List.map_nil, List.length_cons, List.length_nil, List.replicate_succ, List.replicate_zero, List.cons_append, List.nil_append, List.append_nil, List.getElem?_cons_zero, List.getElem?_cons_succ, List.set_cons_zero, List.set_cons_succ, Nat.reduceAdd, Nat.reduceSub, true_and, and_true, Bool.not_true, Bool.not_false, true_implies, forall_const, not_true_eq_false, false_implies, Bool.false_eq_true, not_false_eq_true, implies_true, eq_self, ne_eq, reduceCtorEq, Fl.rt.injEq, S.d.injEq, D.int.injEq, false_and, exists_false, or_false, false_or, exists_eq_left'])
local macro_rules | `(tactic| walk_at "wy") => `(tactic| try walk_at "wp")
local macro_rules | `(tactic| walk_at "we") => `(tactic| first | done | rfl | exact ⟨rfl, rfl⟩ | exact ⟨rfl, rfl, rfl⟩)
section
variable {k : Nat} {fk fv : M S} {ρ0 : En} {vf : D → D} {PD : List D × List D → En → Prop}
theorem homog_of {P : D → Bool} (hP : P = isKey ∨ P = isKeyT) {ks : List D} {x : D} (h : ks.all P = true) (hx : P x = true) : homog ks x = true := by
  unfold homog
  rcases hP with rfl | rfl
  · rw [h, hx]; rfl
  · rw [h, hx]; simp
end
end Fx
/-! a while, a stack -/
namespace Fx
open PySem
/-- a while that is sure to end: m counts down -/
theorem ok_while {ft : M Bool} {F : M Fl} {PF : Fl → En → Prop} {I : Nat → En → Prop} (st : ∀ m ρ, I m ρ → OK (ft ρ) fun b ρ1 => (b = true → OK (F ρ1) fun f ρ2 => f = .nx ∧ ∃ m', m' < m ∧ I m' ρ2) ∧ (¬b = true → PF .nx ρ1)) :
    ∀ {fuel m : Nat} {ρ : En}, m < fuel → I m ρ → OK (mWhile ft F fuel ρ) PF
  | 0, _, _, h, _ => absurd h (Nat.not_lt_zero _)
  | fuel + 1, m, ρ, h, hi => by
    unfold mWhile
    rw [ok_then]
    refine (st m ρ hi).imp fun b ρ1 ⟨k1, k2⟩ => ?_
    by_cases hb : b = true
    · rw [if_pos hb, ok_then]
      refine (k1 hb).imp fun f ρ2 ⟨e, m', hm, hi'⟩ => ?_
      subst e
      exact ok_while st (by omega) hi'
    · rw [if_neg hb, ok_ok]
      exact k2 hb
section
variable {ρ : En} {i : Nat} {b : Option Nat} {ds : List D}
theorem eb_truO (e : ρ[i]? = some (some (.o b (.lst ds)))) : EvB (mTruthO i) ρ (!ds.isEmpty) := by
  unfold EvB mTruthO
  rw [e]
  dsimp only
  rw [ok_ok]
  exact ⟨rfl, rfl⟩
end
end Fx
/-! xs.index(x), xs.count(x) of a list of data -/
namespace Fx
open PySem PySem.Spec PyProof.Rows L2 PySem.SeqAt
/-- a list of data and a datum -/
def ListOf (K : PySem.W.Frag) (H : Hp) (x : V) (xs : List V) (ds : List PyData) (d : PyData) : Prop := ∃ (a : Addr) (ys : List V) (y : V), x = .ref a ∧ xs = [y] ∧ SqL K H a ys ∧ Dp K H x (.list ds) ∧ Dp K H y d ∧ d.plain = true ∧ PyData.plainAll ds = true ∧ d.depth ≤ 64
section
variable {X : Cx}
theorem ListOf.reads {pins : List (Addr × Obj)} {s : Shared} {σ : L2.St} {H : Hp} {x : V} {xs : List V} {v : Value} {us : List Value} {ds : List PyData} {d : PyData} (I : Inv X pins σ H s) (rx : RelV x v) (rs : Vals xs us) (h : ListOf X.K H x xs ds d) :
    ∃ (a : Addr) (u : Value) (its : Array Value) (as bs : List Addr), v = .ref a ∧ us = [u] ∧ s.heap.IsList a its ∧ ReadsAll s.heap its.toList ds as ∧ Reads s.heap u d bs ∧ d.plain = true ∧ PyData.plainAll ds = true ∧ d.depth ≤ 64 := by
  obtain ⟨a, ys, y, rfl, rfl, sq, hx, hy, p1, p2, p3⟩ := h
  obtain ⟨u, rfl, ru⟩ := vals1 rs
  cases rx
  obtain ⟨bs, rd⟩ := Dp.reads I d _ _ hy ru
  obtain ⟨as, rl⟩ := Dp.reads I _ _ _ hx rfl
  cases rl with
  | list k1 k2 k3 k4 =>
    rename_i ob vs n _
    refine ⟨a, u, vs, _, bs, rfl, rfl, ⟨ob, k1, k2, n, k3⟩, k4, rd, p1, p2, p3⟩
end
/-! ### on data -/
end Fx
/-! xs.count(x), xs.index(x), xs a name that goes on to change -/
namespace Fx
open PySem PySem.Spec PyProof.Rows L2 PySem.SeqAt
end Fx
/-! lists of numbers on data; statements one after another -/
namespace Fx.Nl
open PySem Lib
abbrev nl (L : List Nat) : List D := L.map fun i : Nat => D.int i
theorem nl_len (a : List Nat) : (nl a).length = a.length := List.length_map _
theorem nl_get {a : List Nat} {i v : Nat} (e : a[i]? = some v) : (nl a)[i]? = some (.int (v : Nat)) := by
  show (a.map fun i : Nat => D.int i)[i]? = _
  rw [List.getElem?_map, e]
  rfl
section
variable {ρ : En} {i j k : Nat} {b : Option Nat} {t : Bool} {x y : D} {xs : List D} {fa fb fe ff : M S} {fA : M (List D)} {ft : M Bool} {F G : M Fl} {PF : Fl → En → Prop}
theorem sq (h : OK (F ρ) fun f ρ1 => f = .nx ∧ OK (G ρ1) PF) : OK (mSeq F G ρ) PF := ok_seqI _ h fun _ h => h
theorem asg (h : Ev fe ρ x) (q : PF .nx (ρ.set i (some (.d x)))) : OK (mAsg fe (gmName i) ρ) PF := by
  rw [ok_asg]
  refine h.dv ?_
  rw [ok_gname]
  exact q
theorem asgL (h : EvA fA ρ xs) (hs : small xs.length = true) (q : PF .nx (ρ.set i (some (.o none (.lst xs))))) : OK (mAsgO i (mLst fA) ρ) PF := by
  rw [ok_asgO, ok_lst]
  exact h.ok ⟨hs, .inl ⟨_, rfl, q⟩⟩
theorem retE (h : Ev fe ρ x) (q : ∀ s, toD s = some x → PF (.rt s) ρ) : OK (mRet fe ρ) PF := by
  rw [ok_ret]
  exact h.raw.imp fun s ρ1 ⟨e1, e2⟩ => by rw [e2]; exact q s e1
theorem ifN (h : EvB ft ρ false) (q : PF .nx ρ) : OK (mIfS ft F mNx ρ) PF := by
  rw [ok_ifS]
  refine h.ok ⟨fun e => (nomatch e), fun _ => ?_⟩
  rw [ok_nx]
  exact q
theorem ifT (h : EvB ft ρ true) (q : OK (F ρ) PF) : OK (mIfS ft F G ρ) PF := by
  rw [ok_ifS]
  exact h.ok ⟨fun _ => q, fun e => absurd rfl e⟩
theorem ifB (h : EvB ft ρ t) (q1 : t = true → OK (F ρ) PF) (q2 : t = false → OK (G ρ) PF) : OK (mIfS ft F G ρ) PF := by
  rw [ok_ifS]
  exact h.ok ⟨fun e => q1 e, fun e => q2 (by simpa using e)⟩
theorem dropE (h : Ev fe ρ x) (q : PF .nx ρ) : OK (mDrop fe ρ) PF := by
  rw [ok_drop]
  exact h.raw.imp fun s ρ1 ⟨e1, e2⟩ => by rw [e2]; exact q
theorem appE (e1 : ρ[i]? = some (some (.o b (.lst xs)))) (h : Ev fe ρ x) (hk : xs.length ≤ 1000000) (q : PF .nx (ρ.set i (some (.o b (.lst (xs ++ [x])))))) : OK (mDrop (mMeth1 i gApp fe) ρ) PF := by
  rw [ok_drop]
  exact ok_appE e1 h hk q
theorem range1 {n : Nat} {P : List D → En → Prop} (h : EvA fA ρ [.int (n : Nat)]) (hn : n ≤ 1000000) (q : P (intsFrom 0 n) ρ) : OK (iRange1 fA ρ) P := by
  refine @ok_range1e _ _ _ ?_
  exact h.ok ⟨(n : Nat), rfl, by omega, by omega, by rw [Int.toNat_natCast]; exact q⟩
end
/-! numbers in lists -/
end Fx.Nl
/-! loops, draws -/
namespace Fx.Nl
open PySem Lib
section
variable {ρ : En} {i j k r : Nat} {o b : Option Nat} {t : Bool} {x y : D} {xs ds : List D} {fa fb fe ff fs fm : M S} {fA : M (List D)} {ft : M Bool} {F G : M Fl} {PF : Fl → En → Prop} {I : Nat → En → Prop} {gm : D → M Unit}
abbrev LP (I : En → Prop) (PF : Fl → En → Prop) : Fl → En → Prop := fun f ρ2 => (f = .nx ∨ f = .ct → I ρ2) ∧ (f = .bk → PF .nx ρ2) ∧ ∀ s, f = .rt s → PF (.rt s) ρ2
theorem fin {I A : Prop} {B : S → Prop} (h : I) : (Fl.nx = .nx ∨ Fl.nx = .ct → I) ∧ (Fl.nx = .bk → A) ∧ ∀ s, Fl.nx = .rt s → B s := ⟨fun _ => h, fun z => (nomatch z), fun _ z => (nomatch z)⟩
/-- a draw within an expression -/
theorem tk {a c d : Int} {ns : List Int} {m : Nat} {P : D → En → Prop} (e : ρ[r]? = some (rowS o ns a c d)) (hr : RowOk a c d) (hm : Ev fm ρ (.int (m : Nat))) (h1 : 0 < m) (h2 : m ≤ 1000000)
    (q : ∀ (v : Nat) a c d, v < m → RowOk a c d → P (.int (v : Nat)) (ρ.set r (rowS o ns a c d))) : OK (dv (mCallO Lib.f_law_taken r 0 (aOwn r (aCons fm aNil))) ρ) P := by
  rw [ok_dv]
  refine ok_taken e hr (hm.dv ⟨rfl, rfl⟩) (by omega) (by omega) fun v a c d v0 v1 h => ?_
  refine ⟨_, rfl, ?_⟩
  have := q v.toNat a c d (by omega) h
  rw [Int.toNat_of_nonneg v0] at this
  exact this
theorem lenO (e : peek ρ i = some (.lst xs)) : Ev (mLenO i) ρ (.int (xs.length : Nat)) := ev_of (by
  unfold mLenO
  rw [e]
  dsimp only
  rw [ok_ok]
  exact ⟨rfl, rfl⟩)
theorem get_erase {α : Type} : ∀ {L : List α} {v : Nat} (hv : v < L.length), (L[v] :: L.eraseIdx v).Perm L
  | [], _, hv => absurd hv (Nat.not_lt_zero _)
  | a :: L, 0, _ => .refl _
  | a :: L, v + 1, hv => by
    have hv' : v < L.length := by simpa using hv
    show (L[v] :: a :: L.eraseIdx v).Perm (a :: L)
    exact (List.Perm.swap _ _ _).trans (List.Perm.cons a (get_erase hv'))
/-- x.append(e), e with effects -/
theorem appM {PF : Fl → En → Prop} (e : ρ[i]? = some (some (.o o (.lst xs)))) (hl : xs.length ≤ 1000000) (h : OK (dv fe ρ) fun y ρ1 => ρ1[i]? = some (some (.o o (.lst xs))) ∧ PF .nx (ρ1.set i (some (.o o (.lst (xs ++ [y])))))) : OK (mDrop (mMeth1 i gApp fe) ρ) PF := by
  rw [ok_drop]
  exact ok_app e (h.imp fun y ρ1 ⟨e1, q⟩ => ⟨e1, decide_eq_true (by omega), q⟩)
theorem perm_pop {α : Type} {L N R : List α} {v : Nat} (h : (N ++ L).Perm R) (hv : v < L.length) : (N ++ [L[v]] ++ L.eraseIdx v).Perm R := by
  refine List.Perm.trans ?_ h
  rw [List.append_assoc]
  refine List.Perm.append_left N ?_
  show (L[v] :: L.eraseIdx v).Perm L
  exact get_erase hv
/-- for i, y in enumerate(xs) -/
theorem forE (h : EvA fA ρ [x]) (hx : itemsD x = some ds) (i0 : I 0 ρ) (st : ∀ k y ρ, ds[k]? = some y → I k ρ → OK (F ((ρ.set i (some (.d (.int (k : Nat))))).set j (some (.d y)))) (LP (I (k + 1)) PF)) (e : ∀ ρ, I ds.length ρ → PF .nx ρ) : OK (mFor (iEnu fA) (gmTup 2 (gmCons (gmName i) (gmCons (gmName j) gmNil))) F ρ) PF := by
  rw [ok_for]
  refine ok_ienu (h.ok ⟨x, ds, rfl, hx, ?_⟩)
  refine ok_loop (I := I) (k := 0) i0 (fun q z ρ hz hI => ?_) fun ρ hI => e ρ (by rw [enumD_length, Nat.zero_add] at hI; exact hI)
  rw [Nat.zero_add] at hI ⊢
  obtain ⟨d, hd, rfl⟩ := enumD_at hz
  refine @ok_gtup2 _ _ _ _ _ _ ?_
  exact st q d ρ hd hI
theorem opR {g : D → D → Option S} {t : Bool} (e : ρ[i]? = some (some (.o o y))) (hc : canFz y = true) (ha : Ev fa ρ x) (eg : g x y = some (.d (.bl t))) : Ev (mOpR g fa i) ρ (.bl t) := by
  unfold Ev
  rw [ok_dv]
  unfold mOpR
  rw [ok_then]
  refine ha.dv ?_
  have el : lendD ρ i = some y := by
    unfold lendD
    rw [e]
    dsimp only
    rw [if_pos hc]
  rw [el]
  dsimp only
  rw [eg]
  dsimp only
  rw [ok_ok]
  exact ⟨_, rfl, rfl, rfl⟩
theorem evNum {v lo hi : Int} (h : EvA fA ρ [.int v, .int lo, .int hi]) : Ev (mCall f_is_number fA) ρ (.bl (decide (lo ≤ v) && decide (v ≤ hi))) := ev_call h ((num (o := some v)).mpr rfl)
theorem evTup {lo hi : Int} (h : EvA fA ρ [.tup ds, .int lo, .int hi]) : Ev (mCall f_is_tuple fA) ρ (.bl (decide (lo ≤ ds.length) && decide ((ds.length : Int) ≤ hi))) := ev_call h (tup.mpr rfl)
theorem evNums {L : List Int} {lo hi : Int} (h : EvA fA ρ [.tup (L.map D.int), .int lo, .int hi]) (hl : L.length ≤ 1000000) : Ev (mCall f_are_numbers fA) ρ (.bl (L.all fun v => decide (lo ≤ v) && decide (v ≤ hi))) := by
  have e : L.map D.int = (L.map some).map oD := by
    rw [List.map_map]
    rfl
  rw [e] at h
  refine ev_call h (nums (by rw [List.length_map]; omega) ?_)
  rw [List.all_map]
  rfl
/-- t[i:i + 2] -/
theorem sl2 {fl fh : M S} {L : List Nat} {i v w : Nat} (ha : Ev fa ρ (.tup (nl L))) (hl : Ev fl ρ (.int (i : Nat))) (hh : Ev fh ρ (.int ((i + 2 : Nat) : Int))) (e1 : L[i]? = some v) (e2 : L[i + 1]? = some w) : Ev (mSl fa (oSome fl) (oSome fh)) ρ (arcD (v, w)) := ev_of (by
  have hi : i + 1 < L.length := (List.getElem?_eq_some_iff.mp e2).1
  refine ok_sl (ha.dv ?_)
  refine ok_osome (hl.dv ⟨_, rfl, ?_⟩)
  refine ok_osome (hh.dv ⟨_, rfl, .d (arcD (v, w)), ?_, rfl, rfl⟩)
  show some (S.d (.tup (cutD (nl L) (some (i : Nat)) (some ((i + 2 : Nat) : Int))))) = _
  have e : cutD (nl L) (some (i : Nat)) (some ((i + 2 : Nat) : Int)) = [.int (v : Nat), .int (w : Nat)] := by
    unfold cutD
    have k1 : HT.sIx (nl L).length 0 (some (i : Int)) = i := by
      show (if (i : Int) < 0 then ((nl L).length + (i : Int)).toNat else min (i : Int).toNat (nl L).length) = _
      rw [if_neg (by omega), nl_len, Int.toNat_natCast, Nat.min_eq_left (by omega)]
    have k2 : HT.sIx (nl L).length (nl L).length (some ((i + 2 : Nat) : Int)) = i + 2 := by
      show (if ((i + 2 : Nat) : Int) < 0 then ((nl L).length + ((i + 2 : Nat) : Int)).toNat else min ((i + 2 : Nat) : Int).toNat (nl L).length) = _
      rw [if_neg (by omega), nl_len, Int.toNat_natCast, Nat.min_eq_left (by omega)]
    rw [k1, k2, show i + 2 - i = 2 by omega, ← List.map_drop, ← List.map_take]
    have e3 : (L.drop i).take 2 = [v, w] := by
      refine List.ext_getElem? fun j => ?_
      rw [List.getElem?_take]
      split
      · rw [List.getElem?_drop]
        rename_i hj
        match j, hj with
        | 0, _ => simpa using e1
        | 1, _ => simpa using e2
      · rename_i hj
        rw [List.getElem?_eq_none (by simp; omega)]
    rw [e3]
    rfl
  rw [e]
  rfl)
theorem lenT (h : Ev fa ρ (.tup ds)) : Ev (mCB gLen (aCons fa aNil)) ρ (.int (ds.length : Nat)) := ev_cb (ea_cons h ea_nil) rfl
theorem lenN {L : List Nat} (h : Ev fa ρ (.tup (nl L))) : Ev (mCB gLen (aCons fa aNil)) ρ (.int (L.length : Nat)) := by
  have := lenT h
  rw [nl_len] at this
  exact this
theorem ixN {L : List Nat} {i v : Nat} (ha : Ev fa ρ (.tup (nl L))) (hb : Ev fb ρ (.int (i : Nat))) (e : L[i]? = some v) : Ev (mOp gIx fa fb) ρ (.int (v : Nat)) := ev_ixT ha hb (nl_get e)
theorem evNumsN {L : List Nat} {hi : Nat} (h : EvA fA ρ [.tup (nl L), .int (0 : Nat), .int (hi : Nat)]) (hl : L.length ≤ 1000000) : Ev (mCall f_are_numbers fA) ρ (.bl (L.all fun v => decide (v ≤ hi))) := by
  have e : nl L = (L.map fun v : Nat => (v : Int)).map D.int := by
    rw [List.map_map]
    rfl
  rw [e] at h
  have := evNums h (by rw [List.length_map]; exact hl)
  rw [List.all_map] at this
  have e2 : (L.all ((fun v : Int => decide (((0 : Nat) : Int) ≤ v) && decide (v ≤ (hi : Nat))) ∘ fun v : Nat => (v : Int))) = L.all fun v => decide (v ≤ hi) := by
    congr 1
    funext v
    show (decide (((0 : Nat) : Int) ≤ (v : Int)) && decide ((v : Int) ≤ (hi : Nat))) = _
    rw [decide_eq_true (by omega), Bool.true_and, Bool.eq_iff_iff, decide_eq_true_iff, decide_eq_true_iff]
    omega
  rw [e2] at this
  exact this
end
end Fx.Nl
/-! data of numbers, texts, None alone (no True or False): what is equal is the same -/
namespace Fx
open PySem
mutual
def nb : Nat → D → Bool
  | _, .non => true
  | _, .int _ => true
  | _, .str _ => true
  | n + 1, .tup ds => nbA n ds
  | n + 1, .lst ds => nbA n ds
  | _, _ => false
def nbA : Nat → List D → Bool
  | _, [] => true
  | n, d :: ds => nb n d && nbA n ds
end
mutual
theorem nb_pl : ∀ {n : Nat} {d : D}, nb n d = true → pl n d = true
  | n, .non, _ => by cases n <;> rfl
  | n, .int i, _ => by cases n <;> rfl
  | n, .str x, _ => by cases n <;> rfl
  | n + 1, .tup ds, h => by
    simp only [nb] at h
    simp only [pl]
    exact nbA_plA h
  | n + 1, .lst ds, h => by
    simp only [nb] at h
    simp only [pl]
    exact nbA_plA h
  | 0, .tup ds, h => by simp [nb] at h
  | 0, .lst ds, h => by simp [nb] at h
  | n, .bl b, h => by cases n <;> simp [nb] at h
  | n, .ty x, h => by cases n <;> simp [nb] at h
  | n, .ins x y, h => by cases n <;> simp [nb] at h
  | n, .dct x y, h => by cases n <;> simp [nb] at h
  | n, .dcq x y, h => by cases n <;> simp [nb] at h
  | n, .scr x, h => by cases n <;> simp [nb] at h
  | n, .fn x, h => by cases n <;> simp [nb] at h
  | n, .xo x y, h => by cases n <;> simp [nb] at h
  | n, .exc, h => by cases n <;> simp [nb] at h
  | n, .rng x y, h => by cases n <;> simp [nb] at h
  | n, .fu, h => by cases n <;> simp [nb] at h
theorem nbA_plA : ∀ {n : Nat} {ds : List D}, nbA n ds = true → plA n ds = true
  | n, [], _ => by cases n <;> rfl
  | n, d :: ds, h => by
    simp only [nbA, Bool.and_eq_true] at h
    simp only [plA, Bool.and_eq_true]
    exact ⟨nb_pl h.1, nbA_plA h.2⟩
end
mutual
theorem nb_mono : ∀ {n m : Nat} {d : D}, n ≤ m → nb n d = true → nb m d = true
  | n, m, .non, _, _ => by cases m <;> rfl
  | n, m, .int i, _, _ => by cases m <;> rfl
  | n, m, .str x, _, _ => by cases m <;> rfl
  | n + 1, m + 1, .tup ds, e, h => by
    simp only [nb] at h ⊢
    exact nbA_mono (Nat.le_of_succ_le_succ e) h
  | n + 1, m + 1, .lst ds, e, h => by
    simp only [nb] at h ⊢
    exact nbA_mono (Nat.le_of_succ_le_succ e) h
  | n + 1, 0, .tup ds, e, h => by omega
  | n + 1, 0, .lst ds, e, h => by omega
  | 0, m, .tup ds, _, h => by simp [nb] at h
  | 0, m, .lst ds, _, h => by simp [nb] at h
  | n, m, .bl b, _, h => by cases n <;> simp [nb] at h
  | n, m, .ty x, _, h => by cases n <;> simp [nb] at h
  | n, m, .ins x y, _, h => by cases n <;> simp [nb] at h
  | n, m, .dct x y, _, h => by cases n <;> simp [nb] at h
  | n, m, .dcq x y, _, h => by cases n <;> simp [nb] at h
  | n, m, .scr x, _, h => by cases n <;> simp [nb] at h
  | n, m, .fn x, _, h => by cases n <;> simp [nb] at h
  | n, m, .xo x y, _, h => by cases n <;> simp [nb] at h
  | n, m, .exc, _, h => by cases n <;> simp [nb] at h
  | n, m, .rng x y, _, h => by cases n <;> simp [nb] at h
  | n, m, .fu, _, h => by cases n <;> simp [nb] at h
theorem nbA_mono : ∀ {n m : Nat} {ds : List D}, n ≤ m → nbA n ds = true → nbA m ds = true
  | n, m, [], _, _ => by cases m <;> rfl
  | n, m, d :: ds, e, h => by
    simp only [nbA, Bool.and_eq_true] at h ⊢
    exact ⟨nb_mono e h.1, nbA_mono e h.2⟩
end
mutual
theorem eqv_nb : ∀ {n m : Nat} {d e : D}, nb n d = true → nb m e = true → (PyData.eqv (toP d) (toP e) = true ↔ d = e)
  | n, m, .non, e, h, k => by cases e <;> cases m <;> simp [toP, nb, PyData.eqv] at k ⊢
  | n, m, .int i, e, h, k => by cases e <;> cases m <;> simp [toP, nb, PyData.eqv] at k ⊢
  | n, m, .str x, e, h, k => by cases e <;> cases m <;> simp [toP, nb, PyData.eqv] at k ⊢
  | n + 1, m, .tup ds, e, h, k => by
    simp only [nb] at h
    cases e <;> cases m <;> simp [toP, nb, PyData.eqv] at k ⊢
    exact eqvA_nb h k
  | n + 1, m, .lst ds, e, h, k => by
    simp only [nb] at h
    cases e <;> cases m <;> simp [toP, nb, PyData.eqv] at k ⊢
    exact eqvA_nb h k
  | 0, m, .tup ds, e, h, k => by simp [nb] at h
  | 0, m, .lst ds, e, h, k => by simp [nb] at h
  | n, m, .bl b, e, h, k => by cases n <;> simp [nb] at h
  | n, m, .ty x, e, h, k => by cases n <;> simp [nb] at h
  | n, m, .ins x y, e, h, k => by cases n <;> simp [nb] at h
  | n, m, .dct x y, e, h, k => by cases n <;> simp [nb] at h
  | n, m, .dcq x y, e, h, k => by cases n <;> simp [nb] at h
  | n, m, .scr x, e, h, k => by cases n <;> simp [nb] at h
  | n, m, .fn x, e, h, k => by cases n <;> simp [nb] at h
  | n, m, .xo x y, e, h, k => by cases n <;> simp [nb] at h
  | n, m, .exc, e, h, k => by cases n <;> simp [nb] at h
  | n, m, .rng x y, e, h, k => by cases n <;> simp [nb] at h
  | n, m, .fu, e, h, k => by cases n <;> simp [nb] at h
theorem eqvA_nb : ∀ {n m : Nat} {ds es : List D}, nbA n ds = true → nbA m es = true → (PyData.eqvAll (toPs ds) (toPs es) = true ↔ ds = es)
  | _, _, [], [], _, _ => by simp [toPs, PyData.eqvAll]
  | _, _, [], _ :: _, _, _ => by simp [toPs, PyData.eqvAll]
  | _, _, _ :: _, [], _, _ => by simp [toPs, PyData.eqvAll]
  | n, m, d :: ds, e :: es, h, k => by
    simp only [nbA, Bool.and_eq_true] at h k
    simp only [toPs, PyData.eqvAll, Bool.and_eq_true, List.cons.injEq]
    rw [eqv_nb h.1 k.1, eqvA_nb h.2 k.2]
end
theorem nbA_iff {n : Nat} {ds : List D} : nbA n ds = true ↔ ∀ d ∈ ds, nb n d = true := by
  induction ds with
  | nil => cases n <;> simp [nbA]
  | cons d ds ih => simp [nbA, ih]
theorem nb_tup {n : Nat} {ds : List D} (h : ∀ d ∈ ds, nb n d = true) : nb (n + 1) (.tup ds) = true := by
  simp only [nb]
  exact nbA_iff.mpr h
theorem nb_lst {n : Nat} {ds : List D} (h : ∀ d ∈ ds, nb n d = true) : nb (n + 1) (.lst ds) = true := by
  simp only [nb]
  exact nbA_iff.mpr h
theorem nb_nl {L : List Nat} : nb 1 (.tup (L.map fun i : Nat => D.int i)) = true := nb_tup fun d hd => by
  obtain ⟨i, _, rfl⟩ := List.mem_map.mp hd
  rfl
theorem eqD_nb {n m : Nat} {x y : D} (hx : nb n x = true) (hy : nb m y = true) : eqD x y = true ↔ x = y := eqv_nb hx hy
theorem nb60 {n : Nat} {x : D} (h : nb n x = true) (hn : n ≤ 60 := by decide) : pl60 x = true := nb_pl (nb_mono hn h)
theorem gEq_nb {n m : Nat} {x y : D} {b : Bool} (hx : nb n x = true) (hy : nb m y = true) (h : b = true ↔ x = y) (hn : n ≤ 60 := by decide) (hm : m ≤ 60 := by decide) : gEq x y = some (.d (.bl b)) := by
  unfold gEq
  rw [nb60 hx hn, nb60 hy hm, show eqD x y = b from by rw [Bool.eq_iff_iff, eqD_nb hx hy, h]]
  rfl
theorem gNe_nb {n m : Nat} {x y : D} {b : Bool} (hx : nb n x = true) (hy : nb m y = true) (h : b = true ↔ x = y) (hn : n ≤ 60 := by decide) (hm : m ≤ 60 := by decide) : gNe x y = some (.d (.bl (!b))) := by
  unfold gNe
  rw [nb60 hx hn, nb60 hy hm, show eqD x y = b from by rw [Bool.eq_iff_iff, eqD_nb hx hy, h]]
  rfl
theorem inD_nb {n m : Nat} {x : D} {ds : List D} (hx : nb n x = true) (hd : ∀ y ∈ ds, nb m y = true) : inD x ds = true ↔ x ∈ ds := by
  unfold inD
  rw [List.any_eq_true]
  constructor
  · rintro ⟨z, hz, e⟩
    rw [eqD_nb (hd z hz) hx] at e
    exact e ▸ hz
  · exact fun h => ⟨x, h, (eqD_nb hx hx).mpr rfl⟩
theorem gInN_nb {n m : Nat} {x Y : D} {ds : List D} {b neg : Bool} (hY : itemsD Y = some ds) (hx : nb n x = true) (hd : ∀ y ∈ ds, nb m y = true) (h : b = true ↔ x ∈ ds) (hn : n ≤ 60 := by decide) (hm : m ≤ 60 := by decide) : gInN neg x Y = some (.d (.bl (if neg then !b else b))) := by
  unfold gInN
  rw [hY]
  dsimp only
  rw [nb60 hx hn, nbA_plA (nbA_mono hm (nbA_iff.mpr hd)), show inD x ds = b from by rw [Bool.eq_iff_iff, inD_nb hx hd, h]]
  rfl
theorem gNotIn_nb {n m : Nat} {x Y : D} {ds : List D} {b : Bool} (hY : itemsD Y = some ds) (hx : nb n x = true) (hd : ∀ y ∈ ds, nb m y = true) (h : b = true ↔ x ∈ ds) (hn : n ≤ 60 := by decide) (hm : m ≤ 60 := by decide) : gNotIn x Y = some (.d (.bl (!b))) := gInN_nb (neg := true) hY hx hd h hn hm
end Fx
/-! tables of prefixes: rules, what fits an address, the best -/
namespace Fx.Tb
open PySem Lib Nl
open PySem.W (dataLt)
abbrev Rl := List Nat × Nat
structure Tab (w m : Nat) (R : List Rl) : Prop where
  nd : (R.map (·.1)).Nodup
  nil : [] ∈ R.map (·.1)
  len : ∀ r ∈ R, r.1.length ≤ w
  bit : ∀ r ∈ R, ∀ b ∈ r.1, b ≤ 1
  lt : ∀ r ∈ R, r.2 < m
  small : R.length ≤ 63
def fits (a : List Nat) (r : Rl) : Bool := decide (a.take r.1.length = r.1)
/-- the law's own choice -/
def btR (best : Option Rl) (r : Rl) : Bool := match best with
  | none => true
  | some b => decide (b.1.length < r.1.length)
def stepR (a : List Nat) (best : Option Rl) (r : Rl) : Option Rl := if fits a r && btR best r then some r else best
def bestR (R : List Rl) (a : List Nat) : Option Rl := R.foldl (stepR a) none
def hop (R : List Rl) (a : List Nat) : Nat := match bestR R a with | some r => r.2 | none => 0
theorem Tab.perm {w m : Nat} {R S : List Rl} (t : Tab w m R) (h : R.Perm S) : Tab w m S where
  nd := (h.map _).nodup_iff.mp t.nd
  nil := (h.map _).mem_iff.mp t.nil
  len := fun r hr => t.len r (h.mem_iff.mpr hr)
  bit := fun r hr => t.bit r (h.mem_iff.mpr hr)
  lt := fun r hr => t.lt r (h.mem_iff.mpr hr)
  small := by rw [← h.length_eq]; exact t.small
/-! the pairs (length, hop) of what fits: the greatest is the best rule's -/
end Fx.Tb
/-! dicts from pairs of numbers, as lists of entries -/
namespace Fx.Nl
open PySem Lib
end Fx.Nl
/-! tables on data: loops over rules, dicts of rules, addresses -/
namespace Fx.Tb
open PySem Lib Nl
/-! ### data -/
/-! ### dicts of rules -/
def putR (kv : List Rl) (p : List Nat) (x : Nat) : List Rl := if kv.any (fun e => decide (p = e.1)) then kv.map fun e => (e.1, if p = e.1 then x else e.2) else kv ++ [(p, x)]
/-- what a dict of rules keeps -/
structure Dct (w m : Nat) (kv : List Rl) : Prop where
  nd : (kv.map (·.1)).Nodup
  nil : [] ∈ kv.map (·.1)
  len : ∀ r ∈ kv, r.1.length ≤ w
  bit : ∀ r ∈ kv, ∀ b ∈ r.1, b ≤ 1
  hop : ∀ r ∈ kv, r.2 < m
theorem Dct.put {w m : Nat} {kv : List Rl} (h : Dct w m kv) {p : List Nat} {x : Nat} (hp : p.length ≤ w) (hb : ∀ b ∈ p, b ≤ 1) (hx : x < m) : Dct w m (putR kv p x) ∧ (putR kv p x).length ≤ kv.length + 1 := by
  unfold putR
  split
  · have e : (kv.map fun e => (e.1, if p = e.1 then x else e.2)).map (·.1) = kv.map (·.1) := by
      rw [List.map_map]
      rfl
    refine ⟨⟨by rw [e]; exact h.nd, by rw [e]; exact h.nil, ?_, ?_, ?_⟩, by rw [List.length_map]; omega⟩
    all_goals
      intro r hr
      obtain ⟨e, he, rfl⟩ := List.mem_map.mp hr
    · exact h.len e he
    · exact h.bit e he
    · show (if p = e.1 then x else e.2) < m
      split
      · exact hx
      · exact h.hop e he
  · rename_i hn
    have nm : p ∉ kv.map (·.1) := fun z => by
      obtain ⟨e, he, ee⟩ := List.mem_map.mp z
      exact hn (List.any_eq_true.mpr ⟨e, he, decide_eq_true ee.symm⟩)
    refine ⟨⟨?_, ?_, ?_, ?_, ?_⟩, by rw [List.length_append]; simp⟩
    · rw [List.map_append, List.nodup_append]
      exact ⟨h.nd, by simp, fun a ha b hb e => nm (by
        have : b = p := List.mem_singleton.mp hb
        rw [this] at e
        rw [← e]
        exact ha)⟩
    · rw [List.map_append]
      exact List.mem_append_left _ h.nil
    all_goals
      intro r hr
      rcases List.mem_append.mp hr with hr | hr
    · exact h.len r hr
    · rw [List.mem_singleton.mp hr]; exact hp
    · exact h.bit r hr
    · rw [List.mem_singleton.mp hr]; exact hb
    · exact h.hop r hr
    · rw [List.mem_singleton.mp hr]; exact hx
/-! ### addresses -/
def addrs : Nat → List (List Nat)
  | 0 => [[]]
  | n + 1 => (addrs n).flatMap fun a => [a ++ [0], a ++ [1]]
end Fx.Tb
/-! tables on data: checks, hops, what a law draws -/
namespace Fx.Tb
open PySem Lib Nl
end Fx.Tb
/-! tables on data: what a law draws -/
namespace Fx.Tb
open PySem Lib Nl
open PySem.W (alike alike_ints alikeAll dataLe)
end Fx.Tb
/-! try: .. except X as e: the suite knows what e is -/
namespace Fx
open PySem PySem.Spec PyProof.Rows L2
open C8 (Cal Mak pe_c pe_mk)
/-! ### nothing of the exception within -/
/-! ### the statement -/
end Fx
/-! in the suite: isinstance(e, X), e.f -/
namespace Fx
open PySem PySem.Spec PyProof.Rows L2
open C8 (Cal Mak pe_c pe_mk)
/-! ### comparisons in a suite -/
end Fx
/-! x(lambda: e), the lambda capturing names: x calls it first of all, in try: .. except .. as .. -/
namespace Fx
open PySem PySem.Spec PyProof.Rows L2
open C8 (Cal Mak pe_c pe_mk)
open LamX (Tabs TabS TabB ExtN CodeO codeO_ne GivesTo tLam lamCx lamEnv pe_lamcall)
/-- the values alone that stay -/
def dOnly : Option S → Option S
  | some (.d x) => some (.d x)
  | _ => none
section
variable {c : Cfg} {B B' : Base} {G H H1 : Hp} {ts ρ : En} {vs : List (Option V)} {σ : L2.St}
theorem Sl.only : ∀ {es : En} {vs : List (Option V)} {own : Owns}, Sl c B G H es vs own → Sl c B' G H (es.map dOnly) vs []
  | _, _, _, .nil => .nil
  | _, _, _, .skip k => .skip (Sl.only k)
  | _, _, _, .d h k => .d h (Sl.only k)
  | _, _, _, .o _ _ k => .skip (Sl.only k)
  | _, _, _, .q _ k => .skip (Sl.only k)
end
section
variable {X : Cx} {c : Cfg} {W : WX} {F : Out S → Out S} {fb : M S} {t : XK → TE}
variable {x a : Str} {cc Pt : Addr} {k kk : Nat} {params : Arguments} {body : Expr} {scope : Scope} {p lpos pos : Pos}
/-! a lambda that changes one owned cell that it captures -/
theorem Rep.swap {B : Base} {s1 s2 : S} {v1 v2 : Option V} {T ρ : En} {V : List (Option V)} {σ : L2.St} {H : Hp} (r : Rep c B (some s1 :: some s2 :: T) (v1 :: v2 :: V) ρ σ H) : Rep c B (some s2 :: some s1 :: T) (v2 :: v1 :: V) ρ σ H := by
  obtain ⟨G, o1, o2, k, h1, h2⟩ := r
  obtain ⟨w1, os1, own1, rfl, e1, rfl, h3⟩ := h1.unone
  obtain ⟨w2, os2, own2, rfl, e2, rfl, h4⟩ := h3.unone
  have pm : (os2 ++ (os1 ++ own2) ++ o2).Perm (os1 ++ (os2 ++ own2) ++ o2) := by
    refine List.Perm.append_right _ ?_
    rw [← List.append_assoc, ← List.append_assoc]
    exact List.Perm.append_right _ List.perm_append_comm
  exact ⟨G, os2 ++ (os1 ++ own2), o2, k.subO (fun p hp => pm.subset hp) (pm.nodup_iff.mpr k.nd), Sl.one e2 (Sl.one e1 h4), h2⟩
end
end Fx
/-! C(..), C's __init__ raising; try: one statement / except X as e -/
namespace Fx
open PySem PySem.Spec PyProof.Rows L2
open C8 (Cal Mak pe_c pe_mk)
open LamX (Tabs TabS TabB ExtN CodeO codeO_ne lamCx lamEnv)
end Fx
/-! what ends in an error, on data -/
namespace Fx
open PySem
section
variable {ρ : En} {e : Err} {fa fb fe : M S} {fA : M (List D)} {xs : List D} {x y : D} {b : Bool} {ft : M Bool} {F G : M Fl} {f : Fn}
theorem OK.eq {α : Type} {m : Out α} {P : α → En → Prop} (h : OK m P) : ∃ a ρ, m = .ok a ρ ∧ P a ρ := h.at
theorem EvA.eq (h : EvA fA ρ xs) : fA ρ = .ok xs ρ := by
  obtain ⟨a, ρ1, e1, rfl, rfl⟩ := OK.at h
  exact e1
theorem EvB.eq (h : EvB ft ρ b) : ft ρ = .ok b ρ := by
  obtain ⟨a, ρ1, e1, rfl, rfl⟩ := OK.at h
  exact e1
theorem Ev.eq (h : Ev fe ρ x) : Fx.dv fe ρ = .ok x ρ := by
  obtain ⟨a, ρ1, e1, rfl, rfl⟩ := OK.at h
  exact e1
end
end Fx
/-! k01: the program's defs on data -/
namespace Fx.Lib
open PySem
local macro_rules | `(tactic| walk_at "wp") => `(tactic| simp only [okF_runF, okF_runL, ok_seq, ok_ret, ok_retN, ok_andV, ok_orV, ok_notV, ok_cb, ok_cons, ok_nil, ok_test, ok_dv, ok_op, ok_un, ok_c, ok_if, ok_ifS, ok_and, ok_or, ok_not, ok_asg, ok_gname, ok_drop, ok_call, ok_chain, ok_nx, ok_bk, ok_ct, ok_st, ok_yes, ok_tup, ok_ok, ok_stuck, ex_toD, ex_toL, ex_bl, ex_some, ex_bl1, fl_nx, fl_rt, fl_bk, fl_ct, rt_or, nx_or, mVar, ok1, gIsi, mIsi2, gIsi2, isTy2, isTy, Option.bind, bare, e_add, e_sub, e_int, e_lenS, e_lenT, e_lenL, e_lt, e_le, e_gt, e_ge, e_leC, e_ltC, e_isN, e_notN, e_pow,
  List.map_cons, List.map_nil, List.length_cons, List.length_nil, List.replicate_succ, List.replicate_zero, List.cons_append, List.nil_append, List.append_nil, List.getElem?_cons_zero, List.getElem?_cons_succ, List.set_cons_zero, List.set_cons_succ, Nat.reduceAdd, Nat.reduceSub, true_and, and_true, Bool.not_true, Bool.not_false, true_implies, forall_const, not_true_eq_false, false_implies, Bool.false_eq_true, not_false_eq_true, implies_true, eq_self, ne_eq, reduceCtorEq, Fl.rt.injEq, S.d.injEq, D.int.injEq, false_and, exists_false, or_false, false_or, exists_eq_left'])
local macro_rules | `(tactic| walk_at "wt") => `(tactic| simp (config := { contextual := false }) only [ok_row0, ok_row1, ok_row2, ok_row3, ok_put1, ok_put2, ok_put3, e_mod, e_div, e_mul, e_ixS, decide_true, decide_false, *, okF_runF, okF_runL, ok_seq, ok_ret, ok_retN, ok_andV, ok_orV, ok_notV, ok_cb, ok_cons, ok_nil, ok_test, ok_dv, ok_op, ok_un, ok_c, ok_if, ok_ifS, ok_and, ok_or, ok_not, ok_asg, ok_gname, ok_drop, ok_call, ok_chain, ok_nx, ok_bk, ok_ct, ok_st, ok_yes, ok_tup, ok_ok, ok_stuck, ex_toD, ex_toL, ex_bl, ex_some, ex_bl1, fl_nx, fl_rt, fl_bk, fl_ct, rt_or, nx_or, mVar, ok1, gIsi, mIsi2, gIsi2, isTy2, isTy, Option.bind, bare, e_add, e_sub, e_int, e_lenS, e_lenT, e_lenL, e_lt, e_le, e_gt, e_ge, e_leC, e_ltC, e_isN, e_notN, e_pow,
  List.map_cons, List.map_nil, List.length_cons, List.length_nil, List.replicate_succ, List.replicate_zero, List.cons_append, List.nil_append, List.append_nil, List.getElem?_cons_zero, List.getElem?_cons_succ, List.set_cons_zero, List.set_cons_succ, Nat.reduceAdd, Nat.reduceSub, true_and, and_true, Bool.not_true, Bool.not_false, true_implies, forall_const, not_true_eq_false, false_implies, Bool.false_eq_true, not_false_eq_true, implies_true, eq_self, ne_eq, reduceCtorEq, Fl.rt.injEq, S.d.injEq, D.int.injEq, false_and, exists_false, or_false, false_or, exists_eq_left'])
local macro_rules | `(tactic| walk_at "wy") => `(tactic| try walk_at "wp")
local macro_rules | `(tactic| walk_at "we") => `(tactic| first | done | rfl | exact ⟨rfl, rfl⟩ | exact ⟨rfl, rfl, rfl⟩)
/-- the heads of node i, ascending -/
def hd (as : List (Nat × Nat)) (i : Nat) : List Nat := (as.filter fun p => decide (p.1 = i)).map fun p => p.2
end Fx.Lib
/-! k01: paths_to on data -/
namespace Fx.Lib
open PySem
local macro_rules | `(tactic| walk_at "wp") => `(tactic| simp only [okF_runF, okF_runL, ok_seq, ok_ret, ok_retN, ok_andV, ok_orV, ok_notV, ok_cb, ok_cons, ok_nil, ok_test, ok_dv, ok_op, ok_un, ok_c, ok_if, ok_ifS, ok_and, ok_or, ok_not, ok_asg, ok_gname, ok_drop, ok_call, ok_chain, ok_nx, ok_bk, ok_ct, ok_st, ok_yes, ok_tup, ok_ok, ok_stuck, ex_toD, ex_toL, ex_bl, ex_some, ex_bl1, fl_nx, fl_rt, fl_bk, fl_ct, rt_or, nx_or, mVar, ok1, gIsi, mIsi2, gIsi2, isTy2, isTy, Option.bind, bare, e_add, e_sub, e_int, e_lenS, e_lenT, e_lenL, e_lt, e_le, e_gt, e_ge, e_leC, e_ltC, e_isN, e_notN, e_pow,
  List.map_cons, List.map_nil, List.length_cons, List.length_nil, List.replicate_succ, List.replicate_zero, List.cons_append, List.nil_append, List.append_nil, List.getElem?_cons_zero, List.getElem?_cons_succ, List.set_cons_zero, List.set_cons_succ, Nat.reduceAdd, Nat.reduceSub, true_and, and_true, Bool.not_true, Bool.not_false, true_implies, forall_const, not_true_eq_false, false_implies, Bool.false_eq_true, not_false_eq_true, implies_true, eq_self, ne_eq, reduceCtorEq, Fl.rt.injEq, S.d.injEq, D.int.injEq, false_and, exists_false, or_false, false_or, exists_eq_left'])
local macro_rules | `(tactic| walk_at "wt") => `(tactic| simp (config := { contextual := false }) only [ok_row0, ok_row1, ok_row2, ok_row3, ok_put1, ok_put2, ok_put3, e_mod, e_div, e_mul, e_ixS, decide_true, decide_false, *, okF_runF, okF_runL, ok_seq, ok_ret, ok_retN, ok_andV, ok_orV, ok_notV, ok_cb, ok_cons, ok_nil, ok_test, ok_dv, ok_op, ok_un, ok_c, ok_if, ok_ifS, ok_and, ok_or, ok_not, ok_asg, ok_gname, ok_drop, ok_call, ok_chain, ok_nx, ok_bk, ok_ct, ok_st, ok_yes, ok_tup, ok_ok, ok_stuck, ex_toD, ex_toL, ex_bl, ex_some, ex_bl1, fl_nx, fl_rt, fl_bk, fl_ct, rt_or, nx_or, mVar, ok1, gIsi, mIsi2, gIsi2, isTy2, isTy, Option.bind, bare, e_add, e_sub, e_int, e_lenS, e_lenT, e_lenL, e_lt, e_le, e_gt, e_ge, e_leC, e_ltC, e_isN, e_notN, e_pow,
  List.map_cons, List.map_nil, List.length_cons, List.length_nil, List.replicate_succ, List.replicate_zero, List.cons_append, List.nil_append, List.append_nil, List.getElem?_cons_zero, List.getElem?_cons_succ, List.set_cons_zero, List.set_cons_succ, Nat.reduceAdd, Nat.reduceSub, true_and, and_true, Bool.not_true, Bool.not_false, true_implies, forall_const, not_true_eq_false, false_implies, Bool.false_eq_true, not_false_eq_true, implies_true, eq_self, ne_eq, reduceCtorEq, Fl.rt.injEq, S.d.injEq, D.int.injEq, false_and, exists_false, or_false, false_or, exists_eq_left'])
local macro_rules | `(tactic| walk_at "wy") => `(tactic| try walk_at "wp")
local macro_rules | `(tactic| walk_at "we") => `(tactic| first | done | rfl | exact ⟨rfl, rfl⟩ | exact ⟨rfl, rfl, rfl⟩)
def lst (p : List Nat) : Nat := p.getLast?.getD 0
/-- the paths a step longer -/
def exts (as : List (Nat × Nat)) (p : List Nat) : List (List Nat) := ((hd as (lst p)).filter fun h => !decide (h ∈ p)).map fun h => p ++ [h]
def wt : Nat → Nat
  | 0 => 1
  | k + 1 => 1 + (k + 1) * wt k
structure Good (n : Nat) (p : List Nat) : Prop where
  ne : p ≠ []
  nd : p.Nodup
  lt : ∀ i ∈ p, i < n
theorem nodup_len {n : Nat} {p : List Nat} (h : p.Nodup) (k : ∀ i ∈ p, i < n) : p.length ≤ n := by
  have h1 : (p.map fun i : Nat => (i : Int)).Nodup := by
    unfold List.Nodup at h ⊢
    rw [List.pairwise_map]
    exact h.imp fun h e => h (by omega)
  have h2 := Rw.len_sub (l := p.map fun i : Nat => (i : Int)) (m := (List.range n).map fun i : Nat => (i : Int)) h1 fun x hx => by
    obtain ⟨i, hi, rfl⟩ := List.mem_map.mp hx
    exact List.mem_map.mpr ⟨i, List.mem_range.mpr (k i hi), rfl⟩
  rw [List.length_map, List.length_map, List.length_range] at h2
  exact h2
end Fx.Lib
/-! k01: paths_to keeps dfs -/
namespace Fx.Lib
open PySem
local macro_rules | `(tactic| walk_at "wp") => `(tactic| simp only [okF_runF, okF_runL, ok_seq, ok_ret, ok_retN, ok_andV, ok_orV, ok_notV, ok_cb, ok_cons, ok_nil, ok_test, ok_dv, ok_op, ok_un, ok_c, ok_if, ok_ifS, ok_and, ok_or, ok_not, ok_asg, ok_gname, ok_drop, ok_call, ok_chain, ok_nx, ok_bk, ok_ct, ok_st, ok_yes, ok_tup, ok_ok, ok_stuck, ex_toD, ex_toL, ex_bl, ex_some, ex_bl1, fl_nx, fl_rt, fl_bk, fl_ct, rt_or, nx_or, mVar, ok1, gIsi, mIsi2, gIsi2, isTy2, isTy, Option.bind, bare, e_add, e_sub, e_int, e_lenS, e_lenT, e_lenL, e_lt, e_le, e_gt, e_ge, e_leC, e_ltC, e_isN, e_notN, e_pow,
  List.map_cons, List.map_nil, List.length_cons, List.length_nil, List.replicate_succ, List.replicate_zero, List.cons_append, List.nil_append, List.append_nil, List.getElem?_cons_zero, List.getElem?_cons_succ, List.set_cons_zero, List.set_cons_succ, Nat.reduceAdd, Nat.reduceSub, true_and, and_true, Bool.not_true, Bool.not_false, true_implies, forall_const, not_true_eq_false, false_implies, Bool.false_eq_true, not_false_eq_true, implies_true, eq_self, ne_eq, reduceCtorEq, Fl.rt.injEq, S.d.injEq, D.int.injEq, false_and, exists_false, or_false, false_or, exists_eq_left'])
local macro_rules | `(tactic| walk_at "wt") => `(tactic| simp (config := { contextual := false }) only [ok_row0, ok_row1, ok_row2, ok_row3, ok_put1, ok_put2, ok_put3, e_mod, e_div, e_mul, e_ixS, decide_true, decide_false, *, okF_runF, okF_runL, ok_seq, ok_ret, ok_retN, ok_andV, ok_orV, ok_notV, ok_cb, ok_cons, ok_nil, ok_test, ok_dv, ok_op, ok_un, ok_c, ok_if, ok_ifS, ok_and, ok_or, ok_not, ok_asg, ok_gname, ok_drop, ok_call, ok_chain, ok_nx, ok_bk, ok_ct, ok_st, ok_yes, ok_tup, ok_ok, ok_stuck, ex_toD, ex_toL, ex_bl, ex_some, ex_bl1, fl_nx, fl_rt, fl_bk, fl_ct, rt_or, nx_or, mVar, ok1, gIsi, mIsi2, gIsi2, isTy2, isTy, Option.bind, bare, e_add, e_sub, e_int, e_lenS, e_lenT, e_lenL, e_lt, e_le, e_gt, e_ge, e_leC, e_ltC, e_isN, e_notN, e_pow,
  List.map_cons, List.map_nil, List.length_cons, List.length_nil, List.replicate_succ, List.replicate_zero, List.cons_append, List.nil_append, List.append_nil, List.getElem?_cons_zero, List.getElem?_cons_succ, List.set_cons_zero, List.set_cons_succ, Nat.reduceAdd, Nat.reduceSub, true_and, and_true, Bool.not_true, Bool.not_false, true_implies, forall_const, not_true_eq_false, false_implies, Bool.false_eq_true, not_false_eq_true, implies_true, eq_self, ne_eq, reduceCtorEq, Fl.rt.injEq, S.d.injEq, D.int.injEq, false_and, exists_false, or_false, false_or, exists_eq_left'])
local macro_rules | `(tactic| walk_at "wy") => `(tactic| try walk_at "wp")
local macro_rules | `(tactic| walk_at "we") => `(tactic| first | done | rfl | exact ⟨rfl, rfl⟩ | exact ⟨rfl, rfl, rfl⟩)
section
variable {ρ : En} {fa fe : M S} {x y : D} {ft : M Bool}
theorem ok_pop {i : Nat} {b : Option Nat} {ds : List D} {P : S → En → Prop} (e : ρ[i]? = some (some (.o b (.lst (ds ++ [x]))))) (q : P (.d x) (ρ.set i (some (.o b (.lst ds))))) : OK (mMeth0 i gPop ρ) P := by
  have eg : gPop (ds ++ [x]) = some (x, ds) := by
    have hi : (ds ++ [x])[(ds ++ [x]).length - 1]? = some x := by
      rw [List.length_append, List.length_singleton, Nat.add_sub_cancel]
      simp
    show (match (ds ++ [x])[(ds ++ [x]).length - 1]? with
      | some y => some (y, (ds ++ [x]).dropLast)
      | none => none) = _
    rw [hi]
    simp
  unfold mMeth0
  rw [e]
  dsimp only
  rw [eg]
  dsimp only
  rw [ok_ok]
  exact q
end
end Fx.Lib
/-! k01: the tree of simple paths -/
namespace Fx.Lib
open PySem
end Fx.Lib
/-! k01: simple_paths, and the law's own paths, on data -/
namespace Fx.Lib
open PySem
local macro_rules | `(tactic| walk_at "wp") => `(tactic| simp only [okF_runF, okF_runL, ok_seq, ok_ret, ok_retN, ok_andV, ok_orV, ok_notV, ok_cb, ok_cons, ok_nil, ok_test, ok_dv, ok_op, ok_un, ok_c, ok_if, ok_ifS, ok_and, ok_or, ok_not, ok_asg, ok_gname, ok_drop, ok_call, ok_chain, ok_nx, ok_bk, ok_ct, ok_st, ok_yes, ok_tup, ok_ok, ok_stuck, ex_toD, ex_toL, ex_bl, ex_some, ex_bl1, fl_nx, fl_rt, fl_bk, fl_ct, rt_or, nx_or, mVar, ok1, gIsi, mIsi2, gIsi2, isTy2, isTy, Option.bind, bare, e_add, e_sub, e_int, e_lenS, e_lenT, e_lenL, e_lt, e_le, e_gt, e_ge, e_leC, e_ltC, e_isN, e_notN, e_pow,
  List.map_cons, List.map_nil, List.length_cons, List.length_nil, List.replicate_succ, List.replicate_zero, List.cons_append, List.nil_append, List.append_nil, List.getElem?_cons_zero, List.getElem?_cons_succ, List.set_cons_zero, List.set_cons_succ, Nat.reduceAdd, Nat.reduceSub, true_and, and_true, Bool.not_true, Bool.not_false, true_implies, forall_const, not_true_eq_false, false_implies, Bool.false_eq_true, not_false_eq_true, implies_true, eq_self, ne_eq, reduceCtorEq, Fl.rt.injEq, S.d.injEq, D.int.injEq, false_and, exists_false, or_false, false_or, exists_eq_left'])
local macro_rules | `(tactic| walk_at "wt") => `(tactic| simp (config := { contextual := false }) only [ok_row0, ok_row1, ok_row2, ok_row3, ok_put1, ok_put2, ok_put3, e_mod, e_div, e_mul, e_ixS, decide_true, decide_false, *, okF_runF, okF_runL, ok_seq, ok_ret, ok_retN, ok_andV, ok_orV, ok_notV, ok_cb, ok_cons, ok_nil, ok_test, ok_dv, ok_op, ok_un, ok_c, ok_if, ok_ifS, ok_and, ok_or, ok_not, ok_asg, ok_gname, ok_drop, ok_call, ok_chain, ok_nx, ok_bk, ok_ct, ok_st, ok_yes, ok_tup, ok_ok, ok_stuck, ex_toD, ex_toL, ex_bl, ex_some, ex_bl1, fl_nx, fl_rt, fl_bk, fl_ct, rt_or, nx_or, mVar, ok1, gIsi, mIsi2, gIsi2, isTy2, isTy, Option.bind, bare, e_add, e_sub, e_int, e_lenS, e_lenT, e_lenL, e_lt, e_le, e_gt, e_ge, e_leC, e_ltC, e_isN, e_notN, e_pow,
  List.map_cons, List.map_nil, List.length_cons, List.length_nil, List.replicate_succ, List.replicate_zero, List.cons_append, List.nil_append, List.append_nil, List.getElem?_cons_zero, List.getElem?_cons_succ, List.set_cons_zero, List.set_cons_succ, Nat.reduceAdd, Nat.reduceSub, true_and, and_true, Bool.not_true, Bool.not_false, true_implies, forall_const, not_true_eq_false, false_implies, Bool.false_eq_true, not_false_eq_true, implies_true, eq_self, ne_eq, reduceCtorEq, Fl.rt.injEq, S.d.injEq, D.int.injEq, false_and, exists_false, or_false, false_or, exists_eq_left'])
local macro_rules | `(tactic| walk_at "wy") => `(tactic| try walk_at "wp")
local macro_rules | `(tactic| walk_at "we") => `(tactic| first | done | rfl | exact ⟨rfl, rfl⟩ | exact ⟨rfl, rfl, rfl⟩)
def grow (as : List (Nat × Nat)) (g : Nat) (st : List (List Nat)) : List (List Nat) := (st.filter fun p => !decide (lst p = g)).flatMap (exts as)
end Fx.Lib
/-! k01: the law's own paths on data -/
namespace Fx.Lib
open PySem
local macro_rules | `(tactic| walk_at "wp") => `(tactic| simp only [okF_runF, okF_runL, ok_seq, ok_ret, ok_retN, ok_andV, ok_orV, ok_notV, ok_cb, ok_cons, ok_nil, ok_test, ok_dv, ok_op, ok_un, ok_c, ok_if, ok_ifS, ok_and, ok_or, ok_not, ok_asg, ok_gname, ok_drop, ok_call, ok_chain, ok_nx, ok_bk, ok_ct, ok_st, ok_yes, ok_tup, ok_ok, ok_stuck, ex_toD, ex_toL, ex_bl, ex_some, ex_bl1, fl_nx, fl_rt, fl_bk, fl_ct, rt_or, nx_or, mVar, ok1, gIsi, mIsi2, gIsi2, isTy2, isTy, Option.bind, bare, e_add, e_sub, e_int, e_lenS, e_lenT, e_lenL, e_lt, e_le, e_gt, e_ge, e_leC, e_ltC, e_isN, e_notN, e_pow,
  List.map_cons, List.map_nil, List.length_cons, List.length_nil, List.replicate_succ, List.replicate_zero, List.cons_append, List.nil_append, List.append_nil, List.getElem?_cons_zero, List.getElem?_cons_succ, List.set_cons_zero, List.set_cons_succ, Nat.reduceAdd, Nat.reduceSub, true_and, and_true, Bool.not_true, Bool.not_false, true_implies, forall_const, not_true_eq_false, false_implies, Bool.false_eq_true, not_false_eq_true, implies_true, eq_self, ne_eq, reduceCtorEq, Fl.rt.injEq, S.d.injEq, D.int.injEq, false_and, exists_false, or_false, false_or, exists_eq_left'])
local macro_rules | `(tactic| walk_at "wt") => `(tactic| simp (config := { contextual := false }) only [ok_row0, ok_row1, ok_row2, ok_row3, ok_put1, ok_put2, ok_put3, e_mod, e_div, e_mul, e_ixS, decide_true, decide_false, *, okF_runF, okF_runL, ok_seq, ok_ret, ok_retN, ok_andV, ok_orV, ok_notV, ok_cb, ok_cons, ok_nil, ok_test, ok_dv, ok_op, ok_un, ok_c, ok_if, ok_ifS, ok_and, ok_or, ok_not, ok_asg, ok_gname, ok_drop, ok_call, ok_chain, ok_nx, ok_bk, ok_ct, ok_st, ok_yes, ok_tup, ok_ok, ok_stuck, ex_toD, ex_toL, ex_bl, ex_some, ex_bl1, fl_nx, fl_rt, fl_bk, fl_ct, rt_or, nx_or, mVar, ok1, gIsi, mIsi2, gIsi2, isTy2, isTy, Option.bind, bare, e_add, e_sub, e_int, e_lenS, e_lenT, e_lenL, e_lt, e_le, e_gt, e_ge, e_leC, e_ltC, e_isN, e_notN, e_pow,
  List.map_cons, List.map_nil, List.length_cons, List.length_nil, List.replicate_succ, List.replicate_zero, List.cons_append, List.nil_append, List.append_nil, List.getElem?_cons_zero, List.getElem?_cons_succ, List.set_cons_zero, List.set_cons_succ, Nat.reduceAdd, Nat.reduceSub, true_and, and_true, Bool.not_true, Bool.not_false, true_implies, forall_const, not_true_eq_false, false_implies, Bool.false_eq_true, not_false_eq_true, implies_true, eq_self, ne_eq, reduceCtorEq, Fl.rt.injEq, S.d.injEq, D.int.injEq, false_and, exists_false, or_false, false_or, exists_eq_left'])
local macro_rules | `(tactic| walk_at "wy") => `(tactic| try walk_at "wp")
local macro_rules | `(tactic| walk_at "we") => `(tactic| first | done | rfl | exact ⟨rfl, rfl⟩ | exact ⟨rfl, rfl, rfl⟩)
end Fx.Lib
/-! distances on data -/
namespace Fx
open PySem
local macro_rules | `(tactic| walk_at "wp") => `(tactic| simp only [okF_runF, okF_runL, ok_seq, ok_ret, ok_retN, ok_andV, ok_orV, ok_notV, ok_cb, ok_cons, ok_nil, ok_test, ok_dv, ok_op, ok_un, ok_c, ok_if, ok_ifS, ok_and, ok_or, ok_not, ok_asg, ok_gname, ok_drop, ok_call, ok_chain, ok_nx, ok_bk, ok_ct, ok_st, ok_yes, ok_tup, ok_ok, ok_stuck, ex_toD, ex_toL, ex_bl, ex_some, ex_bl1, fl_nx, fl_rt, fl_bk, fl_ct, rt_or, nx_or, mVar, ok1, gIsi, mIsi2, gIsi2, isTy2, isTy, Option.bind, bare, e_add, e_sub, e_int, e_lenS, e_lenT, e_lenL, e_lt, e_le, e_gt, e_ge, e_leC, e_ltC, e_isN, e_notN, e_pow,
  List.map_cons, List.map_nil, List.length_cons, List.length_nil, List.replicate_succ, List.replicate_zero, List.cons_append, List.nil_append, List.append_nil, List.getElem?_cons_zero, List.getElem?_cons_succ, List.set_cons_zero, List.set_cons_succ, Nat.reduceAdd, Nat.reduceSub, true_and, and_true, Bool.not_true, Bool.not_false, true_implies, forall_const, not_true_eq_false, false_implies, Bool.false_eq_true, not_false_eq_true, implies_true, eq_self, ne_eq, reduceCtorEq, Fl.rt.injEq, S.d.injEq, D.int.injEq, false_and, exists_false, or_false, false_or, exists_eq_left'])
local macro_rules | `(tactic| walk_at "wt") => `(tactic| simp (config := { contextual := false }) only [ok_row0, ok_row1, ok_row2, ok_row3, ok_put1, ok_put2, ok_put3, e_mod, e_div, e_mul, e_ixS, decide_true, decide_false, *, okF_runF, okF_runL, ok_seq, ok_ret, ok_retN, ok_andV, ok_orV, ok_notV, ok_cb, ok_cons, ok_nil, ok_test, ok_dv, ok_op, ok_un, ok_c, ok_if, ok_ifS, ok_and, ok_or, ok_not, ok_asg, ok_gname, ok_drop, ok_call, ok_chain, ok_nx, ok_bk, ok_ct, ok_st, ok_yes, ok_tup, ok_ok, ok_stuck, ex_toD, ex_toL, ex_bl, ex_some, ex_bl1, fl_nx, fl_rt, fl_bk, fl_ct, rt_or, nx_or, mVar, ok1, gIsi, mIsi2, gIsi2, isTy2, isTy, Option.bind, bare, e_add, e_sub, e_int, e_lenS, e_lenT, e_lenL, e_lt, e_le, e_gt, e_ge, e_leC, e_ltC, e_isN, e_notN, e_pow,
  List.map_cons, List.map_nil, List.length_cons, List.length_nil, List.replicate_succ, List.replicate_zero, List.cons_append, List.nil_append, List.append_nil, List.getElem?_cons_zero, List.getElem?_cons_succ, List.set_cons_zero, List.set_cons_succ, Nat.reduceAdd, Nat.reduceSub, true_and, and_true, Bool.not_true, Bool.not_false, true_implies, forall_const, not_true_eq_false, false_implies, Bool.false_eq_true, not_false_eq_true, implies_true, eq_self, ne_eq, reduceCtorEq, Fl.rt.injEq, S.d.injEq, D.int.injEq, false_and, exists_false, or_false, false_or, exists_eq_left'])
local macro_rules | `(tactic| walk_at "wy") => `(tactic| try walk_at "wp")
local macro_rules | `(tactic| walk_at "we") => `(tactic| first | done | rfl | exact ⟨rfl, rfl⟩ | exact ⟨rfl, rfl, rfl⟩)
theorem ok_gtup3 {i j k : Nat} {x y z : D} {ρ : En} {P : Unit → En → Prop} (h : P () (((ρ.set i (some (.d x))).set j (some (.d y))).set k (some (.d z)))) : OK (gmTup 3 (gmCons (gmName i) (gmCons (gmName j) (gmCons (gmName k) gmNil))) (.tup [x, y, z]) ρ) P := ok_of h
theorem sum_set : ∀ {l : List Nat} {i a b : Nat}, l[i]? = some a → (l.set i b).sum + a = l.sum + b
  | [], _, _, _, e => by simp at e
  | x :: l, 0, a, b, e => by
    simp at e
    subst e
    simp only [List.set_cons_zero, List.sum_cons]
    omega
  | x :: l, i + 1, a, b, e => by
    have := sum_set (l := l) (i := i) (a := a) (b := b) (by simpa using e)
    simp only [List.set_cons_succ, List.sum_cons]
    omega
theorem sum_le {k : Nat} : ∀ {l : List Nat}, (∀ x ∈ l, x ≤ k) → l.sum ≤ k * l.length
  | [], _ => by simp
  | x :: l, h => by
    have := sum_le (l := l) fun y hy => h y (List.mem_cons_of_mem _ hy)
    have := h x List.mem_cons_self
    simp only [List.sum_cons, List.length_cons, Nat.mul_succ]
    omega
namespace Lib
/-- a walk to g, its weight -/
inductive Way (as : List (Nat × Nat)) (ws : List Int) (g : Nat) : Nat → Int → Prop
  | nil : Way as ws g g 0
  | step {v h : Nat} {w x : Int} : ((v, h), w) ∈ as.zip ws → Way as ws g h x → Way as ws g v (x + w)
structure Dist (n g : Nat) (as : List (Nat × Nat)) (ws : List Int) (ds : List (Option Int)) : Prop where
  len : ds.length = n
  goal : ds[g]? = some (some 0)
  fix : ∀ t h w, ((t, h), w) ∈ as.zip ws → ∀ x, ds[h]? = some (some x) → ∃ y, ds[t]? = some (some y) ∧ y ≤ x + w
  way : ∀ v x, ds[v]? = some (some x) → Way as ws g v x
def one : Option Int → Nat
  | some _ => 1
  | none => 0
def cnt (ds : List (Option Int)) : Nat := (ds.map one).sum
def pv : Option Int → Nat
  | some x => x.toNat
  | none => 1000
def pot (ds : List (Option Int)) : Nat := (ds.map pv).sum
structure Relax (n g : Nat) (as : List (Nat × Nat)) (ws : List Int) (ds : List (Option Int)) : Prop where
  len : ds.length = n
  goal : ds[g]? = some (some 0)
  way : ∀ (v : Nat) (x : Int), ds[v]? = some (some x) → Way as ws g v x
  bnd : ∀ (v : Nat) (x : Int), ds[v]? = some (some x) → 0 ≤ x ∧ x + 100 ≤ 100 * (cnt ds : Int)
theorem cnt_set {ds : List (Option Int)} {t : Nat} {o : Option Int} {y : Int} (e : ds[t]? = some o) : cnt (ds.set t (some y)) + one o = cnt ds + 1 := by
  unfold cnt
  rw [List.map_set]
  exact sum_set (by rw [List.getElem?_map, e]; rfl)
theorem pot_set {ds : List (Option Int)} {t : Nat} {o : Option Int} {y : Int} (e : ds[t]? = some o) : pot (ds.set t (some y)) + pv o = pot ds + y.toNat := by
  unfold pot
  rw [List.map_set]
  exact sum_set (by rw [List.getElem?_map, e]; rfl)
theorem cnt_le {ds : List (Option Int)} : cnt ds ≤ ds.length := by
  unfold cnt
  have := sum_le (k := 1) (l := ds.map one) fun x hx => by
    obtain ⟨o, _, rfl⟩ := List.mem_map.mp hx
    cases o <;> simp [one]
  rw [List.length_map] at this
  omega
theorem Relax.step {n g t h : Nat} {w x : Int} {as : List (Nat × Nat)} {ws : List Int} {ds : List (Option Int)} {o : Option Int} (r : Relax n g as ws ds) (hn : n ≤ 8) (hz : ((t, h), w) ∈ as.zip ws) (w1 : 1 ≤ w) (w2 : w ≤ 100) (eh : ds[h]? = some (some x)) (et : ds[t]? = some o) (ho : ∀ y, o = some y → x + w < y) :
    Relax n g as ws (ds.set t (some (x + w))) ∧ pot (ds.set t (some (x + w))) < pot ds := by
  obtain ⟨b1, b2⟩ := r.bnd h x eh
  have ht : t < ds.length := (List.getElem?_eq_some_iff.mp et).1
  have hc := cnt_set (y := x + w) et
  have hp := pot_set (y := x + w) et
  have hl := cnt_le (ds := ds)
  rw [r.len] at hl
  have htg : t ≠ g := fun z => by
    subst z
    rw [r.goal] at et
    cases et
    have := ho 0 rfl
    omega
  have mono : cnt ds ≤ cnt (ds.set t (some (x + w))) := by
    cases o <;> (simp only [one] at hc; omega)
  have hb : 0 ≤ x + w ∧ x + w + 100 ≤ 100 * (cnt (ds.set t (some (x + w))) : Int) := by
    cases o with
    | none => simp only [one] at hc; omega
    | some y =>
      have := ho y rfl
      have := r.bnd t y et
      simp only [one] at hc
      omega
  refine ⟨⟨by rw [List.length_set]; exact r.len, by rw [List.getElem?_set_ne htg]; exact r.goal, fun v y e => ?_, fun v y e => ?_⟩, ?_⟩
  · by_cases hv : t = v
    · subst hv
      rw [List.getElem?_set_self ht] at e
      cases e
      exact .step hz (r.way h x eh)
    · rw [List.getElem?_set_ne hv] at e
      exact r.way v y e
  · by_cases hv : t = v
    · subst hv
      rw [List.getElem?_set_self ht] at e
      cases e
      exact hb
    · rw [List.getElem?_set_ne hv] at e
      have := r.bnd v y e
      omega
  · cases o with
    | none =>
      have hp : pot (ds.set t (some (x + w))) + 1000 = pot ds + (x + w).toNat := hp
      omega
    | some y =>
      have := ho y rfl
      have := (r.bnd t y et).1
      have hp : pot (ds.set t (some (x + w))) + y.toNat = pot ds + (x + w).toNat := hp
      omega
end Lib
end Fx
/-! graphs refused, on data -/
namespace Fx.GE
open PySem Lib
end Fx.GE
/-! next hops on data -/
namespace Fx
open PySem
local macro_rules | `(tactic| walk_at "wp") => `(tactic| simp only [okF_runF, okF_runL, ok_seq, ok_ret, ok_retN, ok_andV, ok_orV, ok_notV, ok_cb, ok_cons, ok_nil, ok_test, ok_dv, ok_op, ok_un, ok_c, ok_if, ok_ifS, ok_and, ok_or, ok_not, ok_asg, ok_gname, ok_drop, ok_call, ok_chain, ok_nx, ok_bk, ok_ct, ok_st, ok_yes, ok_tup, ok_ok, ok_stuck, ex_toD, ex_toL, ex_bl, ex_some, ex_bl1, fl_nx, fl_rt, fl_bk, fl_ct, rt_or, nx_or, mVar, ok1, gIsi, mIsi2, gIsi2, isTy2, isTy, Option.bind, bare, e_add, e_sub, e_int, e_lenS, e_lenT, e_lenL, e_lt, e_le, e_gt, e_ge, e_leC, e_ltC, e_isN, e_notN, e_pow,
  List.map_cons, List.map_nil, List.length_cons, List.length_nil, List.replicate_succ, List.replicate_zero, List.cons_append, List.nil_append, List.append_nil, List.getElem?_cons_zero, List.getElem?_cons_succ, List.set_cons_zero, List.set_cons_succ, Nat.reduceAdd, Nat.reduceSub, true_and, and_true, Bool.not_true, Bool.not_false, true_implies, forall_const, not_true_eq_false, false_implies, Bool.false_eq_true, not_false_eq_true, implies_true, eq_self, ne_eq, reduceCtorEq, Fl.rt.injEq, S.d.injEq, D.int.injEq, false_and, exists_false, or_false, false_or, exists_eq_left'])
local macro_rules | `(tactic| walk_at "wt") => `(tactic| simp (config := { contextual := false }) only [ok_row0, ok_row1, ok_row2, ok_row3, ok_put1, ok_put2, ok_put3, e_mod, e_div, e_mul, e_ixS, decide_true, decide_false, *, okF_runF, okF_runL, ok_seq, ok_ret, ok_retN, ok_andV, ok_orV, ok_notV, ok_cb, ok_cons, ok_nil, ok_test, ok_dv, ok_op, ok_un, ok_c, ok_if, ok_ifS, ok_and, ok_or, ok_not, ok_asg, ok_gname, ok_drop, ok_call, ok_chain, ok_nx, ok_bk, ok_ct, ok_st, ok_yes, ok_tup, ok_ok, ok_stuck, ex_toD, ex_toL, ex_bl, ex_some, ex_bl1, fl_nx, fl_rt, fl_bk, fl_ct, rt_or, nx_or, mVar, ok1, gIsi, mIsi2, gIsi2, isTy2, isTy, Option.bind, bare, e_add, e_sub, e_int, e_lenS, e_lenT, e_lenL, e_lt, e_le, e_gt, e_ge, e_leC, e_ltC, e_isN, e_notN, e_pow,
  List.map_cons, List.map_nil, List.length_cons, List.length_nil, List.replicate_succ, List.replicate_zero, List.cons_append, List.nil_append, List.append_nil, List.getElem?_cons_zero, List.getElem?_cons_succ, List.set_cons_zero, List.set_cons_succ, Nat.reduceAdd, Nat.reduceSub, true_and, and_true, Bool.not_true, Bool.not_false, true_implies, forall_const, not_true_eq_false, false_implies, Bool.false_eq_true, not_false_eq_true, implies_true, eq_self, ne_eq, reduceCtorEq, Fl.rt.injEq, S.d.injEq, D.int.injEq, false_and, exists_false, or_false, false_or, exists_eq_left'])
local macro_rules | `(tactic| walk_at "wy") => `(tactic| try walk_at "wp")
local macro_rules | `(tactic| walk_at "we") => `(tactic| first | done | rfl | exact ⟨rfl, rfl⟩ | exact ⟨rfl, rfl, rfl⟩)
section
variable {ρ : En} {x y z : D} {fa fb fe : M S} {ft : M Bool}
theorem ev_catT {xs ys : List D} (ha : Ev fa ρ (.tup xs)) (hb : Ev fb ρ (.tup ys)) (hs : small (xs.length + ys.length) = true) : Ev (mOp gAdd fa fb) ρ (.tup (xs ++ ys)) := ev_op ha hb (by
  show (if small (xs.length + ys.length) then some (S.d (.tup (xs ++ ys))) else none) = _
  rw [if_pos hs])
end
namespace Lib
/-! distances are one -/
theorem Way.le {n g : Nat} {as : List (Nat × Nat)} {ws ws' : List Int} {ds : List (Option Int)} (d : Dist n g as ws ds) (h : ∀ p w', (p, w') ∈ as.zip ws' → ∃ w, w ≤ w' ∧ (p, w) ∈ as.zip ws) : ∀ {v : Nat} {x' : Int}, Way as ws' g v x' → ∃ x, x ≤ x' ∧ ds[v]? = some (some x) := by
  intro v x' hw
  induction hw with
  | nil => exact ⟨0, Int.le_refl _, d.goal⟩
  | step hz _ ih =>
    obtain ⟨x, h1, h2⟩ := ih
    obtain ⟨w, h3, h4⟩ := h _ _ hz
    obtain ⟨y, h5, h6⟩ := d.fix _ _ _ h4 x h2
    exact ⟨y, by omega, h5⟩
theorem Way.some {n g : Nat} {as : List (Nat × Nat)} {ws ws' : List Int} {ds : List (Option Int)} (d : Dist n g as ws ds) (h : ∀ p w', (p, w') ∈ as.zip ws' → ∃ w, (p, w) ∈ as.zip ws) : ∀ {v : Nat} {x' : Int}, Way as ws' g v x' → ∃ x, ds[v]? = .some (.some x) := by
  intro v x' hw
  induction hw with
  | nil => exact ⟨0, d.goal⟩
  | step hz _ ih =>
    obtain ⟨x, h2⟩ := ih
    obtain ⟨w, h4⟩ := h _ _ hz
    obtain ⟨y, h5, _⟩ := d.fix _ _ _ h4 x h2
    exact ⟨y, h5⟩
theorem Dist.one {n g : Nat} {as : List (Nat × Nat)} {ws : List Int} {ds ds' : List (Option Int)} (d : Dist n g as ws ds) (d' : Dist n g as ws ds') : ds' = ds := by
  have key : ∀ {a b : List (Option Int)}, Dist n g as ws a → Dist n g as ws b → ∀ (v : Nat) (x : Int), a[v]? = some (some x) → b[v]? = some (some x) := by
    intro a b da db v x e
    obtain ⟨y, h1, h2⟩ := (da.way v x e).le db fun p w h => ⟨w, Int.le_refl _, h⟩
    obtain ⟨z, h3, h4⟩ := (db.way v y h2).le da fun p w h => ⟨w, Int.le_refl _, h⟩
    rw [e] at h4
    cases h4
    have : x = y := by omega
    rw [this]
    exact h2
  refine List.ext_getElem? fun v => ?_
  by_cases hv : v < n
  · obtain ⟨a, ea⟩ : ∃ a, ds[v]? = some a := ⟨_, List.getElem?_eq_getElem (by rw [d.len]; exact hv)⟩
    obtain ⟨b, eb⟩ : ∃ b, ds'[v]? = some b := ⟨_, List.getElem?_eq_getElem (by rw [d'.len]; exact hv)⟩
    cases b with
    | some x => rw [eb, key d' d v x eb]
    | none =>
      cases a with
      | none => rw [ea, eb]
      | some x =>
        rw [key d d' v x ea] at eb
        cases eb
  · rw [List.getElem?_eq_none (by rw [d'.len]; omega), List.getElem?_eq_none (by rw [d.len]; omega)]
end Lib
end Fx
/-! paths by their weights: paths_to over arcs that need not be few; nearest_paths -/
namespace Fx.Lib
open PySem
local macro_rules | `(tactic| walk_at "wp") => `(tactic| simp only [okF_runF, okF_runL, ok_seq, ok_ret, ok_retN, ok_andV, ok_orV, ok_notV, ok_cb, ok_cons, ok_nil, ok_test, ok_dv, ok_op, ok_un, ok_c, ok_if, ok_ifS, ok_and, ok_or, ok_not, ok_asg, ok_gname, ok_drop, ok_call, ok_chain, ok_nx, ok_bk, ok_ct, ok_st, ok_yes, ok_tup, ok_ok, ok_stuck, ex_toD, ex_toL, ex_bl, ex_some, ex_bl1, fl_nx, fl_rt, fl_bk, fl_ct, rt_or, nx_or, mVar, ok1, gIsi, mIsi2, gIsi2, isTy2, isTy, Option.bind, bare, e_add, e_sub, e_int, e_lenS, e_lenT, e_lenL, e_lt, e_le, e_gt, e_ge, e_leC, e_ltC, e_isN, e_notN, e_pow,
  List.map_cons, List.map_nil, List.length_cons, List.length_nil, List.replicate_succ, List.replicate_zero, List.cons_append, List.nil_append, List.append_nil, List.getElem?_cons_zero, List.getElem?_cons_succ, List.set_cons_zero, List.set_cons_succ, Nat.reduceAdd, Nat.reduceSub, true_and, and_true, Bool.not_true, Bool.not_false, true_implies, forall_const, not_true_eq_false, false_implies, Bool.false_eq_true, not_false_eq_true, implies_true, eq_self, ne_eq, reduceCtorEq, Fl.rt.injEq, S.d.injEq, D.int.injEq, false_and, exists_false, or_false, false_or, exists_eq_left'])
local macro_rules | `(tactic| walk_at "wt") => `(tactic| simp (config := { contextual := false }) only [ok_row0, ok_row1, ok_row2, ok_row3, ok_put1, ok_put2, ok_put3, e_mod, e_div, e_mul, e_ixS, decide_true, decide_false, *, okF_runF, okF_runL, ok_seq, ok_ret, ok_retN, ok_andV, ok_orV, ok_notV, ok_cb, ok_cons, ok_nil, ok_test, ok_dv, ok_op, ok_un, ok_c, ok_if, ok_ifS, ok_and, ok_or, ok_not, ok_asg, ok_gname, ok_drop, ok_call, ok_chain, ok_nx, ok_bk, ok_ct, ok_st, ok_yes, ok_tup, ok_ok, ok_stuck, ex_toD, ex_toL, ex_bl, ex_some, ex_bl1, fl_nx, fl_rt, fl_bk, fl_ct, rt_or, nx_or, mVar, ok1, gIsi, mIsi2, gIsi2, isTy2, isTy, Option.bind, bare, e_add, e_sub, e_int, e_lenS, e_lenT, e_lenL, e_lt, e_le, e_gt, e_ge, e_leC, e_ltC, e_isN, e_notN, e_pow,
  List.map_cons, List.map_nil, List.length_cons, List.length_nil, List.replicate_succ, List.replicate_zero, List.cons_append, List.nil_append, List.append_nil, List.getElem?_cons_zero, List.getElem?_cons_succ, List.set_cons_zero, List.set_cons_succ, Nat.reduceAdd, Nat.reduceSub, true_and, and_true, Bool.not_true, Bool.not_false, true_implies, forall_const, not_true_eq_false, false_implies, Bool.false_eq_true, not_false_eq_true, implies_true, eq_self, ne_eq, reduceCtorEq, Fl.rt.injEq, S.d.injEq, D.int.injEq, false_and, exists_false, or_false, false_or, exists_eq_left'])
local macro_rules | `(tactic| walk_at "wy") => `(tactic| try walk_at "wp")
local macro_rules | `(tactic| walk_at "we") => `(tactic| first | done | rfl | exact ⟨rfl, rfl⟩ | exact ⟨rfl, rfl, rfl⟩)
/-! ranks -/
/-- nearer, or as near and of a lower number -/
def nearer (ds : List (Option Int)) (u v : Nat) : Bool := match ds[u]?, ds[v]? with
  | some (some x), some (some y) => decide (x < y ∨ (x = y ∧ u < v))
  | _, _ => false
def rk (ds : List (Option Int)) (v : Nat) : Nat := ((List.range ds.length).filter fun u => nearer ds u v).length
theorem OkArcs.sub {n : Nat} {as bs : List (Nat × Nat)} (o : OkArcs n as) (h : bs.Sublist as) : OkArcs n bs := ⟨fun p hp => o.rng p (h.subset hp), o.asc.sublist h⟩
end Fx.Lib
/-! spares on data; ways by next hops -/
namespace Fx
open PySem
local macro_rules | `(tactic| walk_at "wp") => `(tactic| simp only [okF_runF, okF_runL, ok_seq, ok_ret, ok_retN, ok_andV, ok_orV, ok_notV, ok_cb, ok_cons, ok_nil, ok_test, ok_dv, ok_op, ok_un, ok_c, ok_if, ok_ifS, ok_and, ok_or, ok_not, ok_asg, ok_gname, ok_drop, ok_call, ok_chain, ok_nx, ok_bk, ok_ct, ok_st, ok_yes, ok_tup, ok_ok, ok_stuck, ex_toD, ex_toL, ex_bl, ex_some, ex_bl1, fl_nx, fl_rt, fl_bk, fl_ct, rt_or, nx_or, mVar, ok1, gIsi, mIsi2, gIsi2, isTy2, isTy, Option.bind, bare, e_add, e_sub, e_int, e_lenS, e_lenT, e_lenL, e_lt, e_le, e_gt, e_ge, e_leC, e_ltC, e_isN, e_notN, e_pow,
  List.map_cons, List.map_nil, List.length_cons, List.length_nil, List.replicate_succ, List.replicate_zero, List.cons_append, List.nil_append, List.append_nil, List.getElem?_cons_zero, List.getElem?_cons_succ, List.set_cons_zero, List.set_cons_succ, Nat.reduceAdd, Nat.reduceSub, true_and, and_true, Bool.not_true, Bool.not_false, true_implies, forall_const, not_true_eq_false, false_implies, Bool.false_eq_true, not_false_eq_true, implies_true, eq_self, ne_eq, reduceCtorEq, Fl.rt.injEq, S.d.injEq, D.int.injEq, false_and, exists_false, or_false, false_or, exists_eq_left'])
local macro_rules | `(tactic| walk_at "wt") => `(tactic| simp (config := { contextual := false }) only [ok_row0, ok_row1, ok_row2, ok_row3, ok_put1, ok_put2, ok_put3, e_mod, e_div, e_mul, e_ixS, decide_true, decide_false, *, okF_runF, okF_runL, ok_seq, ok_ret, ok_retN, ok_andV, ok_orV, ok_notV, ok_cb, ok_cons, ok_nil, ok_test, ok_dv, ok_op, ok_un, ok_c, ok_if, ok_ifS, ok_and, ok_or, ok_not, ok_asg, ok_gname, ok_drop, ok_call, ok_chain, ok_nx, ok_bk, ok_ct, ok_st, ok_yes, ok_tup, ok_ok, ok_stuck, ex_toD, ex_toL, ex_bl, ex_some, ex_bl1, fl_nx, fl_rt, fl_bk, fl_ct, rt_or, nx_or, mVar, ok1, gIsi, mIsi2, gIsi2, isTy2, isTy, Option.bind, bare, e_add, e_sub, e_int, e_lenS, e_lenT, e_lenL, e_lt, e_le, e_gt, e_ge, e_leC, e_ltC, e_isN, e_notN, e_pow,
  List.map_cons, List.map_nil, List.length_cons, List.length_nil, List.replicate_succ, List.replicate_zero, List.cons_append, List.nil_append, List.append_nil, List.getElem?_cons_zero, List.getElem?_cons_succ, List.set_cons_zero, List.set_cons_succ, Nat.reduceAdd, Nat.reduceSub, true_and, and_true, Bool.not_true, Bool.not_false, true_implies, forall_const, not_true_eq_false, false_implies, Bool.false_eq_true, not_false_eq_true, implies_true, eq_self, ne_eq, reduceCtorEq, Fl.rt.injEq, S.d.injEq, D.int.injEq, false_and, exists_false, or_false, false_or, exists_eq_left'])
local macro_rules | `(tactic| walk_at "wy") => `(tactic| try walk_at "wp")
local macro_rules | `(tactic| walk_at "we") => `(tactic| first | done | rfl | exact ⟨rfl, rfl⟩ | exact ⟨rfl, rfl, rfl⟩)
namespace Lib
/-! ways along arcs of least ways -/
/-! the program's spares -/
end Lib
end Fx
/-! the weight of a path, the least ones among the simple paths -/
namespace Fx.Lib
open PySem
/-- the weight of an arc -/
def wof (as : List (Nat × Nat)) (ws : List Int) (a : Nat × Nat) : Int := match as.findIdx? fun p => decide (p = a) with
  | some j => ws.getD j 0
  | none => 0
def cost (as : List (Nat × Nat)) (ws : List Int) (p : List Nat) : Int := ((List.range (p.length - 1)).map fun i => wof as ws (p.getD i 0, p.getD (i + 1) 0)).sum
end Fx.Lib
/-! the laws' least paths, on data -/
namespace Fx
open PySem
open PySem.W (dataLt dataLt_pair dataLt_int alike alike_ints)
local macro_rules | `(tactic| walk_at "wp") => `(tactic| simp only [okF_runF, okF_runL, ok_seq, ok_ret, ok_retN, ok_andV, ok_orV, ok_notV, ok_cb, ok_cons, ok_nil, ok_test, ok_dv, ok_op, ok_un, ok_c, ok_if, ok_ifS, ok_and, ok_or, ok_not, ok_asg, ok_gname, ok_drop, ok_call, ok_chain, ok_nx, ok_bk, ok_ct, ok_st, ok_yes, ok_tup, ok_ok, ok_stuck, ex_toD, ex_toL, ex_bl, ex_some, ex_bl1, fl_nx, fl_rt, fl_bk, fl_ct, rt_or, nx_or, mVar, ok1, gIsi, mIsi2, gIsi2, isTy2, isTy, Option.bind, bare, e_add, e_sub, e_int, e_lenS, e_lenT, e_lenL, e_lt, e_le, e_gt, e_ge, e_leC, e_ltC, e_isN, e_notN, e_pow,
  List.map_cons, List.map_nil, List.length_cons, List.length_nil, List.replicate_succ, List.replicate_zero, List.cons_append, List.nil_append, List.append_nil, List.getElem?_cons_zero, List.getElem?_cons_succ, List.set_cons_zero, List.set_cons_succ, Nat.reduceAdd, Nat.reduceSub, true_and, and_true, Bool.not_true, Bool.not_false, true_implies, forall_const, not_true_eq_false, false_implies, Bool.false_eq_true, not_false_eq_true, implies_true, eq_self, ne_eq, reduceCtorEq, Fl.rt.injEq, S.d.injEq, D.int.injEq, false_and, exists_false, or_false, false_or, exists_eq_left'])
local macro_rules | `(tactic| walk_at "wt") => `(tactic| simp (config := { contextual := false }) only [ok_row0, ok_row1, ok_row2, ok_row3, ok_put1, ok_put2, ok_put3, e_mod, e_div, e_mul, e_ixS, decide_true, decide_false, *, okF_runF, okF_runL, ok_seq, ok_ret, ok_retN, ok_andV, ok_orV, ok_notV, ok_cb, ok_cons, ok_nil, ok_test, ok_dv, ok_op, ok_un, ok_c, ok_if, ok_ifS, ok_and, ok_or, ok_not, ok_asg, ok_gname, ok_drop, ok_call, ok_chain, ok_nx, ok_bk, ok_ct, ok_st, ok_yes, ok_tup, ok_ok, ok_stuck, ex_toD, ex_toL, ex_bl, ex_some, ex_bl1, fl_nx, fl_rt, fl_bk, fl_ct, rt_or, nx_or, mVar, ok1, gIsi, mIsi2, gIsi2, isTy2, isTy, Option.bind, bare, e_add, e_sub, e_int, e_lenS, e_lenT, e_lenL, e_lt, e_le, e_gt, e_ge, e_leC, e_ltC, e_isN, e_notN, e_pow,
  List.map_cons, List.map_nil, List.length_cons, List.length_nil, List.replicate_succ, List.replicate_zero, List.cons_append, List.nil_append, List.append_nil, List.getElem?_cons_zero, List.getElem?_cons_succ, List.set_cons_zero, List.set_cons_succ, Nat.reduceAdd, Nat.reduceSub, true_and, and_true, Bool.not_true, Bool.not_false, true_implies, forall_const, not_true_eq_false, false_implies, Bool.false_eq_true, not_false_eq_true, implies_true, eq_self, ne_eq, reduceCtorEq, Fl.rt.injEq, S.d.injEq, D.int.injEq, false_and, exists_false, or_false, false_or, exists_eq_left'])
local macro_rules | `(tactic| walk_at "wy") => `(tactic| try walk_at "wp")
local macro_rules | `(tactic| walk_at "we") => `(tactic| first | done | rfl | exact ⟨rfl, rfl⟩ | exact ⟨rfl, rfl, rfl⟩)
end Fx
namespace Fx.Lib
open PySem
open PySem.W (dataLt dataLt_pair dataLt_int alike alike_ints)
local macro_rules | `(tactic| walk_at "wp") => `(tactic| simp only [okF_runF, okF_runL, ok_seq, ok_ret, ok_retN, ok_andV, ok_orV, ok_notV, ok_cb, ok_cons, ok_nil, ok_test, ok_dv, ok_op, ok_un, ok_c, ok_if, ok_ifS, ok_and, ok_or, ok_not, ok_asg, ok_gname, ok_drop, ok_call, ok_chain, ok_nx, ok_bk, ok_ct, ok_st, ok_yes, ok_tup, ok_ok, ok_stuck, ex_toD, ex_toL, ex_bl, ex_some, ex_bl1, fl_nx, fl_rt, fl_bk, fl_ct, rt_or, nx_or, mVar, ok1, gIsi, mIsi2, gIsi2, isTy2, isTy, Option.bind, bare, e_add, e_sub, e_int, e_lenS, e_lenT, e_lenL, e_lt, e_le, e_gt, e_ge, e_leC, e_ltC, e_isN, e_notN, e_pow,
  List.map_cons, List.map_nil, List.length_cons, List.length_nil, List.replicate_succ, List.replicate_zero, List.cons_append, List.nil_append, List.append_nil, List.getElem?_cons_zero, List.getElem?_cons_succ, List.set_cons_zero, List.set_cons_succ, Nat.reduceAdd, Nat.reduceSub, true_and, and_true, Bool.not_true, Bool.not_false, true_implies, forall_const, not_true_eq_false, false_implies, Bool.false_eq_true, not_false_eq_true, implies_true, eq_self, ne_eq, reduceCtorEq, Fl.rt.injEq, S.d.injEq, D.int.injEq, false_and, exists_false, or_false, false_or, exists_eq_left'])
local macro_rules | `(tactic| walk_at "wt") => `(tactic| simp (config := { contextual := false }) only [ok_row0, ok_row1, ok_row2, ok_row3, ok_put1, ok_put2, ok_put3, e_mod, e_div, e_mul, e_ixS, decide_true, decide_false, *, okF_runF, okF_runL, ok_seq, ok_ret, ok_retN, ok_andV, ok_orV, ok_notV, ok_cb, ok_cons, ok_nil, ok_test, ok_dv, ok_op, ok_un, ok_c, ok_if, ok_ifS, ok_and, ok_or, ok_not, ok_asg, ok_gname, ok_drop, ok_call, ok_chain, ok_nx, ok_bk, ok_ct, ok_st, ok_yes, ok_tup, ok_ok, ok_stuck, ex_toD, ex_toL, ex_bl, ex_some, ex_bl1, fl_nx, fl_rt, fl_bk, fl_ct, rt_or, nx_or, mVar, ok1, gIsi, mIsi2, gIsi2, isTy2, isTy, Option.bind, bare, e_add, e_sub, e_int, e_lenS, e_lenT, e_lenL, e_lt, e_le, e_gt, e_ge, e_leC, e_ltC, e_isN, e_notN, e_pow,
  List.map_cons, List.map_nil, List.length_cons, List.length_nil, List.replicate_succ, List.replicate_zero, List.cons_append, List.nil_append, List.append_nil, List.getElem?_cons_zero, List.getElem?_cons_succ, List.set_cons_zero, List.set_cons_succ, Nat.reduceAdd, Nat.reduceSub, true_and, and_true, Bool.not_true, Bool.not_false, true_implies, forall_const, not_true_eq_false, false_implies, Bool.false_eq_true, not_false_eq_true, implies_true, eq_self, ne_eq, reduceCtorEq, Fl.rt.injEq, S.d.injEq, D.int.injEq, false_and, exists_false, or_false, false_or, exists_eq_left'])
local macro_rules | `(tactic| walk_at "wy") => `(tactic| try walk_at "wp")
local macro_rules | `(tactic| walk_at "we") => `(tactic| first | done | rfl | exact ⟨rfl, rfl⟩ | exact ⟨rfl, rfl, rfl⟩)
end Fx.Lib
/-! what a taker gives, on data; slices of tuples -/
namespace Fx
open PySem Lib
def got : Out S → Option D
  | .ok (.d x) _ => some x
  | _ => none
section
variable {ρ : En} {e : Err} {fa fb fe : M S} {fA : M (List D)} {xs : List D} {x y : D} {F : Out S → Out S}
theorem ev_slTo {k : Nat} (ha : Ev fa ρ (.tup xs)) (hb : Ev fb ρ (.int (k : Nat))) : Ev (mSl fa oNone (oSome fb)) ρ (.tup (xs.take k)) := ev_of (ok_slTo (ha.dv (hb.dv ⟨xs, k, rfl, rfl, by omega, by rw [Int.toNat_natCast]; exact ⟨rfl, rfl⟩⟩)))
end
end Fx
/-! range objects as values -/
namespace Fx
open PySem PySem.Spec PyProof.Rows L2
end Fx
/-! sorted(t), t a tuple of ints -/
namespace Fx
open PySem PySem.Spec PyProof.Rows L2
end Fx
/-! defs of the program and of laws, on data -/
namespace Fx.Lib
open PySem PySem.Spec PyProof.Rows L2
end Fx.Lib
/-! what stays of some nodes when those without a head among them go, again and again; walks among what stays -/
namespace Fx.Ring
/-- unlike numbers below n are at most n -/
theorem nodup_le : ∀ {n : Nat} {W : List Nat}, W.Nodup → (∀ v ∈ W, v < n) → W.length ≤ n
  | 0, W, _, h => by
    cases W with
    | nil => exact Nat.le_refl _
    | cons v W => exact absurd (h v List.mem_cons_self) (Nat.not_lt_zero _)
  | n + 1, W, nd, h => by
    have k := nodup_le (n := n) (W := W.erase n) (nd.erase n) fun v hv => by
      have hm : v ∈ W := List.mem_of_mem_erase hv
      have hn : v ≠ n := fun e => by
        rw [e, nd.mem_erase_iff] at hv
        exact hv.1 rfl
      have := h v hm
      omega
    rw [List.length_erase] at k
    split at k <;> omega
def ends (h : Nat → List Nat) (L : List Nat) : List Nat := L.filter fun v => !((h v).any fun w => decide (w ∈ L))
section
variable {h : Nat → List Nat}
/-- a walk among L, unlike but for its last node -/
structure Wk (h : Nat → List Nat) (L W : List Nat) : Prop where
  ne : W ≠ []
  sub : ∀ v ∈ W, v ∈ L
  step : ∀ (i v w : Nat), W[i]? = some v → W[i + 1]? = some w → w ∈ h v
  nd : W.dropLast.Nodup
theorem Wk.one {L : List Nat} {v : Nat} (hv : v ∈ L) : Wk h L [v] := ⟨by simp, fun w hw => by rw [List.mem_singleton.mp hw]; exact hv, fun i a b _ e => by simp at e, by simp⟩
theorem count_last {W : List Nat} {x : Nat} (nd : W.Nodup) : (W ++ [x]).count x = 1 ↔ (W ++ [x]).Nodup := by
  rw [List.count_append, List.count_singleton_self]
  constructor
  · intro e
    have h0 : W.count x = 0 := by omega
    refine List.nodup_append.mpr ⟨nd, by simp, fun a ha b hb => ?_⟩
    rw [List.mem_singleton.mp hb]
    rintro rfl
    exact List.count_eq_zero.mp h0 ha
  · intro e
    have : x ∉ W := fun hx => (List.nodup_append.mp e).2.2 x hx x (by simp) rfl
    rw [List.count_eq_zero.mpr this]
theorem Wk.snoc {L W : List Nat} {x y : Nat} (k : Wk h L (W ++ [x])) (e : (W ++ [x]).count x = 1) (hy : y ∈ h x) (hL : y ∈ L) : Wk h L (W ++ [x] ++ [y]) := by
  have nd : W.Nodup := by simpa using k.nd
  refine ⟨by simp, fun v hv => ?_, fun i v w e1 e2 => ?_, ?_⟩
  · rcases List.mem_append.mp hv with z | z
    · exact k.sub v z
    · rw [List.mem_singleton.mp z]
      exact hL
  · by_cases hi : i + 1 < (W ++ [x]).length
    · rw [List.getElem?_append_left (by omega)] at e1
      rw [List.getElem?_append_left hi] at e2
      exact k.step i v w e1 e2
    · have h2 : i + 1 < (W ++ [x] ++ [y]).length := (List.getElem?_eq_some_iff.mp e2).1
      simp only [List.length_append, List.length_cons, List.length_nil] at hi h2
      have ei : i = W.length := by omega
      subst ei
      have e3 : v = x := by simpa using e1.symm
      have e4 : w = y := by
        have : (W ++ [x] ++ [y])[W.length + 1]? = some y := by simp
        rw [this] at e2
        exact (Option.some.inj e2).symm
      rw [e3, e4]
      exact hy
  · rw [List.dropLast_concat]
    exact (count_last nd).mp e
theorem Wk.len {L W : List Nat} {n : Nat} (k : Wk h L W) (hL : ∀ v ∈ L, v < n) : W.length ≤ n + 1 := by
  have := nodup_le k.nd fun v hv => hL v (k.sub v ((List.dropLast_sublist W).subset hv))
  rw [List.length_dropLast] at this
  omega
end
end Fx.Ring
/-! a ring among nodes by their heads -/
namespace Fx.Lib
open PySem Nl Ring
end Fx.Lib
/-! next hops: trees, rings at some moments -/
namespace Fx.Up
open Ring
/-- where a node is led -/
def nx (T : List Nat) : Nat → Nat
  | 0 => 0
  | i + 1 => (T[i]?).getD 0
def Tr (T : List Nat) : Prop := (∀ i v : Nat, T[i]? = some v → v ≤ T.length) ∧ ∃ rk : Nat → Nat, ∀ i v : Nat, T[i]? = some v → rk v < rk (i + 1)
def it (T : List Nat) : Nat → Nat → Nat
  | 0, v => v
  | k + 1, v => it T k (nx T v)
variable {T U : List Nat}
theorem nx_at {v : Nat} (h1 : 1 ≤ v) (h2 : v ≤ T.length) : T[v - 1]? = some (nx T v) := by
  obtain ⟨i, rfl⟩ : ∃ i, v = i + 1 := ⟨v - 1, by omega⟩
  show T[i]? = some ((T[i]?).getD 0)
  rw [List.getElem?_eq_getElem (by omega)]
  rfl
theorem it_succ : ∀ (k v : Nat), it T (k + 1) v = nx T (it T k v)
  | 0, _ => rfl
  | k + 1, v => it_succ k (nx T v)
theorem Tr.le (h : Tr T) {v : Nat} : nx T v ≤ T.length := by
  cases v with
  | zero => exact Nat.zero_le _
  | succ i =>
    show (T[i]?).getD 0 ≤ _
    cases e : T[i]? with
    | none => exact Nat.zero_le _
    | some w => exact h.1 i w e
theorem Tr.it_le (h : Tr T) {v : Nat} (hv : v ≤ T.length) (k : Nat) : it T k v ≤ T.length := by
  cases k with
  | zero => exact hv
  | succ k => rw [it_succ]; exact h.le
/-- one that is led on by less and less comes to 0 -/
theorem comes {T : List Nat} {rk : Nat → Nat} (hr : ∀ (i v : Nat), T[i]? = some v → rk v < rk (i + 1)) : ∀ (m v : Nat), rk v ≤ m → ∃ d, it T d v = 0
  | m, 0, _ => ⟨0, rfl⟩
  | 0, i + 1, h => by
    cases e : T[i]? with
    | none => exact ⟨1, by show (T[i]?).getD 0 = 0; rw [e]; rfl⟩
    | some w => have := hr i w e; omega
  | m + 1, i + 1, h => by
    cases e : T[i]? with
    | none => exact ⟨1, by show (T[i]?).getD 0 = 0; rw [e]; rfl⟩
    | some w =>
      have := hr i w e
      obtain ⟨d, hd⟩ := comes hr m w (by omega)
      refine ⟨d + 1, ?_⟩
      show it T d ((T[i]?).getD 0) = 0
      rw [e]
      exact hd
theorem least_of {p : Nat → Prop} [DecidablePred p] : ∀ {d : Nat}, p d → ∃ e, p e ∧ e ≤ d ∧ ∀ j, j < e → ¬ p j
  | d, h => by
    induction d using Nat.strongRecOn with
    | _ d ih =>
      by_cases hx : ∃ j, j < d ∧ p j
      · obtain ⟨j, hj, pj⟩ := hx
        obtain ⟨e, h1, h2, h3⟩ := ih j hj pj
        exact ⟨e, h1, by omega, h3⟩
      · exact ⟨d, h, Nat.le_refl _, fun j hj pj => hx ⟨j, hj, pj⟩⟩
theorem Tr.reach (h : Tr T) {v : Nat} (hv : v ≤ T.length) : ∃ d, d ≤ T.length ∧ it T d v = 0 ∧ ∀ j, j < d → it T j v ≠ 0 := by
  obtain ⟨rk, hr⟩ := h.2
  obtain ⟨d0, hd0⟩ := comes hr (rk v) v (Nat.le_refl _)
  obtain ⟨d, h1, _, h3⟩ := least_of (p := fun d => it T d v = 0) hd0
  refine ⟨d, ?_, h1, h3⟩
  have dec : ∀ a b, a < b → b ≤ d → rk (it T b v) < rk (it T a v) := by
    intro a b hab hb
    induction b with
    | zero => omega
    | succ b ih =>
      have hb0 := h3 b (by omega)
      have hle := h.it_le hv b
      have st : rk (it T (b + 1) v) < rk (it T b v) := by
        rw [it_succ]
        have := hr (it T b v - 1) (nx T (it T b v)) (nx_at (by omega) hle)
        rwa [show it T b v - 1 + 1 = it T b v by omega] at this
      rcases Nat.lt_or_ge a b with h | h
      · exact Nat.lt_trans st (ih h (by omega))
      · rw [show a = b by omega]; exact st
  have nd : ((List.range (d + 1)).map fun j => it T j v).Nodup := by
    refine List.pairwise_map.mpr ?_
    refine List.Pairwise.imp_of_mem (fun {a b} ha hb hne e => ?_) (List.pairwise_lt_range (n := d + 1))
    have := dec a b hne (by have := List.mem_range.mp hb; omega)
    rw [e] at this
    exact Nat.lt_irrefl _ this
  have := nodup_le (n := T.length + 1) nd fun w hw => by
    obtain ⟨j, _, rfl⟩ := List.mem_map.mp hw
    have := h.it_le hv j
    omega
  rw [List.length_map, List.length_range] at this
  omega
/-- the number of steps to 0 -/
def dep (T : List Nat) (v : Nat) : Nat := ((List.range (T.length + 1)).find? fun k => decide (it T k v = 0)).getD 0
theorem find_range {p : Nat → Bool} {n d : Nat} (hd : d < n) (h : p d = true) (h2 : ∀ j, j < d → p j = false) : (List.range n).find? p = some d := by
  rw [List.find?_eq_some_iff_append]
  refine ⟨h, List.range d, (List.range (n - d - 1)).map (fun i => d + 1 + i), ?_, fun j hj => by rw [h2 j (List.mem_range.mp hj)]; rfl⟩
  refine List.ext_getElem? fun i => ?_
  by_cases hi : i < n
  · rw [List.getElem?_range hi]
    rcases Nat.lt_trichotomy i d with h | h | h
    · rw [List.getElem?_append_left (by simpa using h), List.getElem?_range h]
    · rw [List.getElem?_append_right (by simp; omega), h]
      simp
    · rw [List.getElem?_append_right (by simp; omega), List.length_range, List.getElem?_cons, if_neg (by omega), List.getElem?_map, List.getElem?_range (by omega)]
      show some i = some (d + 1 + (i - d - 1))
      congr 1
      omega
  · rw [List.getElem?_eq_none (by simpa using hi), List.getElem?_eq_none (by simp; omega)]
theorem Tr.dep (h : Tr T) {v : Nat} (hv : v ≤ T.length) : Up.dep T v ≤ T.length ∧ it T (Up.dep T v) v = 0 ∧ ∀ j, j < Up.dep T v → it T j v ≠ 0 := by
  obtain ⟨d, h1, h2, h3⟩ := h.reach hv
  have e : Up.dep T v = d := by
    unfold Up.dep
    rw [find_range (d := d) (by omega) (decide_eq_true h2) fun j hj => decide_eq_false (h3 j hj)]
    rfl
  rw [e]
  exact ⟨h1, h2, h3⟩
/-! heads -/
end Fx.Up
/-! for x in zip(t, u), x a name, t and u tuples -/
namespace Fx
open PySem PySem.Spec PyProof.Rows L2 RZ
/-! ### on data -/
end Fx
/-! for i, x in enumerate(t, start=k), t a tuple, k written -/
namespace Fx
open PySem PySem.Spec PyProof.Rows L2
/-! ### on data: a start from 0 on -/
end Fx
/-! for i, (x, y) in enumerate(zip(t, u), start=k): the model's steps -/
namespace Fx
open PySem PySem.Spec PyProof.Rows L2 RZ
open Builtin.SmallTypes (ownedTupleIsFree ownedTupleHandOut nextOf)
end Fx
/-! for i, (x, y) in enumerate(zip(t, u), start=k): the walk -/
namespace Fx
open PySem PySem.Spec PyProof.Rows L2 RZ
open Builtin.SmallTypes (ownedTupleIsFree ownedTupleHandOut nextOf)
end Fx
/-! for i, (x, y) in enumerate(zip(t, u), start=k): the rule -/
namespace Fx
open PySem PySem.Spec PyProof.Rows L2 RZ
/-! ### on data -/
section
variable {c : Cfg} {W : WX} {tA : TA} {fA : M (List D)}
theorem Rep.skip {B : Base} {ts : En} {vs : List (Option V)} {ρ : En} {σ : L2.St} {H : Hp} {x y : D} {v w : V} (r : Rep c B (some (.d x) :: some (.d y) :: ts) (some v :: some w :: vs) ρ σ H) : Rep c B (some (.d x) :: ts) (some v :: vs) ρ σ H := by
  obtain ⟨G, o1, o2, k, h1, h2⟩ := r
  cases h1 with
  | d ha h1 =>
    cases h1 with
    | d hb h1 => exact ⟨G, o1, o2, k, .d ha h1, h2⟩
end
end Fx
/-! tuple(range(a, b)), list(range(a, b)) -/
namespace Fx
open PySem PySem.Spec PyProof.Rows L2
end Fx
/-! paths_to for seven nodes: more turns -/
namespace Fx.Lib
open PySem
end Fx.Lib
/-! the defs of updates and of their laws, on data -/
namespace Fx.Up
open PySem PySem.Spec PyProof.Rows L2 Lib
end Fx.Up
/-! tables on data: first_gap -/
namespace Fx.Tb
open PySem Lib Nl
end Fx.Tb
/-! tables: the shortest prefixes that are even -/
namespace Fx.Tb
section
variable {U : List Nat → Bool} {H : List Nat → Nat} {w : Nat}
def blk (U : List Nat → Bool) (H : List Nat → Nat) : Nat → List Nat → List Rl
  | 0, p => [(p, H p)]
  | n + 1, p => if U p then [(p, H p)] else blk U H n (p ++ [0]) ++ blk U H n (p ++ [1])
/-! a walk with a stack -/
end
end Fx.Tb
/-! graphs drawn, in the style of FxNl; costs of two numbers -/
namespace Fx.Nl
open PySem Lib
end Fx.Nl
namespace Fx.Lib
open PySem Nl
end Fx.Lib
/-! paths by their two sums; what is unbeaten -/
namespace Fx.Lib
open PySem Nl PySem.W
/-! ### the sums of a path -/
def s1 (cs : List (Int × Int)) : List Int := cs.map (·.1)
def s2 (cs : List (Int × Int)) : List Int := cs.map (·.2)
/-- both sums -/
def sm (as : List (Nat × Nat)) (cs : List (Int × Int)) (p : List Nat) : Nat × Nat := ((cost as (s1 cs) p).toNat, (cost as (s2 cs) p).toNat)
/-! ### what is unbeaten -/
structure Front (M : Nat × Nat → Prop) (U : List (Nat × Nat)) : Prop where
  sub : ∀ u ∈ U, M u
  all : ∀ t, M t → ∃ u ∈ U, u.1 ≤ t.1 ∧ u.2 ≤ t.2
  pw : U.Pairwise fun u v => u.1 < v.1 ∧ v.2 < u.2
def leN (u t : Nat × Nat) : Prop := u.1 < t.1 ∨ (u.1 = t.1 ∧ u.2 ≤ t.2)
theorem Front.nil : Front (fun _ => False) [] := ⟨fun u h => by simp at h, fun t h => h.elim, .nil⟩
theorem Front.step {M : Nat × Nat → Prop} {U : List (Nat × Nat)} (f : Front M U) {t : Nat × Nat} (hs : ∀ u, M u → leN u t) : (U = [] ∨ ∃ l, U.getLast? = some l ∧ t.2 < l.2) → Front (fun x => M x ∨ x = t) (U ++ [t]) := by
  intro h
  have lo : ∀ u ∈ U, t.2 < u.2 := by
    rcases h with rfl | ⟨l, hl, ht⟩
    · intro u hu; simp at hu
    · intro u hu
      obtain ⟨V, rfl⟩ : ∃ V, U = V ++ [l] := by
        obtain ⟨V, hV⟩ := List.getLast?_eq_some_iff.mp hl
        exact ⟨V, hV⟩
      rcases List.mem_append.mp hu with hu | hu
      · have := (List.pairwise_append.mp f.pw).2.2 u hu l (List.mem_singleton.mpr rfl)
        omega
      · rw [List.mem_singleton.mp hu]; exact ht
  refine ⟨fun u hu => ?_, fun x hx => ?_, ?_⟩
  · rcases List.mem_append.mp hu with hu | hu
    · exact .inl (f.sub u hu)
    · exact .inr (List.mem_singleton.mp hu)
  · rcases hx with hx | rfl
    · obtain ⟨u, hu, h1⟩ := f.all x hx
      exact ⟨u, List.mem_append_left _ hu, h1⟩
    · exact ⟨x, List.mem_append_right _ (List.mem_singleton.mpr rfl), Nat.le_refl _, Nat.le_refl _⟩
  · refine List.pairwise_append.mpr ⟨f.pw, List.pairwise_singleton _ _, fun u hu v hv => ?_⟩
    rw [List.mem_singleton.mp hv]
    have h1 := lo u hu
    refine ⟨?_, h1⟩
    rcases hs u (f.sub u hu) with z | ⟨_, z⟩
    · exact z
    · omega
theorem Front.skip {M : Nat × Nat → Prop} {U : List (Nat × Nat)} (f : Front M U) {t l : Nat × Nat} (hs : ∀ u, M u → leN u t) (hl : U.getLast? = some l) (h : ¬t.2 < l.2) : Front (fun x => M x ∨ x = t) U := by
  refine ⟨fun u hu => .inl (f.sub u hu), fun x hx => ?_, f.pw⟩
  rcases hx with hx | rfl
  · exact f.all x hx
  · have hm := List.mem_of_getLast? hl
    refine ⟨l, hm, ?_, by omega⟩
    rcases hs l (f.sub l hm) with z | ⟨z, _⟩
    · omega
    · omega
/-! ### the least number of a list -/
end Fx.Lib
/-! readings of pairs of costs -/
namespace Fx.Nl
open PySem Lib
section
variable {ρ : En} {fa fb fe fs : M S} {fA : M (List D)} {ft : M Bool} {x : D} {i j k : Nat}
theorem eb_yes : EvB mYes ρ true := by
  unfold EvB
  rw [ok_yes]
  exact ⟨rfl, rfl⟩
end
end Fx.Nl
namespace Fx.Lib
open PySem Nl
/-- a list of pairs in order -/
def fI (p : Nat × Nat) : List Int := [(p.1 : Int), (p.2 : Int)]
end Fx.Lib
/-! comprehensions and loops over data of any kind -/
namespace Fx.Nl
open PySem Lib
def EvI (f : M (List D)) (ρ : En) (xs : List D) : Prop := OK (f ρ) fun ys ρ1 => ys = xs ∧ ρ1 = ρ
def EvG (g : D → M Unit) (x : D) (ρ ρ1 : En) : Prop := OK (g x ρ) fun _ ρ2 => ρ2 = ρ1
section
variable {α β : Type} {ρ ρ1 : En} {i j k l : Nat} {x y z : D} {xs : List D} {fs fe fk fv fa fb : M S} {fA : M (List D)} {fI fI1 : M (List D)} {ft ft1 : M Bool} {gm gm1 : D → M Unit} {F : M Fl} {own own1 : List Nat} {PF : Fl → En → Prop}
theorem EvI.ok (h : EvI fI ρ xs) {P : List D → En → Prop} (q : P xs ρ) : OK (fI ρ) P := h.imp fun _ _ ⟨e1, e2⟩ => by rw [e1, e2]; exact q
theorem EvG.ok (h : EvG gm x ρ ρ1) {P : Unit → En → Prop} (q : P () ρ1) : OK (gm x ρ) P := h.imp fun _ _ e => by rw [e]; exact q
theorem ei_seq (h : Ev fs ρ x) (hx : itemsD x = some xs) : EvI (iSeq fs) ρ xs := by
  unfold EvI
  rw [ok_iseq]
  exact h.dv ⟨_, hx, rfl, rfl⟩
theorem ei_keys {ks ds : List D} (h : Ev fs ρ (.dct ks ds)) : EvI (iKeysD fs) ρ ks := by
  unfold EvI iKeysD
  rw [ok_then]
  refine h.dv ?_
  rw [ok_ok]
  exact ⟨rfl, rfl⟩
theorem eg_name : EvG (gmName i) x ρ (ρ.set i (some (.d x))) := by
  unfold EvG
  rw [ok_gname]
theorem eg_2 : EvG (gmTup 2 (gmCons (gmName i) (gmCons (gmName j) gmNil))) (.tup [x, y]) ρ ((ρ.set i (some (.d x))).set j (some (.d y))) := ok_gtup2 rfl
theorem eg_3 : EvG (gmTup 3 (gmCons (gmName i) (gmCons (gmName j) (gmCons (gmName k) gmNil)))) (.tup [x, y, z]) ρ (((ρ.set i (some (.d x))).set j (some (.d y))).set k (some (.d z))) := ok_gtup3 rfl
/-- [e for x in xs if t] -/
theorem lcG {emb : α → D} {ls : List α} {t : α → Bool} {f : α → D} {E : α → En} (hI : EvI fI ρ (ls.map emb)) (hw : wipeE ρ own = ρ) (hg : ∀ a ∈ ls, EvG gm (emb a) ρ (E a)) (tt : ∀ a ∈ ls, EvB ft (E a) (t a)) (ff : ∀ a ∈ ls, t a = true → Ev fe (E a) (f a)) (ww : ∀ a ∈ ls, wipeE (E a) own = ρ) (hs : ls.length ≤ 1000000) :
    Ev (mLc fI gm ft fe own) ρ (.lst ((ls.filter t).map f)) := by
  unfold Ev
  rw [ok_dv, ok_lc]
  refine hI.ok ?_
  rw [hw]
  refine ok_comp (I := fun k a ρ' => a = ((ls.take k).filter t).map f ∧ ρ' = ρ) (k := 0) ⟨by simp, rfl⟩ ?_ ?_
  · rintro k x a ρ' hx ⟨rfl, rfl⟩
    rw [Nat.zero_add]
    obtain ⟨p, hp, rfl⟩ : ∃ p, ls[k]? = some p ∧ emb p = x := by
      rw [List.getElem?_map] at hx
      exact Option.map_eq_some_iff.mp hx
    have hk : k < ls.length := (List.getElem?_eq_some_iff.mp hp).1
    have hle : ((ls.take k).filter t).length ≤ k := Nat.le_trans (List.length_filter_le _ _) (by rw [List.length_take]; omega)
    have e : ((ls.take (k + 1)).filter t).map f = ((ls.take k).filter t).map f ++ (if t p then [f p] else []) := by
      rw [List.take_add_one, hp, List.filter_append, List.map_append]
      congr 1
      show (List.filter t [p]).map f = _
      rw [List.filter_cons, List.filter_nil]
      split <;> rfl
    have hm := List.mem_of_getElem? hp
    refine (hg p hm).ok ((tt p hm).ok ⟨fun h => ?_, fun h => ?_⟩)
    · refine (ff p hm h).dv ⟨?_, ?_, ww p hm⟩
      · rw [List.length_map]
        exact decide_eq_true (by omega)
      · rw [e, if_pos h]
    · refine ⟨?_, ww p hm⟩
      rw [e, if_neg h, List.append_nil]
  · rintro a ρ' ⟨rfl, rfl⟩
    rw [Nat.zero_add, List.length_map, List.take_length]
    exact ⟨_, rfl, rfl, rfl⟩
/-- for x in xs: .. -/
theorem forG {emb : α → D} {ls : List α} {I : Nat → En → Prop} (hI : EvI fI ρ (ls.map emb)) (i0 : I 0 ρ) (st : ∀ k a ρ, ls[k]? = some a → I k ρ → ∃ ρ1, EvG gm (emb a) ρ ρ1 ∧ OK (F ρ1) (LP (I (k + 1)) PF)) (e : ∀ ρ, I ls.length ρ → PF .nx ρ) : OK (mFor fI gm F ρ) PF := by
  rw [ok_for]
  refine hI.ok (ok_loop (I := I) (k := 0) i0 (fun q x ρ hx hI => ?_) fun ρ hI => e ρ (by rw [Nat.zero_add, List.length_map] at hI; exact hI))
  rw [Nat.zero_add] at hI ⊢
  rw [List.getElem?_map] at hx
  obtain ⟨a, ha, rfl⟩ := Option.map_eq_some_iff.mp hx
  obtain ⟨ρ1, g, h⟩ := st q a ρ ha hI
  exact g.ok h
theorem tailT {L : List D} {i : Nat} (ha : Ev fa ρ (.tup L)) (hb : Ev fb ρ (.int (i : Nat))) : Ev (mSl fa (oSome fb) oNone) ρ (.tup (L.drop i)) := ev_of (by
  refine ok_sl (ha.dv (ok_osome (hb.dv ⟨_, rfl, ?_⟩)))
  rw [ok_onone]
  refine ⟨.d (.tup (L.drop i)), ?_, rfl, rfl⟩
  show some (S.d (.tup (cutD L (some (i : Nat)) none))) = _
  rw [cutD_from (by omega), Int.toNat_natCast])
end
end Fx.Nl
/-! two orders of the same data are sorted alike -/
namespace Fx
open PySem PyProof.Rows
open PySem.W
end Fx
/-! tables on data: blocks -/
namespace Fx.Tb
open PySem Lib Nl
open PySem.W (dataLe alike alike_ints alikeAll)
section
variable {w m : Nat} {R : List Rl}
def hopsP (R : List Rl) (w : Nat) (p : List Nat) : List Int := (addrs (w - p.length)).map fun r => ((hop R (p ++ r) : Nat) : Int)
def un (R : List Rl) (w : Nat) (p : List Nat) : List Int := Rw.uniq (hopsP R w p)
end
end Fx.Tb
/-! updates on data: trees, rounds, heads, rings -/
namespace Fx.Up
open PySem Lib Nl Ring
abbrev ntT (p : List Nat) : D := .tup (nl p)
section
variable {T U : List Nat}
theorem nlen (T : List Nat) : ∀ {ρ : En} {i : Nat}, ρ[i]? = some (some (.d (ntT T))) → Ev (mCB gLen (aCons (mVar i) aNil)) ρ (.int (T.length : Nat)) := fun e => lenN (ev_var _ e)
/-- an ascending round -/
def Rd (n : Nat) (L : List Nat) : Prop := L.Pairwise (· < ·) ∧ ∀ v ∈ L, 1 ≤ v ∧ v ≤ n
theorem Rd.len {n : Nat} {L : List Nat} (h : Rd n L) : L.length ≤ n := by
  have := nodup_le (n := n) (W := L.map fun v => v - 1) (by
    refine List.pairwise_map.mpr (List.Pairwise.imp_of_mem (fun {a b} ha hb hl e => ?_) h.1)
    have := h.2 a ha
    have := h.2 b hb
    omega) fun v hv => by
      obtain ⟨w, hw, rfl⟩ := List.mem_map.mp hv
      have := h.2 w hw
      omega
  rw [List.length_map] at this
  exact this
/-! heads -/
def two (a b : Nat) : List Nat := if a < b then [a, b] else if b < a then [b, a] else [a]
/-- the nodes to which a node is led at some moments -/
def hd (T U A B : List Nat) (v : Nat) : List Nat := if v = 0 then [] else if v ∈ B then two (nx T v) (nx U v) else [if v ∈ A then nx U v else nx T v]
end
end Fx.Up
/-! updates on data: the heads, rings of rounds, where hops lead -/
namespace Fx.Up
open PySem Lib Nl Ring
end Fx.Up
/-! updates on data: next hops are drawn -/
namespace Fx.Up
open PySem Lib Nl Ring
/-- what is known while hops are drawn -/
structure Dr (n : Nat) (L R F : List Nat) : Prop where
  perm : (R ++ L).Perm (List.range (n + 1))
  head : R[0]? = some 0
  len : F.length = n
  back : ∀ j v, 1 ≤ j → R[j]? = some v → ∃ i w, i < j ∧ R[i]? = some w ∧ F[v - 1]? = some w
theorem Dr.step {n x i w : Nat} {L R F : List Nat} (h : Dr n L R F) (hx : x < L.length) (hw : R[i]? = some w) : Dr n (L.eraseIdx x) (R ++ [L[x]]) (F.set (L[x] - 1) w) ∧ 1 ≤ L[x] ∧ L[x] ≤ n := by
  have nd := h.perm.nodup_iff.mpr List.nodup_range
  rw [List.nodup_append] at nd
  have hm : L[x] ∈ L := List.getElem_mem hx
  have hr : L[x] < n + 1 := List.mem_range.mp (h.perm.mem_iff.mp (List.mem_append_right _ hm))
  have h0 : (0 : Nat) ∈ R := List.mem_of_getElem? h.head
  have h1 : 1 ≤ L[x] := by
    have := nd.2.2 0 h0 L[x] hm
    omega
  refine ⟨⟨perm_pop h.perm hx, ?_, by rw [List.length_set]; exact h.len, fun j v hj e => ?_⟩, h1, by omega⟩
  · rw [List.getElem?_append_left (List.length_pos_of_mem h0)]
    exact h.head
  · rcases Nat.lt_or_ge j R.length with hl | hl
    · rw [List.getElem?_append_left hl] at e
      obtain ⟨i', w', a1, a2, a3⟩ := h.back j v hj e
      have hv : v ∈ R := List.mem_of_getElem? e
      have ne : v ≠ L[x] := nd.2.2 v hv L[x] hm
      have nv : v ≠ 0 := fun z => by
        have e1 : R[0]? = R[j]? := by rw [h.head, e, z]
        have := (List.getElem?_inj (List.length_pos_of_mem h0) nd.1).mp e1
        omega
      refine ⟨i', w', a1, by rw [List.getElem?_append_left (by omega)]; exact a2, ?_⟩
      rw [List.getElem?_set_ne (by omega)]
      exact a3
    · rw [List.getElem?_append_right hl] at e
      have ej : j - R.length = 0 := by
        have := (List.getElem?_eq_some_iff.mp e).1
        simp at this
        omega
      rw [ej] at e
      obtain rfl : L[x] = v := by simpa using e
      have hi : i < R.length := (List.getElem?_eq_some_iff.mp hw).1
      refine ⟨i, w, by omega, by rw [List.getElem?_append_left hi]; exact hw, ?_⟩
      rw [List.getElem?_set_self (by rw [h.len]; omega)]
end Fx.Up
/-! updates: where a packet is led, moments -/
namespace Fx.Up
open PySem Lib Nl Ring
/-- no hop leads out -/
def Fits (T : List Nat) : Prop := ∀ i v : Nat, T[i]? = some v → v ≤ T.length
section
variable {T U A B : List Nat} {n : Nat}
theorem Fits.le (h : Fits T) {v : Nat} : nx T v ≤ T.length := by
  cases v with
  | zero => exact Nat.zero_le _
  | succ i =>
    show (T[i]?).getD 0 ≤ _
    cases e : T[i]? with
    | none => exact Nat.zero_le _
    | some w => exact h i w e
theorem Fits.it_le (h : Fits T) {v : Nat} (hv : v ≤ T.length) (k : Nat) : it T k v ≤ T.length := by
  cases k with
  | zero => exact hv
  | succ k => rw [it_succ]; exact h.le
def its (T : List Nat) (v m : Nat) : List Nat := (List.range m).map fun j => it T j v
theorem its_succ (T : List Nat) (v m : Nat) : its T v (m + 1) = its T v m ++ [it T m v] := by
  unfold its
  rw [List.range_succ, List.map_append]
  rfl
/-- what is known of the way after k turns -/
structure Led (T : List Nat) (v k m : Nat) : Prop where
  le : m ≤ k
  nz : ∀ j, j < m → it T j v ≠ 0
  nd : (its T v m).Nodup
  stop : m = k ∨ it T m v = 0 ∨ it T m v ∈ its T v m
def goB (T : List Nat) (v m : Nat) : Bool := !decide (it T m v = 0) && !decide (it T m v ∈ its T v m)
theorem Led.go {v k m : Nat} (h : Led T v k m) (g : goB T v m = true) : Led T v (k + 1) (m + 1) := by
  unfold goB at g
  simp only [Bool.and_eq_true, Bool.not_eq_true', decide_eq_false_iff_not] at g
  have e : m = k := by
    rcases h.stop with z | z | z
    · exact z
    · exact absurd z g.1
    · exact absurd z g.2
  refine ⟨by have := h.le; omega, fun j hj => ?_, ?_, .inl (by omega)⟩
  · rcases Nat.lt_or_ge j m with z | z
    · exact h.nz j z
    · rw [show j = m by omega]; exact g.1
  · rw [its_succ, List.nodup_append]
    exact ⟨h.nd, by simp, fun a ha b hb z => by rw [List.mem_singleton.mp hb] at z; exact g.2 (z ▸ ha)⟩
/-! moments -/
end
end Fx.Up
/-! updates: moments on data; a ring arises just if some moment leads a node round -/
namespace Fx.Up
open PySem Lib Nl Ring
end Fx.Up
/-! updates: what the laws draw and judge -/
namespace Fx.Up
open PySem Lib Nl Ring
section
variable {ρ : En} {ns : List Int} {a b c : Int} {o : Option Nat} {n : Nat} {T U A B : List Nat}
theorem ok_gtup4 {i j k l : Nat} {x y z w : D} {P : Unit → En → Prop} (h : P () ((((ρ.set i (some (.d x))).set j (some (.d y))).set k (some (.d z))).set l (some (.d w)))) : OK (gmTup 4 (gmCons (gmName i) (gmCons (gmName j) (gmCons (gmName k) (gmCons (gmName l) gmNil)))) (.tup [x, y, z, w]) ρ) P := ok_of h
/-- rounds that are drawn -/
structure DN (v : Nat) (A B : List Nat) : Prop where
  a : A.Pairwise (· < ·)
  b : B.Pairwise (· < ·)
  la : ∀ x ∈ A, 1 ≤ x ∧ x < v
  lb : ∀ x ∈ B, 1 ≤ x ∧ x < v
  dis : ∀ x ∈ B, x ∉ A
theorem asc_snoc {v : Nat} {L : List Nat} (h : L.Pairwise (· < ·)) (hl : ∀ x ∈ L, 1 ≤ x ∧ x < v) (p : Bool) : (L ++ if p then [v] else []).Pairwise (· < ·) := by
  cases p with
  | false => simpa using h
  | true =>
    rw [if_pos rfl, List.pairwise_append]
    exact ⟨h, List.pairwise_singleton _ _, fun x hx y hy => by rw [List.mem_singleton.mp hy]; exact (hl x hx).2⟩
theorem DN.step {v w : Nat} (h : DN v A B) (hv : 1 ≤ v) : DN (v + 1) (A ++ if decide (w = 0) then [v] else []) (B ++ if decide (w = 1) then [v] else []) := by
  have mem : ∀ {L : List Nat} {p : Bool} {x : Nat}, x ∈ (L ++ if p then [v] else []) → x ∈ L ∨ (p = true ∧ x = v) := fun {L p x} hx => by
    rcases List.mem_append.mp hx with hx | hx
    · exact .inl hx
    · cases p with
      | false => simp at hx
      | true => exact .inr ⟨rfl, by simpa using hx⟩
  refine ⟨asc_snoc h.a h.la _, asc_snoc h.b h.lb _, fun x hx => ?_, fun x hx => ?_, fun x hx hy => ?_⟩
  · rcases mem hx with z | ⟨_, z⟩
    · have := h.la x z; omega
    · omega
  · rcases mem hx with z | ⟨_, z⟩
    · have := h.lb x z; omega
    · omega
  · rcases mem hx with z | ⟨p, z⟩
    · rcases mem hy with z' | ⟨_, z'⟩
      · exact h.dis x z z'
      · have := h.lb x z; omega
    · rcases mem hy with z' | ⟨p', _⟩
      · have := h.la x z'; omega
      · simp only [decide_eq_true_eq] at p p'
        omega
end
end Fx.Up
/-! dicts whose keys stand for something, as lists of entries -/
namespace Fx.Nl
open PySem Lib
structure KeyF {α : Type} (f : α → D) : Prop where
  is : (∀ a, isKey (f a) = true) ∨ ∀ a, isKeyT (f a) = true
  inj : ∀ a b, keyEq (f a) (f b) = true ↔ a = b
abbrev GL (α : Type) := List (α × D)
section
variable {α : Type} [DecidableEq α] {f : α → D} {kv : GL α} {a b : α} {x y : D}
abbrev gks (f : α → D) (kv : GL α) : List D := kv.map fun e => f e.1
def gD (f : α → D) (kv : GL α) : D := .dct (gks f kv) (kv.map (·.2))
def hasG (kv : GL α) (a : α) : Bool := kv.any fun e => decide (a = e.1)
def putG (kv : GL α) (a : α) (x : D) : GL α := if hasG kv a then kv.map fun e => (e.1, if a = e.1 then x else e.2) else kv ++ [(a, x)]
def getG (kv : GL α) (a : α) : Option D := (kv.find? fun e => decide (a = e.1)).map (·.2)
theorem KeyF.eq (h : KeyF f) : keyEq (f a) (f b) = decide (a = b) := by
  rw [Bool.eq_iff_iff, decide_eq_true_iff]
  exact h.inj a b
theorem homogG (h : KeyF f) : homog (gks f kv) (f a) = true := by
  rcases h.is with k | k
  · exact homog_of (.inl rfl) (by rw [List.all_map, List.all_eq_true]; exact fun e _ => k e.1) (k a)
  · exact homog_of (.inr rfl) (by rw [List.all_map, List.all_eq_true]; exact fun e _ => k e.1) (k a)
theorem anyG (h : KeyF f) : hasKey (gks f kv) (f a) = hasG kv a := by
  unfold hasKey hasG
  rw [List.any_map]
  congr 1
  funext e
  exact h.eq
theorem look_G (h : KeyF f) : look (gks f kv) (f a) (kv.map (·.2)) = getG kv a := by
  unfold look keyAt getG
  rw [List.findIdx?_map]
  have e : (keyEq (f a) ∘ fun e : α × D => f e.1) = fun e => decide (a = e.1) := by
    funext e
    exact h.eq
  rw [e, find_at]
  cases kv.findIdx? fun e => decide (a = e.1) with
  | none => rfl
  | some i =>
    show (kv.map (·.2))[i]? = (kv[i]?).map (·.2)
    rw [List.getElem?_map]
theorem put_G (h : KeyF f) : (putKs (gks f kv) (f a) (gks f kv) (f a)) = gks f (putG kv a x) ∧ putVs (gks f kv) (f a) (kv.map (·.2)) x = (putG kv a x).map (·.2) := by
  unfold putKs putVs putG
  rw [anyG h]
  cases hasG kv a with
  | true =>
    simp only [if_true, List.map_map]
    refine ⟨rfl, ?_⟩
    rw [List.zipWith_map, List.zipWith_self]
    refine List.map_congr_left fun e _ => ?_
    show (if keyEq (f a) (f e.1) = true then x else e.2) = if a = e.1 then x else e.2
    rw [h.eq]
    simp only [decide_eq_true_eq]
  | false =>
    simp only [Bool.false_eq_true, if_false, List.map_append]
    exact ⟨rfl, rfl⟩
variable {ρ : En} {i : Nat} {o : Option Nat} {fa fb fe fx : M S} {PU : Unit → En → Prop} {neg : Bool}
/-- d[k], d a value -/
theorem dgetG (h : KeyF f) (ha : Ev fa ρ (gD f kv)) (hb : Ev fb ρ (f a)) (e : getG kv a = some x) : Ev (mOp gDget fa fb) ρ x := ev_op ha hb (by
  show (if homog (gks f kv) (f a) then (look (gks f kv) (f a) (kv.map (·.2))).bind ok1 else none) = _
  rw [homogG h, look_G h, e]
  rfl)
theorem peekG (e : peek ρ i = some (gD f kv)) : peekD ρ i = true := by
  unfold peekD
  rw [e]
  rfl
/-- k in d, d a name -/
theorem inNG (h : KeyF f) (e : peek ρ i = some (gD f kv)) (ha : Ev fa ρ (f a)) : Ev (mInN neg fa i) ρ (.bl (if neg then !hasG kv a else hasG kv a)) := ev_of (by
  unfold mInN
  rw [ok_then]
  refine ha.dv ?_
  rw [e]
  dsimp only
  rw [show gInD neg (f a) (gD f kv) = some (.d (.bl (if neg then !hasG kv a else hasG kv a))) from by
    show (if homog (gks f kv) (f a) then ok1 (.bl (if neg then !hasKey (gks f kv) (f a) else hasKey (gks f kv) (f a))) else none) = _
    rw [homogG h, anyG h]
    rfl]
  dsimp only
  rw [ok_ok]
  exact ⟨rfl, rfl⟩)
/-- d[k], d a name -/
theorem dgetNG (h : KeyF f) (e : peek ρ i = some (gD f kv)) (hb : Ev fb ρ (f a)) (ex : getG kv a = some x) : Ev (mDgetN i fb) ρ x := ev_of (by
  unfold mDgetN
  rw [if_pos (peekG e), ok_then]
  refine hb.dv ?_
  rw [e]
  dsimp only
  rw [show gDget (gD f kv) (f a) = some (.d x) from by
    show (if homog (gks f kv) (f a) then (look (gks f kv) (f a) (kv.map (·.2))).bind ok1 else none) = _
    rw [homogG h, look_G h, ex]
    rfl]
  dsimp only
  rw [ok_ok]
  exact ⟨rfl, rfl⟩)
/-- d[k] = x, d a name's own -/
theorem gitemG (h : KeyF f) (e1 : ρ[i]? = some (some (.o o (gD f kv)))) (hb : Ev fe ρ (f a)) (hs : kv.length ≤ 1000000) (k : PU () (ρ.set i (some (.o o (gD f (putG kv a x)))))) : OK (gmItemD i fe x ρ) PU := by
  have pk : peekD ρ i = true := peekG (f := f) (kv := kv) (by unfold peek; rw [e1])
  unfold gmItemD
  rw [if_pos pk, ok_then]
  refine hb.dv ?_
  rw [e1]
  have hz : (homog (gks f kv) (f a) && small ((gks f kv).length + 1)) = true := by
    rw [homogG h, List.length_map]
    exact decide_eq_true (by omega)
  show OK (if homog (gks f kv) (f a) && small ((gks f kv).length + 1) then Out.ok () (ρ.set i (some (.o o (.dct (putKs (gks f kv) (f a) (gks f kv) (f a)) (putVs (gks f kv) (f a) (kv.map (·.2)) x))))) else .stuck) PU
  rw [if_pos hz, ok_ok, (put_G (x := x) h).1, (put_G (x := x) h).2]
  exact k
theorem ei_keysG (h : Ev fa ρ (gD f kv)) : EvI (iKeysD fa) ρ (kv.map fun e => f e.1) := ei_keys h
end
/-! keys: numbers; nested tuples -/
theorem keyN : KeyF (fun i : Nat => D.int (i : Nat)) := ⟨.inl fun _ => rfl, fun a b => by
  show decide ((a : Int) = b) = true ↔ _
  rw [decide_eq_true_iff]
  exact Int.ofNat_inj⟩
end Fx.Nl
/-! nested tuples as keys of dicts -/
namespace Fx.Nl
open PySem
mutual
def tky : Nat → D → Bool
  | _, .non => true
  | _, .int _ => true
  | _, .str _ => true
  | n + 1, .tup ds => tkyA n ds
  | _, _ => false
def tkyA : Nat → List D → Bool
  | _, [] => true
  | n, d :: ds => tky n d && tkyA n ds
end
mutual
theorem tky_nk : ∀ {n : Nat} {d : D}, tky n d = true → ∃ k, nkD d = some k ∧ k.depth ≤ n
  | n, .non, _ => ⟨_, rfl, by simp [NestedKey.depth]⟩
  | n, .int i, _ => ⟨_, rfl, by simp [NestedKey.depth]⟩
  | n, .str x, _ => ⟨_, rfl, by simp [NestedKey.depth]⟩
  | n + 1, .tup ds, h => by
    simp only [tky] at h
    obtain ⟨ks, e, hd⟩ := tkyA_nk h
    refine ⟨.tup ks, ?_, ?_⟩
    · simp only [nkD, e]
    · simp only [NestedKey.depth]
      omega
  | 0, .tup ds, h => by simp [tky] at h
  | n, .lst ds, h => by cases n <;> simp [tky] at h
  | n, .bl b, h => by cases n <;> simp [tky] at h
  | n, .ty x, h => by cases n <;> simp [tky] at h
  | n, .ins x y, h => by cases n <;> simp [tky] at h
  | n, .dct x y, h => by cases n <;> simp [tky] at h
  | n, .dcq x y, h => by cases n <;> simp [tky] at h
  | n, .scr x, h => by cases n <;> simp [tky] at h
  | n, .fn x, h => by cases n <;> simp [tky] at h
  | n, .xo x y, h => by cases n <;> simp [tky] at h
  | n, .exc, h => by cases n <;> simp [tky] at h
  | n, .rng x y, h => by cases n <;> simp [tky] at h
  | n, .fu, h => by cases n <;> simp [tky] at h
theorem tkyA_nk : ∀ {n : Nat} {ds : List D}, tkyA n ds = true → ∃ ks, nkDs ds = some ks ∧ NestedKey.depthAll ks ≤ n
  | n, [], _ => ⟨[], rfl, by simp [NestedKey.depthAll]⟩
  | n, d :: ds, h => by
    simp only [tkyA, Bool.and_eq_true] at h
    obtain ⟨k, e1, h1⟩ := tky_nk h.1
    obtain ⟨ks, e2, h2⟩ := tkyA_nk h.2
    refine ⟨k :: ks, ?_, ?_⟩
    · simp only [nkDs, e1, e2]
    · simp only [NestedKey.depthAll]
      omega
end
mutual
theorem nk_inj : ∀ {d e : D} {k : NestedKey}, nkD d = some k → nkD e = some k → d = e
  | .non, e, k, h, q => by
    simp only [nkD, Option.some.injEq] at h
    subst h
    cases e <;> first | rfl | (simp [nkD] at q; done) | (simp only [nkD] at q; split at q <;> simp at q; done)
  | .int i, e, k, h, q => by
    simp only [nkD, Option.some.injEq] at h
    subst h
    cases e <;> first | (simp [nkD] at q; done) | (simp only [nkD, Option.some.injEq, NestedKey.num.injEq] at q; rw [q]; done) | (simp only [nkD] at q; split at q <;> simp at q; done)
  | .str x, e, k, h, q => by
    simp only [nkD, Option.some.injEq] at h
    subst h
    cases e <;> first | (simp [nkD] at q; done) | (simp only [nkD, Option.some.injEq, NestedKey.text.injEq] at q; rw [q]; done) | (simp only [nkD] at q; split at q <;> simp at q; done)
  | .tup ds, e, k, h, q => by
    simp only [nkD] at h
    cases e1 : nkDs ds with
    | none => rw [e1] at h; cases h
    | some ks =>
      rw [e1] at h
      cases h
      cases e <;> simp [nkD] at q
      rename_i es
      cases e2 : nkDs es with
      | none => rw [e2] at q; cases q
      | some ks' =>
        rw [e2] at q
        cases q
        rw [nks_inj e1 e2]
  | .lst ds, e, k, h, q => by simp [nkD] at h
  | .bl b, e, k, h, q => by simp [nkD] at h
  | .ty x, e, k, h, q => by simp [nkD] at h
  | .ins x y, e, k, h, q => by simp [nkD] at h
  | .dct x y, e, k, h, q => by simp [nkD] at h
  | .dcq x y, e, k, h, q => by simp [nkD] at h
  | .scr x, e, k, h, q => by simp [nkD] at h
  | .fn x, e, k, h, q => by simp [nkD] at h
  | .xo x y, e, k, h, q => by simp [nkD] at h
  | .exc, e, k, h, q => by simp [nkD] at h
  | .rng x y, e, k, h, q => by simp [nkD] at h
  | .fu, e, k, h, q => by simp [nkD] at h
theorem nks_inj : ∀ {ds es : List D} {ks : List NestedKey}, nkDs ds = some ks → nkDs es = some ks → ds = es
  | [], [], _, _, _ => rfl
  | [], e :: es, ks, h, q => by
    cases h
    simp only [nkDs] at q
    split at q <;> cases q
  | d :: ds, [], ks, h, q => by
    cases q
    simp only [nkDs] at h
    split at h <;> cases h
  | d :: ds, e :: es, ks, h, q => by
    simp only [nkDs] at h q
    split at h
    · rename_i k1 ks1 a1 a2
      cases h
      split at q
      · rename_i k2 ks2 b1 b2
        cases q
        rw [nk_inj a1 b1, nks_inj a2 b2]
      · cases q
    · cases h
end
theorem keyT {α : Type} {f : α → D} (h : ∀ a, ∃ ds, f a = .tup ds ∧ tkyA 7 ds = true) (inj : ∀ a b, f a = f b → a = b) : KeyF f := by
  refine ⟨.inr fun a => ?_, fun a b => ?_⟩
  · obtain ⟨ds, e, hd⟩ := h a
    obtain ⟨ks, e1, h1⟩ := tkyA_nk hd
    rw [e]
    simp only [isKeyT, e1]
    exact decide_eq_true (by omega)
  · obtain ⟨ds, e, hd⟩ := h a
    obtain ⟨es, e', hd'⟩ := h b
    obtain ⟨ks, e1, h1⟩ := tkyA_nk hd
    obtain ⟨ks', e1', h1'⟩ := tkyA_nk hd'
    have : keyEq (f a) (f b) = NestedKey.beqAll ks ks' := by
      rw [e, e']
      simp only [keyEq, e1, e1']
    rw [this]
    constructor
    · intro hb
      have := NestedKey.eq_of_beqAll _ _ hb
      subst this
      refine inj a b ?_
      rw [e, e', nks_inj e1 e1']
    · rintro rfl
      rw [e] at e'
      cases e'
      rw [e1] at e1'
      cases e1'
      exact NestedKey.beqAll_self ks
theorem tkyA_iff {n : Nat} {ds : List D} : tkyA n ds = true ↔ ∀ d ∈ ds, tky n d = true := by
  induction ds with
  | nil => cases n <;> simp [tkyA]
  | cons d ds ih => simp [tkyA, ih]
theorem tkyA_nl {n : Nat} {L : List Nat} : tkyA n (nl L) = true := tkyA_iff.mpr fun d hd => by
  obtain ⟨i, _, rfl⟩ := List.mem_map.mp hd
  cases n <;> rfl
end Fx.Nl
/-! a tuple, once or more often -/
/-! t * k -/
namespace Fx
open PySem PySem.Spec PyProof.Rows L2
end Fx
/-! x == y, x an instance whose class has its own __eq__, y one of the same class or a tuple -/
namespace Fx
open PySem PySem.Spec PyProof.Rows L2
open C8 (Cal Mak pe_c pe_mk)
end Fx
/-! defs of choices and of their laws, on data (as k30 has them) -/
namespace Fx.Ch
open PySem PySem.Spec PyProof.Rows L2
end Fx.Ch
/-! trades on data: drawn -/
namespace Fx.Lib
open PySem Nl
/-- unlike as pairs without order -/
def apart (p q : Nat × Nat) : Prop := ¬(p.1 = q.1 ∧ p.2 = q.2) ∧ ¬(p.1 = q.2 ∧ p.2 = q.1)
theorem apart.symm {p q : Nat × Nat} (h : apart p q) : apart q p := ⟨fun ⟨a, b⟩ => h.1 ⟨a.symm, b.symm⟩, fun ⟨a, b⟩ => h.2 ⟨b.symm, a.symm⟩⟩
structure OkTrade (n : Nat) (C P : List (Nat × Nat)) : Prop where
  rng : ∀ p, p ∈ C ∨ p ∈ P → p.1 < n ∧ p.2 < n ∧ p.1 ≠ p.2
  c : C.Pairwise apart
  p : P.Pairwise apart
  cp : ∀ x ∈ C, ∀ y ∈ P, apart x y
theorem OkTrade.nil {n : Nat} : OkTrade n [] [] := ⟨fun p h => by simp at h, .nil, .nil, fun x h => by simp at h⟩
/-- pairs drawn ahead of (i, j) -/
def ahead (i j : Nat) (p : Nat × Nat) : Prop := (p.1 < p.2 ∧ (p.1 < i ∨ (p.1 = i ∧ p.2 < j))) ∨ (p.2 < p.1 ∧ (p.2 < i ∨ (p.2 = i ∧ p.1 < j)))
theorem ahead.next {i j : Nat} {p : Nat × Nat} (h : ahead i j p) : ahead i (j + 1) p := by
  unfold ahead at h ⊢
  omega
end Fx.Lib
/-! trades on data: made, their kinds -/
namespace Fx.Lib
open PySem Nl
end Fx.Lib
/-! trades on data: their kinds, providers, rings of customers -/
namespace Fx.Lib
open PySem Nl Ring
end Fx.Lib
/-! defs of the program and of laws, on data -/
namespace Fx.Lib
open PySem PySem.Spec PyProof.Rows L2
end Fx.Lib
/-! trades on data: paths that are paid -/
namespace Fx.Lib
open PySem Nl
end Fx.Lib
/-! choices: paths, lists of paths, choices on data -/
namespace Fx.Ch
open PySem Lib Nl
structure OkPath (m v : Nat) (p : List Nat) : Prop where
  two : 2 ≤ p.length
  hd : p[0]? = some v
  lst : p.getLast? = some 0
  nd : p.Nodup
  le : ∀ x ∈ p, x ≤ m
def OkAt (m i : Nat) (P : List (List Nat)) : Prop := P.length ≤ 10 ∧ P.Nodup ∧ ∀ p ∈ P, OkPath m (i + 1) p
structure Fine (m : Nat) (L : List (List (List Nat))) : Prop where
  len : L.length = m
  at_ : ∀ i P, L[i]? = some P → OkAt m i P
theorem OkPath.len {m v : Nat} {p : List Nat} (h : OkPath m v p) : p.length ≤ m + 1 := nodup_len h.nd fun i hi => by have := h.le i hi; omega
/-! ### is_path -/
/-! ### enumerate from a start on -/
end Fx.Ch
/-! choices: choices made, refused -/
namespace Fx.Ch
open PySem Lib Nl
end Fx.Ch
/-! choices: states, what a node takes -/
namespace Fx.Ch
open PySem Lib Nl
structure OkSt (L : List (List (List Nat))) (st : List (Option (List Nat))) : Prop where
  len : st.length = L.length
  at_ : ∀ (i : Nat) (p : List Nat), st[i]? = some (some p) → ∃ P : List (List Nat), L[i]? = some P ∧ p ∈ P
def fits (st : List (Option (List Nat))) (p : List Nat) : Bool := decide (p.getD 1 0 = 0) || decide (st.getD (p.getD 1 0 - 1) none = some (p.drop 1))
def takes (st : List (Option (List Nat))) (P : List (List Nat)) : Option (List Nat) := P.find? (fits st)
end Fx.Ch
/-! choices: lists drawn -/
namespace Fx.Ch
open PySem Lib Nl
end Fx.Ch
/-! choices: a state drawn, own == -/
namespace Fx.Ch
open PySem Lib Nl
/-! ### own == -/
theorem Fine.small {m : Nat} {L : List (List (List Nat))} (f : Fine m L) (hm : m ≤ 7) : ∀ P ∈ L, P.length ≤ 1000 ∧ ∀ p ∈ P, p.length ≤ 1000 := fun P hP => by
  obtain ⟨i, hi⟩ := List.getElem?_of_mem hP
  have := f.at_ i P hi
  exact ⟨by have := this.1; omega, fun p hp => by have := (this.2.2 p hp).len; omega⟩
end Fx.Ch
/-! disputes, numberings, runs of choices: numbers and lists alone -/
namespace Fx.Ch
abbrev Ls := List (List (List Nat))
abbrev St := List (Option (List Nat))
def at1 (L : Ls) (v : Nat) : List (List Nat) := L.getD (v - 1) []
/-- the disputes of one better path -/
def dispOf (L : Ls) (R : List Nat) : List (Nat × List Nat × List Nat) := ((List.range (R.length - 2)).filter fun c => decide (R.drop (c + 1) ∈ at1 L (R.getD (c + 1) 0))).map fun c => (R.getD (c + 1) 0, R.drop (c + 1), R.take (c + 2))
def disp (L : Ls) (v : Nat) (p : List Nat) : List (Nat × List Nat × List Nat) := ((at1 L v).take ((at1 L v).idxOf p + 1)).flatMap (dispOf L)
def Listed (L : Ls) (v : Nat) (p : List Nat) : Prop := 1 ≤ v ∧ v ≤ L.length ∧ p ∈ at1 L v
def aft (L : Ls) (st : St) (i : Nat) : St := st.set i (takes st (L.getD i []))
section
variable {m : Nat} {L : Ls} {order : List (Nat × List Nat)} {a b st : St}
theorem mem_at1 {i : Nat} {P : List (List Nat)} (e : L[i]? = some P) : at1 L (i + 1) = P := by
  unfold at1
  rw [Nat.add_sub_cancel, List.getD_eq_getElem?_getD, e]
  rfl
theorem Listed.get {v : Nat} {p : List Nat} (h : Listed L v p) : ∃ P, L[v - 1]? = some P ∧ p ∈ P ∧ at1 L v = P := by
  obtain ⟨h1, h2, h3⟩ := h
  refine ⟨L[v - 1]'(by omega), List.getElem?_eq_getElem _, ?_, ?_⟩
  · unfold at1 at h3
    rw [List.getD_eq_getElem?_getD, List.getElem?_eq_getElem (by omega)] at h3
    exact h3
  · unfold at1
    rw [List.getD_eq_getElem?_getD, List.getElem?_eq_getElem (by omega)]
    rfl
theorem Listed.ok (f : Fine m L) {v : Nat} {p : List Nat} (h : Listed L v p) : OkPath m v p := by
  obtain ⟨P, e, hp, _⟩ := h.get
  have := (f.at_ _ _ e).2.2 p hp
  rw [show v - 1 + 1 = v by have := h.1; omega] at this
  exact this
theorem OkSt.getD (h : OkSt L a) {i : Nat} {p : List Nat} (e : a.getD i none = some p) : Listed L (i + 1) p := by
  rw [List.getD_eq_getElem?_getD] at e
  cases ha : a[i]? with
  | none => rw [ha] at e; cases e
  | some o =>
    rw [ha] at e
    have e : o = some p := e
    subst e
    obtain ⟨P, e1, e2⟩ := h.at_ _ _ ha
    refine ⟨by omega, ?_, ?_⟩
    · have := (List.getElem?_eq_some_iff.mp e1).1
      omega
    · rw [mem_at1 e1]
      exact e2
theorem mem_dispOf {R : List Nat} {t : Nat × List Nat × List Nat} : t ∈ dispOf L R ↔ ∃ c, c + 2 < R.length ∧ R.drop (c + 1) ∈ at1 L (R.getD (c + 1) 0) ∧ t = (R.getD (c + 1) 0, R.drop (c + 1), R.take (c + 2)) := by
  unfold dispOf
  simp only [List.mem_map, List.mem_filter, List.mem_range, decide_eq_true_eq]
  constructor
  · rintro ⟨c, ⟨h1, h2⟩, rfl⟩
    exact ⟨c, by omega, h2, rfl⟩
  · rintro ⟨c, h1, h2, rfl⟩
    exact ⟨c, ⟨by omega, h2⟩, rfl⟩
/-- the inner nodes of a path are nodes that take paths -/
theorem inner_pos {v : Nat} {R : List Nat} (h : OkPath m v R) {c : Nat} (hc : c + 2 < R.length) : 1 ≤ R.getD (c + 1) 0 ∧ R.getD (c + 1) 0 ≤ m := by
  have e : R[c + 1]? = some (R.getD (c + 1) 0) := by
    rw [List.getD_eq_getElem?_getD, List.getElem?_eq_getElem (by omega)]
    rfl
  refine ⟨?_, h.le _ (List.mem_of_getElem? e)⟩
  rcases Nat.eq_zero_or_pos (R.getD (c + 1) 0) with h0 | h0
  · rw [h0] at e
    have el : R[R.length - 1]? = some 0 := by
      rw [← List.getLast?_eq_getElem?]
      exact h.lst
    have := (List.getElem?_inj (by omega) h.nd).mp (e.trans el.symm)
    omega
  · exact h0
theorem disp_listed (f : Fine m L) {v : Nat} {p : List Nat} {t : Nat × List Nat × List Nat} (hv : Listed L v p) (h : t ∈ disp L v p) : Listed L t.1 t.2.1 := by
  obtain ⟨P, e, hp, eP⟩ := hv.get
  unfold disp at h
  obtain ⟨R, hR, ht⟩ := List.mem_flatMap.mp h
  have hR' : Listed L v R := ⟨hv.1, hv.2.1, List.mem_of_mem_take hR⟩
  obtain ⟨c, h1, h2, rfl⟩ := mem_dispOf.mp ht
  have := inner_pos (hR'.ok f) h1
  exact ⟨this.1, by rw [f.len]; exact this.2, h2⟩
end
end Fx.Ch
/-! all states of choices in order, and what a search by fixed paths finds: numbers and lists alone -/
namespace Fx.Ch
def opts (P : List (List Nat)) : List (Option (List Nat)) := P.map some ++ [none]
def prodL : Ls → List St
  | [] => [[]]
  | P :: L => (opts P).flatMap fun o => (prodL L).map (o :: ·)
theorem opts_nd {P : List (List Nat)} (h : P.Nodup) : (opts P).Nodup := by
  unfold opts
  rw [List.nodup_append]
  refine ⟨List.nodup_iff_pairwise_ne.mpr ((List.pairwise_map).mpr ((List.nodup_iff_pairwise_ne.mp h).imp fun h e => h (Option.some.inj e))), by simp, fun a ha b hb e => ?_⟩
  obtain ⟨p, _, rfl⟩ := List.mem_map.mp ha
  rw [List.mem_singleton.mp hb] at e
  cases e
/-- of a flatMap over different things only one is left -/
theorem flatMap_one {α β : Type} [DecidableEq α] {g : α → List β} {a : α} : ∀ {l : List α}, l.Nodup → a ∈ l → (∀ x ∈ l, x ≠ a → g x = []) → l.flatMap g = g a
  | [], _, h, _ => by cases h
  | x :: l, nd, h, hg => by
    rw [List.nodup_cons] at nd
    rw [List.flatMap_cons]
    by_cases e : x = a
    · subst e
      rw [List.flatMap_eq_nil_iff.mpr fun y hy => hg y (List.mem_cons_of_mem _ hy) fun z => nd.1 (z ▸ hy), List.append_nil]
    · rw [hg x List.mem_cons_self e, List.nil_append]
      exact flatMap_one nd.2 ((List.mem_cons.mp h).resolve_left fun z => e z.symm) fun y hy => hg y (List.mem_cons_of_mem _ hy)
theorem flatMap_nilL {α β : Type} {g : α → List β} {l : List α} (h : ∀ x ∈ l, g x = []) : l.flatMap g = [] := List.flatMap_eq_nil_iff.mpr h
theorem flatMap_congrL {α β : Type} {f g : α → List β} {l : List α} (h : ∀ x ∈ l, f x = g x) : l.flatMap f = l.flatMap g := by
  induction l with
  | nil => rfl
  | cons x l ih =>
    rw [List.flatMap_cons, List.flatMap_cons, h x List.mem_cons_self, ih fun y hy => h y (List.mem_cons_of_mem _ hy)]
theorem split0 {P : List (List Nat)} {L : Ls} (nd : P.Nodup) (F : St → Bool) {o : Option (List Nat)} (ho : o ∈ opts P) : (prodL (P :: L)).filter (fun s => F s && (s.getD 0 none == o)) = ((prodL L).map (o :: ·)).filter F := by
  show ((opts P).flatMap _).filter _ = _
  rw [List.filter_flatMap, flatMap_one (a := o) (opts_nd nd) ho]
  · refine List.filter_congr fun s hs => ?_
    obtain ⟨t, _, rfl⟩ := List.mem_map.mp hs
    show (F (o :: t) && (o == o)) = _
    rw [beq_self_eq_true, Bool.and_true]
  · intro x _ hx
    refine List.filter_eq_nil_iff.mpr fun s hs e => ?_
    obtain ⟨t, _, rfl⟩ := List.mem_map.mp hs
    have e : (F (x :: t) && (x == o)) = true := e
    rw [Bool.and_eq_true] at e
    exact hx (eq_of_beq e.2)
theorem split : ∀ (i : Nat) {L : Ls} (F : St → Bool), i < L.length → (∀ P ∈ L, P.Nodup) → (∀ s ∈ prodL L, ∀ t ∈ prodL L, F s = true → F t = true → ∀ j, j < i → s.getD j none = t.getD j none) → (prodL L).filter F = (opts (L.getD i [])).flatMap fun o => (prodL L).filter fun s => F s && (s.getD i none == o)
  | _, [], _, hi, _, _ => absurd hi (Nat.not_lt_zero _)
  | 0, P :: L, F, _, nd, _ => by
    show ((opts P).flatMap _).filter F = (opts P).flatMap _
    rw [List.filter_flatMap]
    exact flatMap_congrL fun o ho => (split0 (nd P List.mem_cons_self) F ho).symm
  | i + 1, P :: L, F, hi, nd, h => by
    have hP := nd P List.mem_cons_self
    rw [show (P :: L).getD (i + 1) [] = L.getD i [] from rfl]
    by_cases hx : ∃ s ∈ prodL (P :: L), F s = true
    · obtain ⟨s, hs, hF⟩ := hx
      obtain ⟨c, hc, hs'⟩ := List.mem_flatMap.mp (show s ∈ (opts P).flatMap _ from hs)
      obtain ⟨t, ht, rfl⟩ := List.mem_map.mp hs'
      have one : ∀ G : St → Bool, (∀ u, G u = true → F u = true) → (prodL (P :: L)).filter G = ((prodL L).filter fun u => G (c :: u)).map (c :: ·) := fun G hG => by
        have e1 : (prodL (P :: L)).filter G = (prodL (P :: L)).filter fun u => G u && (u.getD 0 none == c) := List.filter_congr fun u hu => by
          cases hg : G u with
          | false => rfl
          | true =>
            rw [Bool.true_and]
            exact (beq_iff_eq.mpr (h u hu _ hs (hG u hg) hF 0 (by omega))).symm
        rw [e1, split0 hP G hc, List.filter_map]
        rfl
      rw [one F fun u hu => hu]
      have ih := split i (L := L) (fun u => F (c :: u)) (by simpa using hi) (fun Q hQ => nd Q (List.mem_cons_of_mem _ hQ)) fun u hu v hv hFu hFv j hj => by
        have := h (c :: u) (List.mem_flatMap.mpr ⟨c, hc, List.mem_map.mpr ⟨u, hu, rfl⟩⟩) (c :: v) (List.mem_flatMap.mpr ⟨c, hc, List.mem_map.mpr ⟨v, hv, rfl⟩⟩) hFu hFv (j + 1) (by omega)
        exact this
      rw [ih, List.map_flatMap]
      refine flatMap_congrL fun o _ => ?_
      rw [one (fun s => F s && (s.getD (i + 1) none == o)) fun u hu => (Bool.and_eq_true_iff.mp hu).1]
      rfl
    · have e1 : ∀ G : St → Bool, (∀ u, G u = true → F u = true) → (prodL (P :: L)).filter G = [] := fun G hG => List.filter_eq_nil_iff.mpr fun u hu e => hx ⟨u, hu, hG u e⟩
      rw [e1 F fun u hu => hu]
      exact (flatMap_nilL fun o _ => e1 _ fun u hu => (Bool.and_eq_true_iff.mp hu).1).symm
/-! fixed paths -/
abbrev Fxd := List (Nat × Option (List Nat))
def lkp (v : Nat) : Fxd → Option (Option (List Nat))
  | [] => none
  | (u, o) :: f => if u = v then some o else lkp v f
theorem lkp_app : ∀ {f g : Fxd} {v : Nat}, lkp v (f ++ g) = (match lkp v f with | some o => some o | none => lkp v g)
  | [], _, _ => rfl
  | (u, x) :: f, g, v => by
    show (if u = v then some x else lkp v (f ++ g)) = (match (if u = v then some x else lkp v f) with | some o => some o | none => lkp v g)
    by_cases e : u = v
    · rw [if_pos e, if_pos e]
    · rw [if_neg e, if_neg e]
      exact lkp_app
def val (s : St) (v : Nat) : Option (List Nat) := s.getD (v - 1) none
def pl (P : List (List Nat)) : Option (List Nat) → Nat
  | none => P.length
  | some p => P.idxOf p
structure Good (L : Ls) (f : Fxd) : Prop where
  nd : (f.map (·.1)).Nodup
  rng : ∀ v o, (v, o) ∈ f → 1 ≤ v ∧ v ≤ L.length
  ls : ∀ v p, (v, some p) ∈ f → p ∈ at1 L v
  cl : ∀ v p, (v, some p) ∈ f → p.getD 1 0 = 0 ∨ lkp (p.getD 1 0) f = some (some (p.drop 1))
section
variable {m : Nat} {L : Ls} {f g : Fxd} {s : St}
theorem Good.nil : Good L [] := ⟨List.nodup_nil, fun _ _ h => (nomatch h), fun _ _ h => (nomatch h), fun _ _ h => (nomatch h)⟩
theorem Good.none {v : Nat} (h : Good L f) (h1 : 1 ≤ v) (h2 : v ≤ L.length) (hv : v ∉ f.map (·.1)) : Good L (f ++ [(v, none)]) := by
  refine ⟨?_, fun u o hu => ?_, fun u p hu => ?_, fun u p hu => ?_⟩
  · rw [List.map_append, List.nodup_append]
    refine ⟨h.nd, by simp, fun x hx y hy e => ?_⟩
    simp only [List.map_cons, List.map_nil, List.mem_singleton] at hy
    rw [e, hy] at hx
    exact hv hx
  · rcases List.mem_append.mp hu with q | q
    · exact h.rng u o q
    · cases List.mem_singleton.mp q
      exact ⟨h1, h2⟩
  · rcases List.mem_append.mp hu with q | q
    · exact h.ls u p q
    · cases List.mem_singleton.mp q
  · rcases List.mem_append.mp hu with q | q
    · refine (h.cl u p q).imp_right fun e => ?_
      rw [lkp_app, e]
    · cases List.mem_singleton.mp q
end
end Fx.Ch
/-! the search, step by step -/
namespace Fx.Ch
def stB (L : Ls) (s : St) : Bool := (List.range L.length).all fun i => takes s (L.getD i []) == s.getD i none
def extB (f : Fxd) (s : St) : Bool := f.all fun x => val s x.1 == x.2
def goal (L : Ls) (f : Fxd) : List St := (prodL L).filter fun s => extB f s && stB L s
section
variable {m : Nat} {L : Ls} {f g : Fxd} {s : St}
theorem Fine.nd (fi : Fine m L) : ∀ P ∈ L, P.Nodup := fun P hP => by
  obtain ⟨i, e⟩ := List.getElem?_of_mem hP
  exact (fi.at_ _ _ e).2.1
/-! how far a search goes -/
def free (m : Nat) (f : Fxd) : List Nat := (List.range m).filterMap fun i => if i + 1 ∈ f.map (·.1) then none else some (i + 1)
def wt (b : Nat) : Nat → Nat
  | 0 => 1
  | k + 1 => 1 + b * wt b k
end
end Fx.Ch
/-! more defs of choices and of their laws, on data -/
namespace Fx.Ch
open PySem PySem.Spec PyProof.Rows L2
end Fx.Ch
/-! disputes, on data -/
namespace Fx.Ch
open PySem Lib Nl
end Fx.Ch
/-! the stripping of pairs without a dispute: lists alone -/
namespace Fx.Ch
abbrev Pr := Nat × List Nat
def enumL : Nat → Ls → List (Nat × List (List Nat))
  | _, [] => []
  | k, P :: L => (k, P) :: enumL (k + 1) L
def prs (L : Ls) : List Pr := (enumL 1 L).flatMap fun q => q.2.map fun p => (q.1, p)
def goes (L : Ls) (S : List Pr) (q : Pr) : List (Nat × List Nat × List Nat) := (disp L q.1 q.2).filter fun t => decide ((t.1, t.2.1) ∈ S)
def rdy (L : Ls) (S : List Pr) : List Pr := S.filter fun q => (goes L S q).isEmpty
def stay (L : Ls) (S : List Pr) : List Pr := S.filter fun q => !decide (q ∈ rdy L S)
theorem mem_enumL : ∀ {L : Ls} {k v : Nat} {P : List (List Nat)}, (v, P) ∈ enumL k L ↔ k ≤ v ∧ L[v - k]? = some P
  | [], k, v, P => by simp [enumL]
  | Q :: L, k, v, P => by
    unfold enumL
    rw [List.mem_cons, mem_enumL]
    constructor
    · rintro (e | ⟨h1, h2⟩)
      · cases e
        refine ⟨Nat.le_refl _, ?_⟩
        rw [Nat.sub_self]
        rfl
      · refine ⟨by omega, ?_⟩
        rw [show v - k = v - (k + 1) + 1 by omega]
        exact h2
    · rintro ⟨h1, h2⟩
      rcases Nat.eq_or_lt_of_le h1 with e | e
      · left
        subst e
        rw [Nat.sub_self] at h2
        cases h2
        rfl
      · right
        refine ⟨e, ?_⟩
        rw [show v - k = v - (k + 1) + 1 by omega] at h2
        exact h2
theorem mem_prs {L : Ls} {v : Nat} {p : List Nat} : (v, p) ∈ prs L ↔ Listed L v p := by
  unfold prs
  rw [List.mem_flatMap]
  constructor
  · rintro ⟨⟨u, P⟩, h1, h2⟩
    obtain ⟨q, hq, e⟩ := List.mem_map.mp h2
    cases e
    obtain ⟨h3, h4⟩ := mem_enumL.mp h1
    have hl := (List.getElem?_eq_some_iff.mp h4).1
    refine ⟨h3, by omega, ?_⟩
    unfold at1
    rw [List.getD_eq_getElem?_getD, h4]
    exact hq
  · intro h
    obtain ⟨P, e, hp, _⟩ := h.get
    exact ⟨(v, P), mem_enumL.mpr ⟨h.1, e⟩, List.mem_map.mpr ⟨p, hp, rfl⟩⟩
theorem enumL_lt : ∀ {L : Ls} {k : Nat}, (enumL k L).Pairwise fun a b => a.1 < b.1
  | [], _ => List.Pairwise.nil
  | P :: L, k => by
    unfold enumL
    refine List.Pairwise.cons (fun b hb => ?_) enumL_lt
    have := (mem_enumL.mp (show (b.1, b.2) ∈ _ from hb)).1
    exact this
theorem prs_nd {m : Nat} {L : Ls} (f : Fine m L) : (prs L).Nodup := by
  unfold prs
  rw [List.nodup_iff_pairwise_ne, List.pairwise_flatMap]
  refine ⟨fun q hq => List.pairwise_map.mpr ?_, enumL_lt.imp fun {a b} hab x hx y hy e => ?_⟩
  · have h4 := (mem_enumL.mp (show (q.1, q.2) ∈ _ from hq)).2
    exact (List.nodup_iff_pairwise_ne.mp (f.at_ _ _ h4).2.1).imp fun h e => h (Prod.ext_iff.mp e).2
  · obtain ⟨_, _, rfl⟩ := List.mem_map.mp hx
    obtain ⟨_, _, rfl⟩ := List.mem_map.mp hy
    have := (Prod.ext_iff.mp e).1
    dsimp only at this
    omega
theorem mem_rdy {L : Ls} {S : List Pr} {q : Pr} : q ∈ rdy L S ↔ q ∈ S ∧ ∀ t ∈ disp L q.1 q.2, (t.1, t.2.1) ∉ S := by
  unfold rdy goes
  rw [List.mem_filter, List.isEmpty_iff, List.filter_eq_nil_iff]
  simp
structure Str (L : Ls) (S o : List Pr) : Prop where
  nd : (o ++ S).Nodup
  mem : ∀ q, q ∈ o ++ S ↔ q ∈ prs L
  back : ∀ (k v : Nat) (p : List Nat), o[k]? = some (v, p) → ∀ t ∈ disp L v p, ∃ j : Nat, j < k ∧ o[j]? = some (t.1, t.2.1)
  sub : S.Sublist (prs L)
theorem Str.step {m : Nat} {L : Ls} {S o : List Pr} (f : Fine m L) (h : Str L S o) : Str L (stay L S) (o ++ rdy L S) := by
  have nd := List.nodup_append.mp h.nd
  have hmem : ∀ q, q ∈ rdy L S ∨ q ∈ stay L S ↔ q ∈ S := fun q => by
    unfold stay
    rw [List.mem_filter]
    constructor
    · rintro (a | a)
      · exact (mem_rdy.mp a).1
      · exact a.1
    · intro a
      by_cases b : q ∈ rdy L S
      · exact .inl b
      · exact .inr ⟨a, by simp [b]⟩
  refine ⟨?_, fun q => ?_, fun k v p hk t ht => ?_, List.Sublist.trans List.filter_sublist h.sub⟩
  · rw [List.append_assoc, List.nodup_append, List.nodup_append]
    refine ⟨nd.1, ⟨List.Nodup.sublist List.filter_sublist nd.2.1, List.Nodup.sublist List.filter_sublist nd.2.1, fun x hx y hy e => ?_⟩, fun x hx y hy => nd.2.2 x hx y ((hmem y).mp (List.mem_append.mp hy))⟩
    subst e
    have := (List.mem_filter.mp hy).2
    simp [hx] at this
  · rw [List.append_assoc, List.mem_append, List.mem_append, hmem, ← h.mem q, List.mem_append]
  · have hin : ∀ k' v' p', o[k']? = some (v', p') → (o ++ rdy L S)[k']? = some (v', p') := fun k' v' p' e => by
      rw [List.getElem?_append_left (List.getElem?_eq_some_iff.mp e).1]
      exact e
    by_cases hlt : k < o.length
    · rw [List.getElem?_append_left hlt] at hk
      obtain ⟨j, hj, e⟩ := h.back k v p hk t ht
      exact ⟨j, hj, hin _ _ _ e⟩
    · rw [List.getElem?_append_right (by omega)] at hk
      obtain ⟨hS, hn⟩ := mem_rdy.mp (List.mem_of_getElem? hk)
      have hl : Listed L v p := mem_prs.mp ((h.mem _).mp (List.mem_append_right _ hS))
      have ht' := disp_listed f hl ht
      have := (h.mem _).mpr (mem_prs.mpr ht')
      rcases List.mem_append.mp this with z | z
      · obtain ⟨j, hj⟩ := List.getElem?_of_mem z
        exact ⟨j, by have := (List.getElem?_eq_some_iff.mp hj).1; omega, hin _ _ _ hj⟩
      · exact absurd z (hn t ht)
theorem Str.one {m : Nat} {L : Ls} (f : Fine m L) : Str L (prs L) [] := ⟨prs_nd f, fun q => by rw [List.nil_append], fun k v p e => by simp at e, List.Sublist.refl _⟩
end Fx.Ch
/-! pairs and their numbering, on data -/
namespace Fx.Nl
open PySem
/-- what is answered, as a value -/
def Ret (o : Out S) (x : D) : Prop := OKF o fun s => toD s = some x
theorem Ret.d {o : Out S} {x : D} (h : OKF o fun s => s = .d x) : Ret o x := h.imp fun s e => by rw [e]; rfl
theorem Ret.o {o : Out S} {x : D} (h : OKF o fun s => s = .o none x) (hc : canFz x = true) : Ret o x := h.imp fun s e => by
  rw [e]
  show (if canFz x then some x else none) = _
  rw [if_pos hc]
end Fx.Nl
namespace Fx.Ch
open PySem Lib Nl
end Fx.Ch
/-! wheels, on data -/
namespace Fx.Nl
open PySem
end Fx.Nl
namespace Fx.Ch
open PySem Lib Nl
abbrev Tr := Nat × List Nat × List Nat
/-- the first dispute that goes on among what is left -/
def fst (L : Ls) (S : List Pr) (q : Pr) : Tr := (goes L S q).headD (0, [], [])
end Fx.Ch
/-! the search for stable states, on data -/
namespace Fx.Nl
open PySem
open PySem.W (dataLt dataLt_int alike)
section
variable {ρ : En} {fe fd fa fb fr : M S} {fA : M (List D)} {xs ys : List D}
theorem ea_star {x : D} (h : Ev fa ρ x) (hx : itemsD x = some xs) (k : EvA fA ρ ys) : EvA (aStar fa fA) ρ (xs ++ ys) := by
  unfold EvA aStar
  rw [ok_then]
  refine h.dv ?_
  rw [hx]
  dsimp only
  rw [ok_then]
  refine k.ok ?_
  rw [ok_ok]
  exact ⟨rfl, rfl⟩
end
end Fx.Nl
namespace Fx.Ch
open PySem Lib Nl
end Fx.Ch
/-! stacks of labels: trails, chains, least ways to take labels off (no data) -/
namespace Fx.Sk
abbrev Ky := Nat × Nat × Nat
inductive It where
  | r (i : Nat)
  | k (p : Ky)
abbrev Tr := List It
abbrev Ru := Nat × Nat × Nat × List Nat
abbrev Wy (α : Type) := List (α × Nat × Tr)
section
variable {α : Type} [DecidableEq α]
def getY (F : Wy α) (a : α) : Option (Nat × Tr) := (F.find? fun e => decide (a = e.1)).map (·.2)
def hasY (F : Wy α) (a : α) : Bool := F.any fun e => decide (a = e.1)
def putY (F : Wy α) (a : α) (x : Nat × Tr) : Wy α := if hasY F a then F.map fun e => (e.1, if a = e.1 then x else e.2) else F ++ [(a, x)]
variable {F : Wy α} {a b : α} {x y : Nat × Tr}
theorem hasY_iff : hasY F a = true ↔ a ∈ F.map (·.1) := by
  unfold hasY
  rw [List.any_eq_true]
  constructor
  · rintro ⟨e, he, h⟩
    have := of_decide_eq_true h
    exact List.mem_map.mpr ⟨e, he, this.symm⟩
  · intro h
    obtain ⟨e, he, h⟩ := List.mem_map.mp h
    exact ⟨e, he, decide_eq_true h.symm⟩
theorem getY_cons {e : α × Nat × Tr} : getY (e :: F) a = if a = e.1 then some e.2 else getY F a := by
  unfold getY
  rw [List.find?_cons]
  by_cases h : a = e.1
  · rw [if_pos h]
    simp [h]
  · rw [if_neg h]
    simp [h]
theorem getY_app {G : Wy α} : getY (F ++ G) a = match getY F a with | some x => some x | none => getY G a := by
  induction F with
  | nil => rfl
  | cons e F ih =>
    rw [List.cons_append, getY_cons, getY_cons]
    by_cases h : a = e.1
    · rw [if_pos h, if_pos h]
    · rw [if_neg h, if_neg h, ih]
theorem getY_none : getY F a = none ↔ hasY F a = false := by
  unfold getY hasY
  rw [Option.map_eq_none_iff, List.find?_eq_none, ← Bool.not_eq_true, List.any_eq_true]
  constructor
  · rintro h ⟨e, he, q⟩
    exact h e he q
  · intro h e he q
    exact h ⟨e, he, q⟩
theorem getY_has (h : getY F a = some x) : hasY F a = true := by
  cases e : hasY F a with
  | true => rfl
  | false => rw [getY_none.mpr e] at h; cases h
theorem has_getY (h : hasY F a = true) : ∃ x, getY F a = some x := by
  cases e : getY F a with
  | none => rw [getY_none.mp e] at h; cases h
  | some x => exact ⟨x, rfl⟩
theorem getY_mem (h : getY F a = some x) : (a, x) ∈ F := by
  unfold getY at h
  obtain ⟨e, he, rfl⟩ := Option.map_eq_some_iff.mp h
  have h1 := List.mem_of_find?_eq_some he
  have h3 := List.find?_some he
  have h2 : a = e.1 := of_decide_eq_true h3
  rw [h2]
  exact h1
theorem mem_getY (nd : (F.map (·.1)).Nodup) (h : (a, x) ∈ F) : getY F a = some x := by
  induction F with
  | nil => cases h
  | cons e F ih =>
    rw [getY_cons]
    rw [List.map_cons, List.nodup_cons] at nd
    rcases List.mem_cons.mp h with rfl | h
    · rw [if_pos rfl]
    · rw [if_neg fun q => nd.1 (List.mem_map.mpr ⟨_, h, q⟩)]
      exact ih nd.2 h
theorem getY_map : ∀ {F : Wy α}, getY (F.map fun e => (e.1, if a = e.1 then x else e.2)) b = if b = a then (if hasY F a then some x else none) else getY F b
  | [] => by
    show none = _
    split <;> rfl
  | e :: F => by
    have h1 : hasY (e :: F) a = (decide (a = e.1) || hasY F a) := rfl
    rw [List.map_cons, getY_cons, getY_map, getY_cons, h1]
    by_cases h : b = a
    · subst h
      by_cases q : b = e.1
      · simp [q]
      · simp [q]
    · by_cases q : b = e.1
      · subst q
        rw [if_pos rfl, if_neg h, if_neg (fun z => h z.symm), if_pos rfl]
      · rw [if_neg q, if_neg h, if_neg h, if_neg q]
theorem getY_put : getY (putY F a x) b = if b = a then some x else getY F b := by
  unfold putY
  cases h : hasY F a with
  | true =>
    rw [if_pos rfl, getY_map, h]
    rfl
  | false =>
    rw [if_neg (by simp), getY_app, getY_cons]
    by_cases q : b = a
    · subst q
      rw [getY_none.mpr h, if_pos rfl]
      simp
    · rw [if_neg q]
      cases getY F b <;> simp [q, getY]
theorem keys_put : (putY F a x).map (·.1) = if hasY F a then F.map (·.1) else F.map (·.1) ++ [a] := by
  unfold putY
  cases h : hasY F a
  · simp
  · rw [if_pos rfl, if_pos rfl, List.map_map]
    exact List.map_congr_left fun e _ => rfl
theorem nd_put (nd : (F.map (·.1)).Nodup) : ((putY F a x).map (·.1)).Nodup := by
  rw [keys_put]
  cases h : hasY F a
  · rw [if_neg (by simp)]
    rw [List.nodup_append]
    refine ⟨nd, by simp, fun p hp q hq e => ?_⟩
    have hn : a ∉ F.map (·.1) := fun z => by rw [hasY_iff.mpr z] at h; cases h
    rw [List.mem_singleton] at hq
    subst hq e
    exact hn hp
  · rw [if_pos rfl]
    exact nd
/-- the better of what is known and what is new -/
def btr (F : Wy α) (a : α) (x : Nat × Tr) : Bool := match getY F a with
  | none => true
  | some y => decide (x.1 < y.1)
def updY (F : Wy α) (e : α × Nat × Tr) : Wy α := if btr F e.1 e.2 then putY F e.1 e.2 else F
theorem nd_upd (nd : (F.map (·.1)).Nodup) {e : α × Nat × Tr} : ((updY F e).map (·.1)).Nodup := by
  unfold updY
  split
  · exact nd_put nd
  · exact nd
theorem upd_le {e : α × Nat × Tr} (h : getY F b = some x) : ∃ y, getY (updY F e) b = some y ∧ y.1 ≤ x.1 ∧ (y = x ∨ b = e.1 ∧ y = e.2 ∧ y.1 < x.1) := by
  unfold updY
  cases q : btr F e.1 e.2 with
  | false =>
    rw [if_neg (by simp)]
    exact ⟨x, h, Nat.le_refl _, .inl rfl⟩
  | true =>
    rw [if_pos rfl, getY_put]
    by_cases z : b = e.1
    · rw [if_pos z]
      unfold btr at q
      rw [← z, h] at q
      have q : decide (e.2.1 < x.1) = true := q
      have := of_decide_eq_true q
      exact ⟨e.2, rfl, by omega, .inr ⟨z, rfl, this⟩⟩
    · rw [if_neg z]
      exact ⟨x, h, Nat.le_refl _, .inl rfl⟩
theorem upd_own {e : α × Nat × Tr} : ∃ y, getY (updY F e) e.1 = some y ∧ y.1 ≤ e.2.1 := by
  unfold updY
  cases q : btr F e.1 e.2 with
  | false =>
    rw [if_neg (by simp)]
    unfold btr at q
    cases h : getY F e.1 with
    | none => rw [h] at q; cases q
    | some y =>
      rw [h] at q
      have q : decide (e.2.1 < y.1) = false := q
      have := of_decide_eq_false q
      exact ⟨y, rfl, by omega⟩
  | true =>
    rw [if_pos rfl, getY_put, if_pos rfl]
    exact ⟨_, rfl, Nat.le_refl _⟩
theorem upd_from {e : α × Nat × Tr} (h : getY (updY F e) b = some y) : getY F b = some y ∨ (b, y) = e := by
  unfold updY at h
  split at h
  · rw [getY_put] at h
    split at h
    · rename_i z
      cases h
      exact .inr (by rw [z])
    · exact .inl h
  · exact .inl h
/-- the best of some, from what is known -/
abbrev best (F : Wy α) (C : Wy α) : Wy α := C.foldl updY F
theorem best_nd {C : Wy α} : ∀ {F : Wy α}, (F.map (·.1)).Nodup → ((best F C).map (·.1)).Nodup := by
  induction C with
  | nil => exact fun h => h
  | cons e C ih => exact fun h => ih (nd_upd h)
theorem best_le {C : Wy α} : ∀ {F : Wy α} {x : Nat × Tr}, getY F b = some x → ∃ y, getY (best F C) b = some y ∧ y.1 ≤ x.1 := by
  induction C with
  | nil => exact fun h => ⟨_, h, Nat.le_refl _⟩
  | cons e C ih =>
    intro F x h
    obtain ⟨y, h1, h2, _⟩ := upd_le (e := e) h
    obtain ⟨z, h3, h4⟩ := ih h1
    exact ⟨z, h3, Nat.le_trans h4 h2⟩
theorem best_own {C : Wy α} : ∀ {F : Wy α} {e : α × Nat × Tr}, e ∈ C → ∃ y, getY (best F C) e.1 = some y ∧ y.1 ≤ e.2.1 := by
  induction C with
  | nil => intro F e h; cases h
  | cons c C ih =>
    intro F e h
    rcases List.mem_cons.mp h with rfl | h
    · obtain ⟨y, h1, h2⟩ := upd_own (F := F) (e := e)
      obtain ⟨z, h3, h4⟩ := best_le (C := C) h1
      exact ⟨z, h3, Nat.le_trans h4 h2⟩
    · exact ih h
theorem best_from {C : Wy α} : ∀ {F : Wy α} {y : Nat × Tr}, getY (best F C) b = some y → getY F b = some y ∨ (b, y) ∈ C := by
  induction C with
  | nil => exact fun h => .inl h
  | cons e C ih =>
    intro F y h
    rcases ih h with h | h
    · rcases upd_from h with h | z
      · exact .inl h
      · exact .inr (by rw [z]; exact List.mem_cons_self)
    · exact .inr (List.mem_cons_of_mem _ h)
end
/-! ### chains -/
abbrev Ln := Ky → Option Nat
inductive Chain (W : Ln) : Nat → List Nat → List Ky → Nat → Nat → Prop
  | nil {a : Nat} : Chain W a [] [] a 0
  | cons {a l m d e s : Nat} {ls : List Nat} {ks : List Ky} : W (a, l, m) = some d → Chain W m ls ks e s → Chain W a (l :: ls) ((a, l, m) :: ks) e (d + s)
section
variable {W W' : Ln} {a l m d e s s' : Nat} {ls ls' : List Nat} {ks ks' : List Ky}
theorem Chain.app (h : Chain W a ls ks m s) (h' : Chain W m ls' ks' e s') : Chain W a (ls ++ ls') (ks ++ ks') e (s + s') := by
  induction h with
  | nil => rw [Nat.zero_add]; exact h'
  | cons q _ ih =>
    rw [Nat.add_assoc]
    exact .cons q (ih h')
theorem Chain.split : ∀ {ls : List Nat} {a s : Nat} {ks : List Ky}, Chain W a (ls ++ ls') ks e s → ∃ m k1 k2 s1 s2, ks = k1 ++ k2 ∧ s = s1 + s2 ∧ Chain W a ls k1 m s1 ∧ Chain W m ls' k2 e s2
  | [], a, s, ks, h => ⟨a, [], ks, 0, s, rfl, by omega, .nil, h⟩
  | l :: ls, a, s, ks, h => by
    cases h with
    | cons q h =>
      obtain ⟨m, k1, k2, s1, s2, rfl, rfl, h1, h2⟩ := Chain.split h
      exact ⟨m, _ :: k1, k2, _, s2, rfl, by omega, .cons q h1, h2⟩
theorem Chain.snoc (h : Chain W a ls ks m s) (q : W (m, l, e) = some d) : Chain W a (ls ++ [l]) (ks ++ [(m, l, e)]) e (s + d) := by
  have := h.app (Chain.cons q .nil)
  exact this
theorem Chain.mono (h : Chain W a ls ks e s) (m : ∀ k d, W k = some d → ∃ d', W' k = some d' ∧ d' ≤ d) : ∃ s', Chain W' a ls ks e s' ∧ s' ≤ s := by
  induction h with
  | nil => exact ⟨0, .nil, Nat.le_refl _⟩
  | cons q _ ih =>
    obtain ⟨s', h1, h2⟩ := ih
    obtain ⟨d', h3, h4⟩ := m _ _ q
    exact ⟨_, .cons h3 h1, by omega⟩
theorem Chain.len (h : Chain W a ls ks e s) : ks.length = ls.length := by
  induction h with
  | nil => rfl
  | cons _ _ ih => rw [List.length_cons, List.length_cons, ih]
/-! ### the least ways by which all labels can be taken off -/
/-- what can be done at one label more -/
def cands (W : Ln) (F : Wy Nat) (l : Nat) : Wy Nat := F.flatMap fun f => (List.range 8).filterMap fun e => (W (f.1, l, e)).map fun d => (e, f.2.1 + d, f.2.2 ++ [It.k (f.1, l, e)])
def dr1 (W : Ln) (F : Wy Nat) (l : Nat) : Wy Nat := best [] (cands W F l)
def drn (W : Ln) (a : Nat) (ls : List Nat) : Wy Nat := ls.foldl (dr1 W) [(a, 0, [])]
theorem mem_cands {F : Wy Nat} {x : Nat × Tr} : (e, x) ∈ cands W F l ↔ e < 8 ∧ ∃ p y d, (p, y) ∈ F ∧ W (p, l, e) = some d ∧ x = (y.1 + d, y.2 ++ [It.k (p, l, e)]) := by
  unfold cands
  rw [List.mem_flatMap]
  constructor
  · rintro ⟨f, hf, h⟩
    obtain ⟨e', he, h⟩ := List.mem_filterMap.mp h
    obtain ⟨d, hd, h⟩ := Option.map_eq_some_iff.mp h
    cases h
    exact ⟨List.mem_range.mp he, f.1, f.2, d, hf, hd, rfl⟩
  · rintro ⟨h8, p, y, d, hf, hd, rfl⟩
    refine ⟨(p, y), hf, List.mem_filterMap.mpr ⟨e, List.mem_range.mpr h8, ?_⟩⟩
    show (W (p, l, e)).map _ = _
    rw [hd]
    rfl
/-- what such a dict of ways tells -/
structure Dr (W : Ln) (a : Nat) (ls : List Nat) (M : Wy Nat) : Prop where
  nd : (M.map (·.1)).Nodup
  snd : ∀ e x, getY M e = some x → ∃ ks, x.2 = ks.map It.k ∧ Chain W a ls ks e x.1
  min : ∀ ks e s, Chain W a ls ks e s → ∃ x, getY M e = some x ∧ x.1 ≤ s
theorem Dr.one {M : Wy Nat} (h8 : ∀ k d, W k = some d → k.2.2 < 8) (D : Dr W a ls M) : Dr W a (ls ++ [l]) (dr1 W M l) := by
  refine ⟨best_nd (by simp), fun e x h => ?_, fun ks e s h => ?_⟩
  · rcases best_from h with h | h
    · cases h
    · obtain ⟨_, p, y, d, hf, hd, rfl⟩ := mem_cands.mp h
      obtain ⟨ks, e1, h1⟩ := D.snd p y (mem_getY D.nd hf)
      exact ⟨ks ++ [(p, l, e)], by rw [List.map_append, ← e1]; rfl, h1.snoc hd⟩
  · obtain ⟨m, k1, k2, s1, s2, rfl, rfl, h1, h2⟩ := h.split
    cases h2 with
    | cons q h2 =>
      cases h2
      obtain ⟨x, g1, g2⟩ := D.min _ _ _ h1
      rename_i d
      have hm : (e, (x.1 + d, x.2 ++ [It.k (m, l, e)])) ∈ cands W M l := mem_cands.mpr ⟨h8 _ _ q, m, x, d, getY_mem g1, q, rfl⟩
      obtain ⟨y, g3, g4⟩ := best_own (F := []) hm
      exact ⟨y, g3, by simp at g4; omega⟩
theorem Dr.go (h8 : ∀ k d, W k = some d → k.2.2 < 8) : ∀ {ls' : List Nat} {ls : List Nat} {M : Wy Nat}, Dr W a ls M → Dr W a (ls ++ ls') (ls'.foldl (dr1 W) M)
  | [], ls, M, D => by rw [List.append_nil]; exact D
  | l :: ls', ls, M, D => by
    have := Dr.go h8 (ls' := ls') (D.one h8 (l := l))
    rw [List.append_assoc] at this
    exact this
theorem drn_ok (h8 : ∀ k d, W k = some d → k.2.2 < 8) : Dr W a ls (drn W a ls) := by
  have h0 : Dr W a [] [(a, 0, [])] := by
    refine ⟨by simp, fun e x h => ?_, fun ks e s h => ?_⟩
    · rw [getY_cons] at h
      split at h
      · rename_i z
        have z : e = a := z
        subst z
        cases h
        exact ⟨[], rfl, .nil⟩
      · cases h
    · cases h
      exact ⟨(0, []), by rw [getY_cons, if_pos rfl], Nat.le_refl _⟩
  have := Dr.go h8 (ls' := ls) h0
  exact this
theorem drn_low (h : a < 8) (h8 : ∀ k d, W k = some d → k.2.2 < 8) {x : Nat × Tr} (g : getY (drn W a ls) e = some x) : e < 8 := by
  obtain ⟨ks, hz, hc0⟩ := (drn_ok h8).snd _ _ g
  clear g hz
  obtain ⟨y, z⟩ := x
  have hc : Chain W a ls ks e y := hc0
  clear hc0
  induction hc with
  | nil => exact h
  | cons q _ ih => exact ih (h8 _ _ q)
end
end Fx.Sk
/-! stacks of labels: runs of rules, trails that tell them (no data) -/
namespace Fx.Sk
abbrev Pk := Nat × List Nat
def stp (R : List Ru) (i : Nat) (x : Pk) : Option Pk := match R[i]? with
  | some (n, l, a, put) => if n = x.1 ∧ x.2.head? = some l then some (a, put ++ x.2.tail) else none
  | none => none
inductive Run (R : List Ru) : Pk → List Nat → Pk → Prop
  | nil {x : Pk} : Run R x [] x
  | cons {x y z : Pk} {i : Nat} {ns : List Nat} : stp R i x = some y → Run R y ns z → Run R x (i :: ns) z
abbrev lenW (F : Wy Ky) : Ln := fun k => (getY F k).map (·.1)
section
variable {R : List Ru} {F F' : Wy Ky} {x y z : Pk} {i n l a e s d : Nat} {put rest ns ms : List Nat} {its : Tr} {ks : List Ky} {t : Tr} {k : Ky}
theorem stp_some (h : stp R i x = some y) : ∃ l a put rest, R[i]? = some (x.1, l, a, put) ∧ x.2 = l :: rest ∧ y = (a, put ++ rest) := by
  unfold stp at h
  split at h
  · rename_i n l a put e
    split at h
    · rename_i q
      cases h
      obtain ⟨p, st⟩ := x
      obtain ⟨rfl, q⟩ := q
      cases st with
      | nil => cases q
      | cons l' rest =>
        cases q
        exact ⟨l, a, put, rest, e, rfl, rfl⟩
    · cases h
  · cases h
theorem stp_of (h : R[i]? = some (n, l, a, put)) : stp R i (n, l :: rest) = some (a, put ++ rest) := by
  unfold stp
  rw [h]
  simp
theorem Run.app (h : Run R x ns y) (h' : Run R y ms z) : Run R x (ns ++ ms) z := by
  induction h with
  | nil => exact h'
  | cons q _ ih => exact .cons q (ih h')
theorem lenW_of {d : Nat} {t : Tr} (h : getY F k = some (d, t)) : lenW F k = some d := by
  show (getY F k).map _ = _
  rw [h]
  rfl
theorem of_lenW (h : lenW F k = some d) : ∃ t, getY F k = some (d, t) := by
  obtain ⟨x, h1, h2⟩ := Option.map_eq_some_iff.mp h
  exact ⟨x.2, by rw [h1, ← h2]⟩
/-- never longer -/
def Le (F F' : Wy Ky) : Prop := ∀ k x, getY F k = some x → ∃ y, getY F' k = some y ∧ y.1 ≤ x.1
theorem Le.refl : Le F F := fun k x h => ⟨x, h, Nat.le_refl _⟩
theorem Le.trans {F'' : Wy Ky} (h : Le F F') (h' : Le F' F'') : Le F F'' := fun k x q => by
  obtain ⟨y, h1, h2⟩ := h k x q
  obtain ⟨z, h3, h4⟩ := h' k y h1
  exact ⟨z, h3, Nat.le_trans h4 h2⟩
theorem Le.upd {c : Ky × Nat × Tr} : Le F (updY F c) := fun k x q => by
  obtain ⟨y, h1, h2, _⟩ := upd_le (e := c) q
  exact ⟨y, h1, h2⟩
theorem Chain.le (h : Chain (lenW F) a put ks e s) (m : Le F F') : ∃ s', Chain (lenW F') a put ks e s' ∧ s' ≤ s := h.mono fun k d q => by
  obtain ⟨t, h1⟩ := of_lenW q
  obtain ⟨y, h2, h3⟩ := m k _ h1
  exact ⟨y.1, lenW_of (t := y.2) h2, h3⟩
/-- every way told is made of a rule and of ways that are shorter -/
structure Good (R : List Ru) (F : Wy Ky) : Prop where
  nd : (F.map (·.1)).Nodup
  row : ∀ k d t, getY F k = some (d, t) → ∃ i a put ks s, R[i]? = some (k.1, k.2.1, a, put) ∧ t = .r i :: ks.map It.k ∧ Chain (lenW F) a put ks k.2.2 s ∧ s + 1 ≤ d
  low : ∀ k x, getY F k = some x → k.2.2 < 8
  big : ∀ k x, getY F k = some x → x.1 + 1 ≤ 2 ^ F.length
theorem Good.nil : Good R [] := ⟨by simp, fun _ _ _ h => (by cases h), fun _ _ h => (by cases h), fun _ _ h => (by cases h)⟩
theorem Good.h8 (G : Good R F) : ∀ k d, lenW F k = some d → k.2.2 < 8 := fun k d h => by
  obtain ⟨t, h⟩ := of_lenW h
  exact G.low _ _ h
theorem put_len {α : Type} [DecidableEq α] {F : Wy α} {a : α} {x : Nat × Tr} : (putY F a x).length = if hasY F a then F.length else F.length + 1 := by
  have := congrArg List.length (keys_put (F := F) (a := a) (x := x))
  rw [List.length_map] at this
  rw [this]
  split <;> simp
theorem upd_len {c : Ky × Nat × Tr} : F.length ≤ (updY F c).length := by
  unfold updY
  split
  · rw [put_len]
    split <;> omega
  · exact Nat.le_refl _
theorem pow_mono {m n : Nat} (h : m ≤ n) : 2 ^ m ≤ 2 ^ n := Nat.pow_le_pow_right (by omega) h
/-- a chain of at most two labels is not long -/
theorem Good.two (G : Good R F) (h : Chain (lenW F) a put ks e s) (p2 : put.length ≤ 2) : s + 2 ≤ 2 ^ (F.length + 1) := by
  have b : ∀ k d, lenW F k = some d → d + 1 ≤ 2 ^ F.length := fun k d h => by
    obtain ⟨t, h⟩ := of_lenW h
    exact G.big _ _ h
  have one : 1 ≤ 2 ^ F.length := Nat.one_le_two_pow
  rw [Nat.pow_succ]
  cases h with
  | nil => omega
  | cons q h =>
    have := b _ _ q
    cases h with
    | nil => omega
    | cons q' h =>
      have := b _ _ q'
      cases h with
      | nil => omega
      | cons _ _ => simp at p2
theorem Good.upd (G : Good R F) (hi : R[i]? = some (n, l, a, put)) {s' : Nat} (hc : Chain (lenW F) a put ks e s') (hs : s' ≤ s) (hb : s + 2 ≤ 2 ^ (F.length + 1)) (he : e < 8) : Good R (updY F ((n, l, e), s + 1, .r i :: ks.map It.k)) := by
  have mono : Le F (updY F ((n, l, e), s + 1, .r i :: ks.map It.k)) := Le.upd
  refine ⟨nd_upd G.nd, fun k d t h => ?_, fun k x h => ?_, fun k x h => ?_⟩
  · rcases upd_from h with h | h
    · obtain ⟨i', a', put', ks', s1, h1, h2, h3, h4⟩ := G.row k d t h
      obtain ⟨s2, h5, h6⟩ := h3.le mono
      exact ⟨i', a', put', ks', s2, h1, h2, h5, by omega⟩
    · cases h
      obtain ⟨s2, h5, h6⟩ := hc.le mono
      exact ⟨i, a, put, ks, s2, hi, rfl, h5, by omega⟩
  · rcases upd_from h with h | h
    · exact G.low _ _ h
    · cases h
      exact he
  · have hl := pow_mono (upd_len (F := F) (c := ((n, l, e), s + 1, .r i :: ks.map It.k)))
    rcases upd_from h with h | h
    · exact Nat.le_trans (G.big _ _ h) hl
    · cases hh : getY F k with
      | some y =>
        obtain ⟨z, g1, g2, _⟩ := upd_le (e := ((n, l, e), s + 1, .r i :: ks.map It.k)) hh
        rw [‹getY (updY F _) k = some x›] at g1
        cases g1
        have := G.big _ _ hh
        omega
      | none =>
        cases h
        have e1 : btr F (n, l, e) (s + 1, .r i :: ks.map It.k) = true := by
          unfold btr
          rw [hh]
        show s + 1 + 1 ≤ _
        unfold updY
        rw [if_pos e1, put_len, getY_none.mp hh, if_neg (by simp)]
        exact hb
/-! ### an end to it -/
def sumY (F : Wy Ky) : Nat := (F.map (·.2.1)).sum
theorem sum_map {x : Nat × Tr} : ∀ {F : Wy Ky} {k : Ky} {y : Nat × Tr}, (F.map (·.1)).Nodup → getY F k = some y → sumY (F.map fun e => (e.1, if k = e.1 then x else e.2)) + y.1 = sumY F + x.1
  | [], _, _, _, h => by cases h
  | e :: F, k, y, nd, h => by
    rw [List.map_cons, List.nodup_cons] at nd
    rw [getY_cons] at h
    unfold sumY
    rw [List.map_cons, List.map_cons, List.sum_cons, List.map_cons, List.sum_cons]
    by_cases q : k = e.1
    · rw [if_pos q] at h
      cases h
      have e2 : (F.map fun e => (e.1, if k = e.1 then x else e.2)) = F := by
        have : ∀ f ∈ F, (fun e : Ky × Nat × Tr => (e.1, if k = e.1 then x else e.2)) f = f := fun f hf => by
          have : k ≠ f.1 := fun z => nd.1 (List.mem_map.mpr ⟨f, hf, by rw [← z, q]⟩)
          show (f.1, if k = f.1 then x else f.2) = f
          rw [if_neg this]
        rw [List.map_congr_left this, List.map_id']
      rw [e2]
      show (if k = e.1 then x else e.2).1 + _ + _ = _
      rw [if_pos q]
      omega
    · rw [if_neg q] at h
      have := sum_map (x := x) nd.2 h
      unfold sumY at this
      show (if k = e.1 then x else e.2).1 + _ + _ = _
      rw [if_neg q]
      omega
/-- how far there is still to go: falls at every betterment -/
def mu (N : Nat) (F : Wy Ky) : Nat := sumY F + (N - F.length) * 2 ^ (N + 1)
theorem mu_upd {N : Nat} {c : Ky × Nat × Tr} (nd : (F.map (·.1)).Nodup) (hb : c.2.1 + 1 ≤ 2 ^ (F.length + 1)) (hN : (updY F c).length ≤ N) (h : btr F c.1 c.2 = true) : mu N (updY F c) < mu N F := by
  have e : updY F c = putY F c.1 c.2 := by
    unfold updY
    rw [if_pos h]
  rw [e] at hN ⊢
  unfold mu
  rw [put_len] at hN ⊢
  cases hh : hasY F c.1 with
  | true =>
    rw [hh, if_pos rfl] at hN
    rw [if_pos rfl]
    obtain ⟨y, hy⟩ := has_getY hh
    have h1 := sum_map (x := c.2) nd hy
    unfold btr at h
    rw [hy] at h
    have := of_decide_eq_true h
    have e2 : sumY (putY F c.1 c.2) = sumY (F.map fun e => (e.1, if c.1 = e.1 then c.2 else e.2)) := by
      unfold putY
      rw [if_pos hh]
    rw [e2]
    omega
  | false =>
    rw [hh, if_neg (by simp)] at hN
    rw [if_neg (by simp)]
    have e2 : sumY (putY F c.1 c.2) = sumY F + c.2.1 := by
      unfold putY sumY
      rw [if_neg (by rw [hh]; simp), List.map_append, List.sum_append]
      simp
    rw [e2]
    have h3 : N - F.length = (N - (F.length + 1)) + 1 := by omega
    rw [h3, Nat.add_mul, Nat.one_mul]
    have h4 := pow_mono (show F.length + 1 ≤ N + 1 by omega)
    omega
/-! ### nothing is forgotten -/
def Fix (R : List Ru) (F : Wy Ky) : Prop := ∀ (i n l a : Nat) (put : List Nat) (ks : List Ky) (e s : Nat), R[i]? = some (n, l, a, put) → Chain (lenW F) a put ks e s → ∃ x, getY F (n, l, e) = some x ∧ x.1 ≤ s + 1
theorem reach_in (X : Fix R F) : ∀ {ns : List Nat} {a : Nat} {st : List Nat}, Run R (a, st) ns (e, []) → ∃ ks s, Chain (lenW F) a st ks e s ∧ s ≤ ns.length
  | [], a, st, h => by
    cases h
    exact ⟨[], 0, .nil, Nat.le_refl _⟩
  | i :: ns, a, st, h => by
    cases h with
    | cons q h =>
      obtain ⟨l, a', put, rest, h1, h2, rfl⟩ := stp_some q
      have h2 : st = l :: rest := h2
      subst h2
      obtain ⟨ks, s, h3, h4⟩ := reach_in X h
      obtain ⟨m, k1, k2, s1, s2, rfl, rfl, h5, h6⟩ := h3.split
      obtain ⟨x, h7, h8⟩ := X _ _ _ _ _ _ _ _ h1 h5
      exact ⟨_, _, .cons (lenW_of (d := x.1) (t := x.2) h7) h6, by rw [List.length_cons]; omega⟩
/-! ### what a trail tells -/
inductive Leads (R : List Ru) (F : Wy Ky) : Tr → Pk → Pk → Prop
  | nil {x : Pk} : Leads R F [] x x
  | r {i : Nat} {x y z : Pk} {its : Tr} : stp R i x = some y → Leads R F its y z → Leads R F (.r i :: its) x z
  | k {p l e : Nat} {rest : List Nat} {z : Pk} {its : Tr} {v : Nat × Tr} : getY F (p, l, e) = some v → Leads R F its (e, rest) z → Leads R F (.k (p, l, e) :: its) (p, l :: rest) z
theorem Leads.chain (h : Chain (lenW F) a put ks e s) (q : Leads R F its (e, rest) z) : Leads R F (ks.map It.k ++ its) (a, put ++ rest) z := by
  induction h with
  | nil => exact q
  | cons g _ ih =>
    obtain ⟨t, g⟩ := of_lenW g
    exact .k g (ih q)
theorem Leads.exp {v : Nat × Tr} (G : Good R F) (h : Leads R F (.k k :: its) x z) (g : getY F k = some v) : Leads R F (v.2 ++ its) x z := by
  cases h with
  | k _ h =>
    obtain ⟨i, a, put, ks, s, h1, h2, h3, _⟩ := G.row _ _ _ (show getY F _ = some (v.1, v.2) from g)
    rw [h2]
    exact .r (stp_of h1) (Leads.chain h3 h)
def ln (F : Wy Ky) (k : Ky) : Nat := ((getY F k).map (·.1)).getD 0
def wI (F : Wy Ky) : It → Nat
  | .r _ => 1
  | .k k => 2 * ln F k
def sI (F : Wy Ky) : It → Nat
  | .r _ => 1
  | .k k => ln F k
def wt (F : Wy Ky) (t : Tr) : Nat := (t.map (wI F)).sum
def sz (F : Wy Ky) (t : Tr) : Nat := (t.map (sI F)).sum
theorem wt_app {t u : Tr} : wt F (t ++ u) = wt F t + wt F u := by
  unfold wt
  rw [List.map_append, List.sum_append]
theorem sz_app {t u : Tr} : sz F (t ++ u) = sz F t + sz F u := by
  unfold sz
  rw [List.map_append, List.sum_append]
theorem wt_cons {j : It} {t : Tr} : wt F (j :: t) = wI F j + wt F t := by
  unfold wt
  rw [List.map_cons, List.sum_cons]
theorem sz_cons {j : It} {t : Tr} : sz F (j :: t) = sI F j + sz F t := by
  unfold sz
  rw [List.map_cons, List.sum_cons]
theorem ln_of (h : lenW F k = some d) : ln F k = d := by
  unfold ln
  rw [show (getY F k).map _ = some d from h]
  rfl
theorem chain_sz (h : Chain (lenW F) a put ks e s) : sz F (ks.map It.k) = s ∧ wt F (ks.map It.k) = 2 * s := by
  induction h with
  | nil => exact ⟨rfl, rfl⟩
  | cons g _ ih =>
    rw [List.map_cons, sz_cons, wt_cons, ih.1, ih.2]
    show ln F _ + _ = _ ∧ 2 * ln F _ + _ = _
    rw [ln_of g]
    omega
theorem Good.exp {v : Nat × Tr} (G : Good R F) (g : getY F k = some v) : sz F v.2 ≤ sI F (.k k) ∧ wt F v.2 < wI F (.k k) := by
  obtain ⟨i, a, put, ks, s, h1, h2, h3, h4⟩ := G.row _ _ _ (show getY F _ = some (v.1, v.2) from g)
  have e := ln_of (lenW_of (d := v.1) (t := v.2) g)
  obtain ⟨c1, c2⟩ := chain_sz h3
  rw [h2, sz_cons, wt_cons, c1, c2]
  show 1 + s ≤ ln F k ∧ 1 + 2 * s < 2 * ln F k
  rw [e]
  omega
theorem Leads.few (G : Good R F) (h : Leads R F its x z) : its.length ≤ sz F its := by
  induction h with
  | nil => exact Nat.le_refl _
  | r _ _ ih =>
    rw [sz_cons, List.length_cons]
    show _ ≤ 1 + _
    omega
  | k g _ ih =>
    rename_i v _
    rw [sz_cons, List.length_cons]
    obtain ⟨i, a, put, ks, s, _, _, _, h4⟩ := G.row _ _ _ (show getY F _ = some (v.1, v.2) from g)
    have e := ln_of (lenW_of (d := v.1) (t := v.2) g)
    show _ ≤ ln F _ + _
    rw [e]
    omega
end
end Fx.Sk
/-! stacks of labels: the shortest ways are short enough (no data) -/
namespace Fx.Sk
structure ROk (R : List Ru) : Prop where
  few : R.length ≤ 9
  aft : ∀ r ∈ R, r.2.2.1 < 5
  put : ∀ r ∈ R, r.2.2.2.length ≤ 2
theorem cnt_mono {α : Type} {p q : α → Bool} {l : List α} (h : ∀ a ∈ l, p a = true → q a = true) : l.countP p ≤ l.countP q := List.countP_mono_left h
theorem cnt_lt {α : Type} {p q : α → Bool} : ∀ {l : List α}, (∀ a ∈ l, p a = true → q a = true) → (∃ a ∈ l, q a = true ∧ p a = false) → l.countP p + 1 ≤ l.countP q
  | [], _, ⟨_, h, _⟩ => by cases h
  | b :: l, h, ⟨a, ha, h1, h2⟩ => by
    rw [List.countP_cons, List.countP_cons]
    have m := cnt_mono (p := p) (q := q) (l := l) fun a ha => h a (List.mem_cons_of_mem _ ha)
    have hb := h b List.mem_cons_self
    rcases List.mem_cons.mp ha with rfl | ha
    · rw [h1, h2]
      simp
      exact m
    · have := cnt_lt (l := l) (fun a ha => h a (List.mem_cons_of_mem _ ha)) ⟨a, ha, h1, h2⟩
      cases hp : p b with
      | false => simp; split <;> omega
      | true => rw [hb hp]; simp; omega
section
variable {R : List Ru} {F : Wy Ky}
theorem Good.len (G : Good R F) : F.length ≤ R.length * 8 := by
  have h := List.Nodup.length_le_of_subset (l₂ := R.flatMap fun r => (List.range 8).map fun e => (r.1, r.2.1, e)) G.nd fun k hk => by
    obtain ⟨f, hf, rfl⟩ := List.mem_map.mp hk
    have g := mem_getY G.nd (show (f.1, f.2.1, f.2.2) ∈ F from hf)
    obtain ⟨i, a, put, ks, s, h1, _⟩ := G.row _ _ _ g
    have h8 := G.low _ _ g
    exact List.mem_flatMap.mpr ⟨_, List.mem_of_getElem? h1, List.mem_map.mpr ⟨f.1.2.2, List.mem_range.mpr h8, rfl⟩⟩
  rw [List.length_map, List.length_flatMap] at h
  have e : (R.map fun r => ((List.range 8).map fun e => ((r.1, r.2.1, e) : Ky)).length) = List.replicate R.length 8 := by
    refine List.eq_replicate_iff.mpr ⟨by simp, fun x hx => ?_⟩
    obtain ⟨r, _, rfl⟩ := List.mem_map.mp hx
    simp
  rw [e, List.sum_replicate_nat] at h
  exact h
/-- how many labels the rule of a way puts -/
def tyK (R : List Ru) (t : Tr) : Nat := match t with
  | .r i :: _ => ((R[i]?).map (·.2.2.2.length)).getD 0
  | _ => 0
def cj (R : List Ru) (F : Wy Ky) (j x : Nat) : Nat := F.countP fun f => decide (f.2.1 ≤ x ∧ tyK R f.2.2 = j)
theorem cj_mono {j x y : Nat} (h : x ≤ y) : cj R F j x ≤ cj R F j y := cnt_mono fun a _ q => by
  have q := of_decide_eq_true q
  exact decide_eq_true ⟨by omega, q.2⟩
theorem cj_lt {j x d : Nat} {k : Ky} {t : Tr} (h : (k, d, t) ∈ F) (hx : x < d) (e : tyK R t = j) : cj R F j x + 1 ≤ cj R F j d := by
  refine cnt_lt (fun a _ q => ?_) ⟨_, h, decide_eq_true ⟨Nat.le_refl _, e⟩, decide_eq_false fun q => ?_⟩
  · have q := of_decide_eq_true q
    exact decide_eq_true ⟨by omega, q.2⟩
  · have : d ≤ x := q.1
    omega
theorem two_le {c1 c2 : Nat} : 2 ≤ 2 ^ c2 * (c1 + 2) := by
  have : 1 ≤ 2 ^ c2 := Nat.one_le_two_pow
  calc 2 ≤ 1 * (c1 + 2) := by omega
    _ ≤ _ := Nat.mul_le_mul_right _ this
theorem d_le (G : Good R F) (X : Fix R F) (hR : ∀ r ∈ R, r.2.2.2.length ≤ 2) : ∀ (d : Nat) {k : Ky} {t : Tr}, getY F k = some (d, t) → d + 1 ≤ 2 ^ cj R F 2 d * (cj R F 1 d + 2) := by
  intro d
  induction d using Nat.strongRecOn with
  | _ d ih =>
    intro k t g
    obtain ⟨i, a, put, ks, s, h1, h2, h3, h4⟩ := G.row _ _ _ g
    obtain ⟨y, h5, h6⟩ := X _ _ _ _ _ _ _ _ h1 h3
    rw [show ((k.1, k.2.1, k.2.2) : Ky) = k from rfl, g] at h5
    cases h5
    have h6 : d ≤ s + 1 := h6
    have hd : d = s + 1 := by omega
    have p2 := hR _ (List.mem_of_getElem? h1)
    have et : tyK R t = put.length := by
      unfold tyK
      rw [h2]
      show ((R[i]?).map _).getD 0 = _
      rw [h1]
      rfl
    have hm := getY_mem g
    cases h3 with
    | nil =>
      have := two_le (c1 := cj R F 1 d) (c2 := cj R F 2 d)
      omega
    | @cons _ l1 m1 d1 _ s1 ls1 ks1 q h3 =>
      obtain ⟨t1, q⟩ := of_lenW q
      have b1 := ih d1 (by omega) q
      cases h3 with
      | nil =>
        have e1 : tyK R t = 1 := et
        have c1 := cj_lt (x := d1) hm (by omega) e1
        have c2 := cj_mono (R := R) (F := F) (j := 2) (show d1 ≤ d by omega)
        have p := pow_mono c2
        have one : 1 ≤ 2 ^ cj R F 2 d := Nat.one_le_two_pow
        calc d + 1 = (d1 + 1) + 1 := by omega
          _ ≤ 2 ^ cj R F 2 d1 * (cj R F 1 d1 + 2) + 1 := by omega
          _ ≤ 2 ^ cj R F 2 d * (cj R F 1 d1 + 2) + 2 ^ cj R F 2 d := by have := Nat.mul_le_mul_right (cj R F 1 d1 + 2) p; omega
          _ = 2 ^ cj R F 2 d * (cj R F 1 d1 + 2 + 1) := by simp only [Nat.mul_add, Nat.mul_one]
          _ ≤ _ := Nat.mul_le_mul_left _ (by omega)
      | @cons _ l2 m2 d2 _ s2 ls2 ks2 q2 h3 =>
        obtain ⟨t2, q2⟩ := of_lenW q2
        have b2 := ih d2 (by omega) q2
        cases h3 with
        | nil =>
          have e1 : tyK R t = 2 := et
          have c1 := cj_lt (x := d1) hm (by omega) e1
          have c2 := cj_lt (x := d2) hm (by omega) e1
          have c3 := cj_mono (R := R) (F := F) (j := 1) (show d1 ≤ d by omega)
          have c4 := cj_mono (R := R) (F := F) (j := 1) (show d2 ≤ d by omega)
          have p1 : 2 ^ cj R F 2 d1 * (cj R F 1 d1 + 2) ≤ 2 ^ (cj R F 2 d - 1) * (cj R F 1 d + 2) := Nat.mul_le_mul (pow_mono (by omega)) (by omega)
          have p2 : 2 ^ cj R F 2 d2 * (cj R F 1 d2 + 2) ≤ 2 ^ (cj R F 2 d - 1) * (cj R F 1 d + 2) := Nat.mul_le_mul (pow_mono (by omega)) (by omega)
          have e3 : 2 ^ cj R F 2 d * (cj R F 1 d + 2) = 2 * (2 ^ (cj R F 2 d - 1) * (cj R F 1 d + 2)) := by
            have : cj R F 2 d = (cj R F 2 d - 1) + 1 := by omega
            conv => lhs; rw [this, Nat.pow_succ]
            rw [Nat.mul_comm (2 ^ _) 2, Nat.mul_assoc]
          omega
        | cons _ _ => simp at p2
/-- the ends of rules that put nothing -/
def ends (R : List Ru) : List Nat := (List.range 5).filter fun e => R.any fun r => decide (r.2.2.1 = e) && r.2.2.2.isEmpty
theorem ends_of (G : Good R F) (hR : ∀ r ∈ R, r.2.2.1 < 5) : ∀ (d : Nat) {k : Ky} {t : Tr}, getY F k = some (d, t) → k.2.2 ∈ ends R := by
  intro d
  induction d using Nat.strongRecOn with
  | _ d ih =>
    intro k t g
    obtain ⟨i, a, put, ks, s, h1, h2, h3, h4⟩ := G.row _ _ _ g
    have hm := List.mem_of_getElem? h1
    have key : ∀ {a s : Nat} {put : List Nat} {ks : List Ky} {e : Nat}, Chain (lenW F) a put ks e s → s < d → (put = [] ∧ e = a) ∨ e ∈ ends R := by
      intro a s put ks e h
      induction h with
      | nil => exact fun _ => .inl ⟨rfl, rfl⟩
      | cons q h ih2 =>
        rename_i a l m d1 e s put ks
        intro hs
        obtain ⟨t1, q⟩ := of_lenW q
        rcases ih2 (by omega) with ⟨_, rfl⟩ | h
        · exact .inr (ih d1 (by omega) q)
        · exact .inr h
    rcases key h3 (by omega) with ⟨rfl, e⟩ | h
    · rw [e]
      have h4 := hR _ hm
      refine List.mem_filter.mpr ⟨List.mem_range.mpr h4, List.any_eq_true.mpr ⟨_, hm, ?_⟩⟩
      simp
    · exact h
def sj (R : List Ru) (j : Nat) : Nat := (R.filter fun r => decide (r.2.2.2.length = j)).length
theorem cj_le (G : Good R F) (hR : ∀ r ∈ R, r.2.2.1 < 5) {j x : Nat} (hj : 0 < j) : cj R F j x ≤ sj R j * (ends R).length := by
  unfold cj
  rw [List.countP_eq_length_filter]
  have nd : ((F.filter fun f => decide (f.2.1 ≤ x ∧ tyK R f.2.2 = j)).map (·.1)).Nodup := G.nd.sublist (List.filter_sublist.map _)
  have h := List.Nodup.length_le_of_subset (l₂ := (R.filter fun r => decide (r.2.2.2.length = j)).flatMap fun r => (ends R).map fun e => (r.1, r.2.1, e)) nd fun k hk => by
    obtain ⟨f, hf, rfl⟩ := List.mem_map.mp hk
    obtain ⟨hf, q⟩ := List.mem_filter.mp hf
    have q := (of_decide_eq_true q).2
    have g := mem_getY G.nd (show (f.1, f.2.1, f.2.2) ∈ F from hf)
    obtain ⟨i, a, put, ks, s, h1, h2, _⟩ := G.row _ _ _ g
    have he := ends_of G hR _ g
    have et : tyK R f.2.2 = put.length := by
      unfold tyK
      rw [h2]
      show ((R[i]?).map _).getD 0 = _
      rw [h1]
      rfl
    exact List.mem_flatMap.mpr ⟨_, List.mem_filter.mpr ⟨List.mem_of_getElem? h1, decide_eq_true (by rw [← q, et])⟩, List.mem_map.mpr ⟨_, he, rfl⟩⟩
  rw [List.length_map, List.length_flatMap] at h
  have e : ((R.filter fun r => decide (r.2.2.2.length = j)).map fun r => ((ends R).map fun e => ((r.1, r.2.1, e) : Ky)).length) = List.replicate (sj R j) (ends R).length := by
    refine List.eq_replicate_iff.mpr ⟨by simp [sj], fun x hx => ?_⟩
    obtain ⟨r, _, rfl⟩ := List.mem_map.mp hx
    simp
  rw [e, List.sum_replicate_nat] at h
  exact h
theorem ends_le : (ends R).length ≤ 5 ∧ (ends R).length ≤ sj R 0 := by
  constructor
  · have := (List.filter_sublist (p := fun e => R.any fun r => decide (r.2.2.1 = e) && r.2.2.2.isEmpty) (l := List.range 5)).length_le
    rw [List.length_range] at this
    exact this
  · have nd : (ends R).Nodup := List.nodup_range.sublist List.filter_sublist
    have h := List.Nodup.length_le_of_subset (l₂ := (R.filter fun r => decide (r.2.2.2.length = 0)).map (·.2.2.1)) nd fun e he => by
      obtain ⟨_, q⟩ := List.mem_filter.mp he
      obtain ⟨r, hr, q⟩ := List.any_eq_true.mp q
      rw [Bool.and_eq_true] at q
      refine List.mem_map.mpr ⟨r, List.mem_filter.mpr ⟨hr, decide_eq_true ?_⟩, of_decide_eq_true q.1⟩
      rw [List.isEmpty_iff.mp q.2]
      rfl
    rw [List.length_map] at h
    exact h
theorem three {α : Type} {g : α → Nat} : ∀ {R : List α}, (R.filter fun r => decide (g r = 0)).length + (R.filter fun r => decide (g r = 1)).length + (R.filter fun r => decide (g r = 2)).length ≤ R.length
  | [] => by simp
  | r :: R => by
    have := three (g := g) (R := R)
    simp only [List.filter_cons, List.length_cons]
    by_cases h0 : g r = 0
    · simp [h0]; omega
    · by_cases h1 : g r = 1
      · simp [h1]; omega
      · by_cases h2 : g r = 2
        · simp [h2]; omega
        · simp [h0, h1, h2]; omega
theorem sj_sum : sj R 0 + sj R 1 + sj R 2 ≤ R.length := three (g := fun r : Ru => r.2.2.2.length)
theorem fits : ∀ E < 6, ∀ s1 < 10, ∀ s2 < 10, E + s1 + s2 ≤ 9 → 2 ^ (s2 * E) * (s1 * E + 2) ≤ 2097152 := by decide +kernel
theorem fits2 : ∀ E < 6, ∀ s1 < 10, ∀ s2 < 10, E + s1 + s2 ≤ 9 → (3 + s2) * (2 ^ (s2 * E) * (s1 * E + 2) - 1) + s1 + s2 ≤ 16777213 := by decide +kernel
/-- no way is longer -/
def top (R : List Ru) : Nat := 2 ^ (sj R 2 * (ends R).length) * (sj R 1 * (ends R).length + 2) - 1
theorem top_le (O : ROk R) : (3 + sj R 2) * top R + sj R 1 + sj R 2 ≤ 16777213 := by
  obtain ⟨e4, e0⟩ := ends_le (R := R)
  have s := sj_sum (R := R)
  have few := O.few
  exact fits2 (ends R).length (by omega) (sj R 1) (by omega) (sj R 2) (by omega) (by omega)
theorem le_top (O : ROk R) (G : Good R F) (X : Fix R F) {k : Ky} {d : Nat} {t : Tr} (g : getY F k = some (d, t)) : d ≤ top R := by
  have h := d_le G X O.put d g
  have c1 := cj_le G O.aft (j := 1) (x := d) (by omega)
  have c2 := cj_le G O.aft (j := 2) (x := d) (by omega)
  have p : 2 ^ cj R F 2 d * (cj R F 1 d + 2) ≤ 2 ^ (sj R 2 * (ends R).length) * (sj R 1 * (ends R).length + 2) := Nat.mul_le_mul (pow_mono c2) (by omega)
  unfold top
  omega
end
end Fx.Sk
/-! the defs of stacks of labels, printed by mksk.py from k86 -/
namespace Fx.Sk
open PySem PySem.Spec PyProof.Rows L2 Lib
def b_is_node : M Fl := (mRet (mCall f_is_number (aCons (mVar 0) (aCons (mC (.int 0)) (aCons (mOp gMinus (mCB gLen (aCons (mC (.tup (([0, 1, 2, 3, 4, 5, 6, 7] : List Int).map D.int))) aNil)) (mC (.int 1))) aNil)))))
def f_is_node : Fn := runF 1 1 b_is_node
def b_is_stack : M Fl := (mRet (mAndV (mCall f_are_numbers (aCons (mVar 0) (aCons (mC (.int 0)) (aCons (mC (.int 5)) aNil)))) (mOp gLe (mCB gLen (aCons (mVar 0) aNil)) (mVar 1))))
def f_is_stack : Fn := runF 2 2 b_is_stack
def b_is_rule : M Fl := (mSeq (mIfS (mNot (mTest (mCall f_is_tuple (aCons (mVar 0) (aCons (mC (.int 4)) (aCons (mC (.int 4)) aNil)))))) (mRet (mC (.bl false))) mNx)
    (mSeq (mAsg (mVar 0) (gmTup 4 (gmCons (gmName 1) (gmCons (gmName 2) (gmCons (gmName 3) (gmCons (gmName 4) gmNil))))))
    (mRet (mAndV (mCall f_is_node (aCons (mVar 1) aNil)) (mAndV (mCall f_is_number (aCons (mVar 2) (aCons (mC (.int 0)) (aCons (mC (.int 5)) aNil)))) (mAndV (mCall f_is_node (aCons (mVar 3) aNil)) (mCall f_is_stack (aCons (mVar 4) (aCons (mC (.int 2)) aNil)))))))))
def f_is_rule : Fn := runF 1 5 b_is_rule
def b_check_rules : M Fl := (mSeq (mIfS (mNot (mTest (mCall f_is_tuple (aCons (mVar 0) (aCons (mC (.int 0)) (aCons (mC (.int 24)) aNil)))))) mSt mNx)
    (mFor (iEnu (aCons (mVar 0) aNil)) (gmTup 2 (gmCons (gmName 1) (gmCons (gmName 2) gmNil))) (mIfS (mNot (mTest (mCall f_is_rule (aCons (mVar 2) aNil)))) mSt mNx)))
def f_check_rules : Fn := runF 1 3 b_check_rules
def b_check_node : M Fl := (mIfS (mNot (mTest (mCall f_is_node (aCons (mVar 0) aNil)))) mSt mNx)
def f_check_node : Fn := runF 1 1 b_check_node
def b_check_packet : M Fl := (mSeq (mDrop (mCall f_check_rules (aCons (mVar 0) aNil)))
    (mSeq (mDrop (mCall f_check_node (aCons (mVar 1) aNil)))
    (mIfS (mNot (mTest (mCall f_is_stack (aCons (mVar 2) (aCons (mC (.int 12)) aNil))))) mSt mNx)))
def f_check_packet : Fn := runF 3 3 b_check_packet
def b_is_shorter : M Fl := (mRet (mOrV (mOp gIsN (mVar 1) (mC .non)) (mOp gLt (mVar 0) (mOp gIx (mVar 1) (mC (.int 0))))))
def f_is_shorter : Fn := runF 2 2 b_is_shorter
def b_drained : M Fl := (mSeq (mAsg (mDis1 (mVar 1) (mTup (aCons (mC (.int 0)) (aCons (mTup aNil) aNil)))) (gmName 3))
    (mSeq (mFor (iSeq (mVar 2)) (gmName 4) (mSeq (mAsgO 5 (mDnew))
    (mSeq (mFor (iKeysD (mVar 3)) (gmName 6) (mSeq (mAsg (mOp gDget (mVar 3) (mVar 6)) (gmTup 2 (gmCons (gmName 7) (gmCons (gmName 8) gmNil))))
    (mFor (iSeq (mLc (iSeq (mC (.tup (([0, 1, 2, 3, 4, 5, 6, 7] : List Int).map D.int)))) (gmName 10) (mTest (mInN false (mTup (aCons (mVar 6) (aCons (mVar 4) (aCons (mVar 10) aNil)))) 0)) (mTup (aCons (mVar 6) (aCons (mVar 4) (aCons (mVar 10) aNil)))) [10])) (gmName 9) (mSeq (mAsg (mOp gAdd (mVar 7) (mOp gIx (mDgetN 0 (mVar 9)) (mC (.int 0)))) (gmName 11))
    (mIfS (mTest (mCall f_is_shorter (aCons (mVar 11) (aCons (mGet1N 5 (mOp gIx (mVar 9) (mC (.int 2)))) aNil)))) (mAsg (mTup (aCons (mVar 11) (aCons (mTup (aStar (mVar 8) (aCons (mVar 9) aNil))) aNil))) (gmItemD 5 (mOp gIx (mVar 9) (mC (.int 2))))) mNx)))))
    (mAsg (mVar 5) (gmName 3)))))
    (mRet (mVar 3))))
def f_drained : Fn := runF 3 12 b_drained
def b_drains_in : M Fl := (mSeq (mAsgO 1 (mDnew))
    (mSeq (mAsg (mC (.bl true)) (gmName 2))
    (mSeq (mWhile (mTruth (mVar 2)) (mSeq (mAsg (mC (.bl false)) (gmName 2))
    (mFor (iEnu (aCons (mVar 0) aNil)) (gmTup 2 (gmCons (gmName 3) (gmCons (gmTup 4 (gmCons (gmName 4) (gmCons (gmName 5) (gmCons (gmName 6) (gmCons (gmName 7) gmNil))))) gmNil))) (mSeq (mAsg (mCallO f_drained 1 0 (aOwn 1 (aCons (mVar 6) (aCons (mVar 7) aNil)))) (gmName 8))
    (mFor (iKeysD (mVar 8)) (gmName 9) (mSeq (mAsg (mOp gDget (mVar 8) (mVar 9)) (gmTup 2 (gmCons (gmName 10) (gmCons (gmName 11) gmNil))))
    (mIfS (mTest (mCall f_is_shorter (aCons (mOp gAdd (mVar 10) (mC (.int 1))) (aCons (mGet1N 1 (mTup (aCons (mVar 4) (aCons (mVar 5) (aCons (mVar 9) aNil))))) aNil)))) (mSeq (mAsg (mTup (aCons (mOp gAdd (mVar 10) (mC (.int 1))) (aCons (mTup (aCons (mTup (aCons (mVar 3) aNil)) (aStar (mVar 11) aNil))) aNil))) (gmItemD 1 (mTup (aCons (mVar 4) (aCons (mVar 5) (aCons (mVar 9) aNil))))))
    (mAsg (mC (.bl true)) (gmName 2))) mNx)))))) 1208925819614629174706176)
    (mRetO 1))))
def f_drains_in : Fn := runF 1 12 b_drains_in
def b_run_of : M Fl := (mSeq (mAsgO 2 (mLst aNil))
    (mSeq (mAsgO 3 (mCB gList (aCons ((mRevT (mVar 1))) aNil)))
    (mSeq (mWhile (mTruthO 3) (mSeq (mAsg (mMeth0 3 gPop) (gmName 4))
    (mIfS (mTest (mOp gEq (mCB gLen (aCons (mVar 4) aNil)) (mC (.int 1)))) (mDrop (mMeth1 2 gApp (mOp gIx (mVar 4) (mC (.int 0))))) (mDrop (mMeth1 3 gExtT ((mRevT (mOp gIx (mOp gDget (mVar 0) (mVar 4)) (mC (.int 1))))))))) 1073741824)
    (mRet (mCB gTuple (aCons (mVar 2) aNil))))))
def f_run_of : Fn := runF 2 5 b_run_of
def b_drains : M Fl := (mSeq (mDrop (mCall f_check_rules (aCons (mVar 0) aNil)))
    (mSeq (mDrop (mCall f_check_node (aCons (mVar 1) aNil)))
    (mSeq (mIfS (mNot (mTest (mCall f_is_number (aCons (mVar 2) (aCons (mC (.int 0)) (aCons (mC (.int 5)) aNil)))))) mSt mNx)
    (mRet (mCB gTuple (aCons (mCB gSortA (aCons (mCB gListD (aCons (mCall f_drained (aCons (mCall f_drains_in (aCons (mVar 0) aNil)) (aCons (mVar 1) (aCons (mTup (aCons (mVar 2) aNil)) aNil)))) aNil)) aNil)) aNil))))))
def f_drains : Fn := runF 3 3 b_drains
def b_law_stack_rules : M Fl := (mSeq (mAsgO 3 (mLst aNil))
    (mSeq (mFor (iRange1 (aCons (mOp gAdd (mC (.int 1)) (mCallO f_law_taken 0 0 (aOwn 0 (aCons (mC (.int 9)) aNil)))) aNil)) (gmName 4) (mSeq (mAsg (mCallO f_law_pick 0 0 (aOwn 0 (aCons (mLst (aCons (mC (.int 0)) (aCons (mC (.int 1)) (aCons (mC (.int 1)) (aCons (mC (.int 2)) aNil))))) aNil))) (gmName 5))
    (mSeq (mAsg (mCB gTuple (aCons (mLc (iRange1 (aCons (mVar 5) aNil)) (gmName 7) mYes (mCallO f_law_taken 0 0 (aOwn 0 (aCons (mVar 2) aNil))) [7]) aNil)) (gmName 6))
    (mDrop (mMeth1 3 gApp (mTup (aCons (mCallO f_law_taken 0 0 (aOwn 0 (aCons (mVar 1) aNil))) (aCons (mCallO f_law_taken 0 0 (aOwn 0 (aCons (mVar 2) aNil))) (aCons (mCallO f_law_taken 0 0 (aOwn 0 (aCons (mVar 1) aNil))) (aCons (mVar 6) aNil))))))))))
    (mRet (mCB gTuple (aCons (mVar 3) aNil)))))
def f_law_stack_rules : Fn := runF 3 8 b_law_stack_rules
def b_law_forward : M Fl := (mSeq (mFor (iSeq (mVar 3)) (gmName 4) (mSeq (mAsg (mOp gIx (mVar 0) (mVar 4)) (gmTup 4 (gmCons (gmName 5) (gmCons (gmName 6) (gmCons (gmName 7) (gmCons (gmName 8) gmNil))))))
    (mSeq (mIfS (mOr (mTest (mOp gNe (mVar 5) (mVar 1))) (mOr (mTest (mOp gEq (mVar 2) (mTup aNil))) (mTest (mOp gNe (mOp gIx (mVar 2) (mC (.int 0))) (mVar 6))))) (mRet (mC .non)) mNx)
    (mPar2 1 false 2 false (psCons (mVar 7) (psCons (mOp gAdd (mVar 8) (mSl (mVar 2) (oSome (mC (.int 1))) oNone)) psNil))))))
    (mRet (mTup (aCons (mVar 1) (aCons (mVar 2) aNil)))))
def f_law_forward : Fn := runF 4 9 b_law_forward
def b_law_places : M Fl := (mSeq (mPar3 4 true 5 false 6 false (psCons (mLst (aCons (mTup (aCons (mVar 1) (aCons (mVar 2) aNil))) aNil)) (psCons (mC (.bl true)) (psCons (mC (.int 0)) psNil))))
    (mSeq (mWhile (mTest (mOp gLt (mVar 6) (mLenO 4))) (mSeq (mAsg (mTup (aCons (mIxO 4 (mVar 6)) (aCons (mOp gAdd (mVar 6) (mC (.int 1))) aNil))) (gmTup 2 (gmCons (gmTup 2 (gmCons (gmName 7) (gmCons (gmName 8) gmNil))) (gmCons (gmName 6) gmNil))))
    (mFor (iSeq (mVar 0)) (gmTup 4 (gmCons (gmName 9) (gmCons (gmName 10) (gmCons (gmName 11) (gmCons (gmName 12) gmNil))))) (mIfS (mAnd (mTest (mOp gEq (mVar 9) (mVar 7))) (mAnd (mTest (mOp gNe (mVar 8) (mTup aNil))) (mTest (mOp gEq (mOp gIx (mVar 8) (mC (.int 0))) (mVar 10))))) (mSeq (mAsg (mTup (aCons (mVar 11) (aCons (mOp gAdd (mVar 12) (mSl (mVar 8) (oSome (mC (.int 1))) oNone)) aNil))) (gmName 13))
    (mIfS (mOr (mTest (mOp gGt (mCB gLen (aCons (mOp gIx (mVar 13) (mC (.int 1))) aNil)) (mVar 3))) (mTest (mOp gGt (mLenO 4) (mC (.int 300))))) (mAsg (mC (.bl false)) (gmName 5)) (mIfS (mTest (mOpR gNotIn (mVar 13) 4)) (mDrop (mMeth1 4 gApp (mVar 13))) mNx))) mNx))) 1000)
    (mRet (mTup (aCons (mVar 4) (aCons (mVar 5) aNil))))))
def f_law_places : Fn := runF 4 14 b_law_places
end Fx.Sk
/-! stacks of labels on data: ways to take labels off -/
namespace Fx.Sk
open PySem Lib Nl Up
theorem nl_inj {a b : List Nat} (h : nl a = nl b) : a = b := by
  have inj : Function.Injective (fun i : Nat => D.int (i : Nat)) := fun x y e => by
    have e : D.int (x : Nat) = D.int (y : Nat) := e
    simp only [D.int.injEq] at e
    exact Int.ofNat_inj.mp e
  exact (List.map_inj_right inj).mp h
def kyD (k : Ky) : D := ntT [k.1, k.2.1, k.2.2]
theorem keyK : KeyF kyD := keyT (fun q => ⟨_, rfl, tkyA_nl⟩) fun a b h => by
  have h : D.tup (nl [a.1, a.2.1, a.2.2]) = D.tup (nl [b.1, b.2.1, b.2.2]) := h
  simp only [D.tup.injEq] at h
  have h := nl_inj h
  simp only [List.cons.injEq, and_true] at h
  exact Prod.ext h.1 (Prod.ext h.2.1 h.2.2)
def itD : It → D
  | .r i => ntT [i]
  | .k k => kyD k
abbrev trD (t : Tr) : D := .tup (t.map itD)
def wyD (x : Nat × Tr) : D := .tup [.int (x.1 : Nat), trD x.2]
abbrev nD (n : Nat) : D := .int (n : Nat)
theorem keyNn : KeyF nD := keyN
section
variable {α : Type} [DecidableEq α] {F : Wy α} {a : α} {f : α → D}
def kvY (F : Wy α) : GL α := F.map fun e => (e.1, wyD e.2)
theorem has_kv : hasG (kvY F) a = hasY F a := by
  unfold hasG kvY hasY
  rw [List.any_map]
  rfl
theorem get_kv : getG (kvY F) a = (getY F a).map wyD := by
  unfold getG kvY getY
  rw [List.find?_map, Option.map_map, Option.map_map]
  rfl
theorem put_kv {x : Nat × Tr} : putG (kvY F) a (wyD x) = kvY (putY F a x) := by
  unfold putG putY
  rw [has_kv]
  cases h : hasY F a
  · rw [if_neg (by simp), if_neg (by simp)]
    unfold kvY
    rw [List.map_append]
    rfl
  · rw [if_pos rfl, if_pos rfl]
    unfold kvY
    rw [List.map_map, List.map_map]
    refine List.map_congr_left fun e _ => ?_
    show (e.1, if a = e.1 then wyD x else wyD e.2) = (e.1, wyD (if a = e.1 then x else e.2))
    split <;> rfl
abbrev dY (f : α → D) (F : Wy α) : D := gD f (kvY F)
end
section
variable {α : Type} [DecidableEq α] {f : α → D} {F : Wy α} {a : α} {ρ : En} {i : Nat} {fa fb fe : Fx.M Fx.S}
/-- d.get(k), d a name -/
theorem get1 (h : KeyF f) (e : peek ρ i = some (dY f F)) (hb : Ev fb ρ (f a)) : Ev (mGet1N i fb) ρ (((getY F a).map wyD).getD .non) := ev_of (by
  unfold mGet1N
  rw [if_pos (peekG e), ok_then]
  refine hb.dv ?_
  rw [e]
  show OK (if homog (gks f (kvY F)) (f a) then Out.ok (S.d ((look (gks f (kvY F)) (f a) ((kvY F).map (·.2))).getD .non)) ρ else .stuck) _
  rw [homogG h, look_G h, if_pos rfl, ok_ok, get_kv]
  exact ⟨rfl, rfl⟩)
end
/-! ### is_shorter -/
theorem ev_orV {ρ : En} {fa fb : Fx.M Fx.S} {p q : Bool} (h : Ev fa ρ (.bl p)) (k : p = false → Ev fb ρ (.bl q)) : Ev (mOrV fa fb) ρ (.bl (p || q)) := ev_of (by
  rw [ok_orV]
  refine (eb_test h).ok ⟨fun e => ?_, fun e => ?_⟩
  · rw [e]
    exact ⟨rfl, rfl⟩
  · have e : p = false := by simpa using e
    refine (k e).raw.imp fun s ρ1 ⟨a, b⟩ => ⟨?_, b⟩
    rw [toD_back a rfl, e]
    rfl)
def kn (x : Option (Nat × Tr)) : D := (x.map wyD).getD .non
def sht (l : Nat) (x : Option (Nat × Tr)) : Bool := match x with
  | none => true
  | some y => decide (l < y.1)
theorem shorter {l : Nat} {x : Option (Nat × Tr)} : OKF (f_is_shorter [.d (.int (l : Nat)), .d (kn x)]) fun s => s = .d (.bl (sht l x)) := by
  unfold f_is_shorter
  refine okF_runF.mpr ⟨rfl, ?_⟩
  show OK (b_is_shorter [some (.d (.int (l : Nat))), some (.d (kn x))]) _
  unfold b_is_shorter
  cases x with
  | none => exact retE (ev_orV (p := true) (q := true) (ev_isN (ev_var (x := .non) 1 rfl)) fun z => (nomatch z)) fun s hs => .inl ⟨s, rfl, toD_back hs rfl⟩
  | some y =>
    have c2 := ev_ixT (i := 0) (x := .int (y.1 : Nat)) (ev_var (x := wyD y) 1 (ρ := [some (.d (.int (l : Nat))), some (.d (wyD y))]) rfl) ev_c rfl
    have c4 := ev_op (z := .bl (decide ((l : Int) < (y.1 : Nat)))) (ev_var (x := .int (l : Nat)) 0 rfl) c2 (g := gLt) rfl
    refine retE (ev_orV (p := false) (q := decide ((l : Int) < (y.1 : Nat))) (ev_isN (ev_var (x := wyD y) 1 rfl)) fun _ => c4) fun s hs => .inl ⟨s, rfl, ?_⟩
    rw [toD_back hs rfl]
    show S.d (.bl (decide _)) = S.d (.bl (decide _))
    congr 3
    exact propext ⟨fun h => by omega, fun h => by omega⟩
/-! ### _drained -/
theorem best_len8 {F : Wy Nat} (nd : (F.map (·.1)).Nodup) (h : ∀ e x, getY F e = some x → e < 8) : F.length ≤ 8 := by
  have := List.Nodup.length_le_of_subset (l₂ := List.range 8) nd fun e he => by
    obtain ⟨f, hf, rfl⟩ := List.mem_map.mp he
    exact List.mem_range.mpr (h _ _ (mem_getY nd (show (f.1, f.2) ∈ F from hf)))
  rw [List.length_map, List.length_range] at this
  exact this
/-- one more label at one place -/
def cand1 (W : Ln) (f : Nat × Nat × Tr) (l : Nat) : Wy Nat := (List.range 8).filterMap fun e => (W (f.1, l, e)).map fun d => (e, f.2.1 + d, f.2.2 ++ [It.k (f.1, l, e)])
theorem cands_snoc {W : Ln} {F : Wy Nat} {f : Nat × Nat × Tr} {l : Nat} : cands W (F ++ [f]) l = cands W F l ++ cand1 W f l := by
  unfold cands
  rw [List.flatMap_append]
  congr 1
  simp [cand1]
theorem cand1_eq {G : Wy Ky} {f : Nat × Nat × Tr} {l : Nat} : cand1 (lenW G) f l = ((List.range 8).filter fun e => hasY G (f.1, l, e)).map fun e => (e, f.2.1 + ln G (f.1, l, e), f.2.2 ++ [It.k (f.1, l, e)]) := by
  unfold cand1
  generalize List.range 8 = L
  induction L with
  | nil => rfl
  | cons e L ih =>
    rw [List.filter_cons]
    cases h : getY G (f.1, l, e) with
    | none =>
      rw [getY_none.mp h, if_neg (by simp), ← ih]
      exact List.filterMap_cons_none (by
        show ((getY G (f.1, l, e)).map (·.1)).map _ = none
        rw [h]
        rfl)
    | some x =>
      rw [getY_has h, if_pos rfl, List.map_cons, ← ih, ln_of (lenW_of (d := x.1) (t := x.2) h)]
      exact List.filterMap_cons_some (by
        show ((getY G (f.1, l, e)).map (·.1)).map _ = _
        rw [h]
        rfl)
section
variable {G : Wy Ky} {s : Fx.S} {a : Nat} {ls : List Nat}
abbrev Own (s : Fx.S) (x : D) : Prop := s = .d x ∨ s = .o (some 0) x
theorem Own.peek {x : D} (h : Own s x) {ρ : En} : peek (some s :: ρ) 0 = some x := by
  rcases h with rfl | rfl <;> rfl
/-- the inner loop: one place, one more label -/
theorem inner_ok (hs : Own s (dY kyD G)) {M A : Wy Nat} {f : Nat × Nat × Tr} {l : Nat} {x1 x2 x9 x11 : Option Fx.S} {PF : Fl → En → Prop} (nd : (A.map (·.1)).Nodup) (h8 : ∀ e x, getY A e = some x → e < 8) (hf : f.2.2.length ≤ 100)
    (q : ∀ x9 x11, PF .nx [some s, x1, x2, some (.d (dY nD M)), some (.d (nD l)), some (.o none (dY nD (best A (cand1 (lenW G) f l)))), some (.d (nD f.1)), some (.d (nD f.2.1)), some (.d (trD f.2.2)), x9, none, x11]) :
    OK (mFor (iSeq (mLc (iSeq (mC (.tup (([0, 1, 2, 3, 4, 5, 6, 7] : List Int).map D.int)))) (gmName 10) (mTest (mInN false (mTup (aCons (mVar 6) (aCons (mVar 4) (aCons (mVar 10) aNil)))) 0)) (mTup (aCons (mVar 6) (aCons (mVar 4) (aCons (mVar 10) aNil)))) [10])) (gmName 9) (mSeq (mAsg (mOp gAdd (mVar 7) (mOp gIx (mDgetN 0 (mVar 9)) (mC (.int 0)))) (gmName 11))
    (mIfS (mTest (mCall f_is_shorter (aCons (mVar 11) (aCons (mGet1N 5 (mOp gIx (mVar 9) (mC (.int 2)))) aNil)))) (mAsg (mTup (aCons (mVar 11) (aCons (mTup (aStar (mVar 8) (aCons (mVar 9) aNil))) aNil))) (gmItemD 5 (mOp gIx (mVar 9) (mC (.int 2))))) mNx))
    [some s, x1, x2, some (.d (dY nD M)), some (.d (nD l)), some (.o none (dY nD A)), some (.d (nD f.1)), some (.d (nD f.2.1)), some (.d (trD f.2.2)), x9, none, x11]) PF := by
  have lc := lcG (emb := nD) (ls := List.range 8) (t := fun e => hasY G (f.1, l, e)) (f := fun e => kyD (f.1, l, e)) (own := [10]) (gm := gmName 10) (fI := iSeq (mC (.tup (([0, 1, 2, 3, 4, 5, 6, 7] : List Int).map D.int))))
    (ft := mTest (mInN false (mTup (aCons (mVar 6) (aCons (mVar 4) (aCons (mVar 10) aNil)))) 0)) (fe := mTup (aCons (mVar 6) (aCons (mVar 4) (aCons (mVar 10) aNil))))
    (ρ := [some s, x1, x2, some (.d (dY nD M)), some (.d (nD l)), some (.o none (dY nD A)), some (.d (nD f.1)), some (.d (nD f.2.1)), some (.d (trD f.2.2)), x9, none, x11])
    (E := fun e => [some s, x1, x2, some (.d (dY nD M)), some (.d (nD l)), some (.o none (dY nD A)), some (.d (nD f.1)), some (.d (nD f.2.1)), some (.d (trD f.2.2)), x9, some (.d (nD e)), x11])
    (ei_seq ev_c rfl) rfl (fun e _ => eg_name) (fun e _ => by
      have := inNG (neg := false) keyK (a := (f.1, l, e)) (kv := kvY G) (i := 0) (ρ := [some s, x1, x2, some (.d (dY nD M)), some (.d (nD l)), some (.o none (dY nD A)), some (.d (nD f.1)), some (.d (nD f.2.1)), some (.d (trD f.2.2)), x9, some (.d (nD e)), x11]) hs.peek
        (fa := mTup (aCons (mVar 6) (aCons (mVar 4) (aCons (mVar 10) aNil)))) (ev_tup (ea_cons (ev_var (x := nD f.1) 6 rfl) (ea_cons (ev_var (x := nD l) 4 rfl) (ea_cons (ev_var (x := nD e) 10 rfl) ea_nil))))
      rw [if_neg (by decide), has_kv] at this
      exact eb_test this)
    (fun e _ _ => ev_tup (ea_cons (ev_var (x := nD f.1) 6 rfl) (ea_cons (ev_var (x := nD l) 4 rfl) (ea_cons (ev_var (x := nD e) 10 rfl) ea_nil)))) (fun _ _ => rfl) (by simp)
  rw [cand1_eq] at q
  have hE : ∀ e ∈ (List.range 8).filter fun e => hasY G (f.1, l, e), e < 8 ∧ hasY G (f.1, l, e) = true := fun e he => ⟨List.mem_range.mp (List.mem_filter.mp he).1, (List.mem_filter.mp he).2⟩
  generalize (List.range 8).filter (fun e => hasY G (f.1, l, e)) = E at lc q hE
  refine forG (emb := fun e => kyD (f.1, l, e)) (ls := E) (I := fun r ρ => ∃ x9 x11, ρ = [some s, x1, x2, some (.d (dY nD M)), some (.d (nD l)), some (.o none (dY nD (best A ((E.take r).map fun e => (e, f.2.1 + ln G (f.1, l, e), f.2.2 ++ [It.k (f.1, l, e)]))))), some (.d (nD f.1)), some (.d (nD f.2.1)), some (.d (trD f.2.2)), x9, none, x11]) (ei_seq lc rfl) ⟨x9, x11, rfl⟩ ?_ ?_
  · rintro r e ρ he ⟨x9, x11, rfl⟩
    obtain ⟨e8, eG⟩ := hE e (List.mem_of_getElem? he)
    refine ⟨_, eg_name, ?_⟩
    simp only [List.set_cons_succ, List.set_cons_zero]
    rw [List.take_add_one, he, List.map_append]
    have bnd : ((best A ((E.take r).map fun e => (e, f.2.1 + ln G (f.1, l, e), f.2.2 ++ [It.k (f.1, l, e)]))).map (·.1)).Nodup := best_nd nd
    have b8 : ∀ e x, getY (best A ((E.take r).map fun e => (e, f.2.1 + ln G (f.1, l, e), f.2.2 ++ [It.k (f.1, l, e)]))) e = some x → e < 8 := fun e' x h => by
      rcases best_from h with h | h
      · exact h8 _ _ h
      · obtain ⟨e2, h2, h3⟩ := List.mem_map.mp h
        cases h3
        exact (hE _ (List.mem_of_mem_take h2)).1
    rw [show best A ((E.take r).map (fun e => (e, f.2.1 + ln G (f.1, l, e), f.2.2 ++ [It.k (f.1, l, e)])) ++ List.map (fun e => (e, f.2.1 + ln G (f.1, l, e), f.2.2 ++ [It.k (f.1, l, e)])) (some e).toList) = updY (best A ((E.take r).map fun e => (e, f.2.1 + ln G (f.1, l, e), f.2.2 ++ [It.k (f.1, l, e)]))) (e, f.2.1 + ln G (f.1, l, e), f.2.2 ++ [It.k (f.1, l, e)]) from by unfold best; rw [List.foldl_append]; rfl]
    have bl := best_len8 bnd b8
    generalize best A ((E.take r).map fun e => (e, f.2.1 + ln G (f.1, l, e), f.2.2 ++ [It.k (f.1, l, e)])) = B at bnd b8 bl ⊢
    obtain ⟨y, hy⟩ := has_getY eG
    have ely : ln G (f.1, l, e) = y.1 := ln_of (lenW_of (d := y.1) (t := y.2) hy)
    rw [ely]
    have g0 := dgetNG keyK (a := (f.1, l, e)) (x := wyD y) (kv := kvY G) (i := 0) (ρ := [some s, x1, x2, some (.d (dY nD M)), some (.d (nD l)), some (.o none (dY nD B)), some (.d (nD f.1)), some (.d (nD f.2.1)), some (.d (trD f.2.2)), some (.d (kyD (f.1, l, e))), none, x11]) hs.peek (ev_var (x := kyD (f.1, l, e)) 9 rfl) (by rw [get_kv, hy]; rfl)
    have g1 := ev_ixT (i := 0) (x := .int (y.1 : Nat)) g0 ev_c rfl
    have g2 := ev_op (z := nD (f.2.1 + y.1)) (ev_var (x := nD f.2.1) 7 rfl) g1 (g := gAdd) (by
      show some (S.d (.int ((f.2.1 : Int) + (y.1 : Nat)))) = some (S.d (.int ((f.2.1 + y.1 : Nat) : Int)))
      rw [Int.natCast_add])
    refine sq (asg g2 ⟨rfl, ?_⟩)
    simp only [List.set_cons_succ, List.set_cons_zero]
    have i2 := ev_ixT (i := 2) (x := nD e) (ev_var (x := kyD (f.1, l, e)) 9 (ρ := [some s, x1, x2, some (.d (dY nD M)), some (.d (nD l)), some (.o none (dY nD B)), some (.d (nD f.1)), some (.d (nD f.2.1)), some (.d (trD f.2.2)), some (.d (kyD (f.1, l, e))), none, some (.d (nD (f.2.1 + y.1)))]) rfl) ev_c rfl
    have i5 := get1 keyNn (F := B) (a := e) (i := 5) (ρ := [some s, x1, x2, some (.d (dY nD M)), some (.d (nD l)), some (.o none (dY nD B)), some (.d (nD f.1)), some (.d (nD f.2.1)), some (.d (trD f.2.2)), some (.d (kyD (f.1, l, e))), none, some (.d (nD (f.2.1 + y.1)))]) rfl i2
    have sh := ev_call (x := .bl (sht (f.2.1 + y.1) (getY B e))) (ea_cons (ev_var (x := nD (f.2.1 + y.1)) 11 rfl) (ea_cons i5 ea_nil)) shorter
    refine ifB (eb_test sh) (fun hb => ?_) fun hb => ?_
    · have st := ev_tup (fA := aCons (mVar 11) (aCons (mTup (aStar (mVar 8) (aCons (mVar 9) aNil))) aNil)) (xs := [nD (f.2.1 + y.1), .tup (f.2.2.map itD ++ [kyD (f.1, l, e)])]) (ρ := [some s, x1, x2, some (.d (dY nD M)), some (.d (nD l)), some (.o none (dY nD B)), some (.d (nD f.1)), some (.d (nD f.2.1)), some (.d (trD f.2.2)), some (.d (kyD (f.1, l, e))), none, some (.d (nD (f.2.1 + y.1)))])
        (ea_cons (ev_var 11 rfl) (ea_cons (ev_tup (ea_star (ev_var (x := trD f.2.2) 8 rfl) rfl (ea_cons (ev_var 9 rfl) ea_nil)) (decide_eq_true (by simp; omega))) ea_nil))
      rw [ok_asg]
      refine st.dv ?_
      refine gitemG keyNn (kv := kvY B) (a := e) (o := none) rfl i2 (by unfold kvY; rw [List.length_map]; omega) ⟨fun _ => ⟨some (.d (kyD (f.1, l, e))), some (.d (nD (f.2.1 + y.1))), ?_⟩, fun z => (nomatch z), fun s z => (nomatch z)⟩
      have ew : (.tup [nD (f.2.1 + y.1), .tup (f.2.2.map itD ++ [kyD (f.1, l, e)])] : D) = wyD (f.2.1 + y.1, f.2.2 ++ [It.k (f.1, l, e)]) := by
        unfold wyD trD
        rw [List.map_append]
        rfl
      rw [ew, put_kv]
      have eu : updY B (e, f.2.1 + y.1, f.2.2 ++ [It.k (f.1, l, e)]) = putY B e (f.2.1 + y.1, f.2.2 ++ [It.k (f.1, l, e)]) := by
        unfold updY
        exact if_pos hb
      rw [eu]
      rfl
    · rw [ok_nx]
      refine ⟨fun _ => ⟨some (.d (kyD (f.1, l, e))), some (.d (nD (f.2.1 + y.1))), ?_⟩, fun z => (nomatch z), fun s z => (nomatch z)⟩
      have eu : updY B (e, f.2.1 + y.1, f.2.2 ++ [It.k (f.1, l, e)]) = B := by
        unfold updY
        refine if_neg ?_
        have : btr B e (f.2.1 + y.1, f.2.2 ++ [It.k (f.1, l, e)]) = sht (f.2.1 + y.1) (getY B e) := rfl
        show ¬ btr B e _ = true
        rw [this, hb]
        simp
      rw [eu]
  · rintro ρ ⟨x9, x11, rfl⟩
    rw [List.take_length]
    exact q x9 x11
end
end Fx.Sk
/-! stacks of labels on data: ways to take labels off, all of them -/
namespace Fx.Sk
open PySem Lib Nl Up
theorem ev_one {α : Type} [DecidableEq α] {ρ : En} {f : α → D} (k : KeyF f) {fk fv : Fx.M Fx.S} {a : α} {x : Nat × Tr} (h : Ev fk ρ (f a)) (hv : Ev fv ρ (wyD x)) : Ev (mDis1 fk fv) ρ (dY f [(a, x)]) := by
  have hh : homog [] (f a) = true := homogG (kv := []) k
  unfold Ev
  rw [ok_dv]
  unfold mDis1
  rw [ok_then]
  refine h.dv ?_
  rw [ok_then]
  refine hv.dv ?_
  rw [if_pos hh, ok_ok]
  exact ⟨_, rfl, rfl, rfl⟩
theorem asgNew {ρ : En} {i : Nat} {PF : Fl → En → Prop} (q : PF .nx (ρ.set i (some (.o none (.dct [] []))))) : OK (mAsgO i mDnew ρ) PF := by
  rw [ok_asgO]
  unfold mDnew
  rw [ok_ok]
  exact .inl ⟨_, rfl, q⟩
section
variable {G : Wy Ky} {s : Fx.S} {a : Nat} {ls : List Nat}
theorem best_len {F C : Wy Nat} (nd : (F.map (·.1)).Nodup) (h : ∀ e x, getY F e = some x → e < 8) (hC : ∀ c ∈ C, c.1 < 8) : ((best F C).map (·.1)).Nodup ∧ ∀ e x, getY (best F C) e = some x → e < 8 :=
  ⟨best_nd nd, fun e x q => (best_from q).elim (h e x) fun q => hC _ q⟩
theorem drained_ok (hs : Own s (dY kyD G)) (h8 : ∀ k d, lenW G k = some d → k.2.2 < 8) (ha : a < 8) (hl : ls.length ≤ 100) : OK (f_drained [s, .d (nD a), .d (ntT ls)]) fun r ρ => r = .d (dY nD (drn (lenW G) a ls)) ∧ ∃ t, ρ = some s :: t := by
  unfold f_drained
  refine ok_runF rfl ?_
  show OK (b_drained [some s, some (.d (nD a)), some (.d (ntT ls)), none, none, none, none, none, none, none, none, none]) _
  unfold b_drained
  have e0 : Ev (mTup (aCons (mC (.int 0)) (aCons (mTup aNil) aNil))) [some s, some (.d (nD a)), some (.d (ntT ls)), none, none, none, none, none, none, none, none, none] (wyD (0, [])) := ev_tup (ea_cons ev_c (ea_cons (ev_tup ea_nil) ea_nil))
  refine sq (asg (ev_one keyNn (a := a) (ev_var 1 rfl) e0) ⟨rfl, ?_⟩)
  simp only [List.set_cons_succ, List.set_cons_zero]
  refine sq (forG (emb := nD) (ls := ls) (I := fun j ρ => ∃ x4 x5 x6 x7 x8 x9 x11, ρ = [some s, some (.d (nD a)), some (.d (ntT ls)), some (.d (dY nD (drn (lenW G) a (ls.take j)))), x4, x5, x6, x7, x8, x9, none, x11]) (ei_seq (ev_var (x := ntT ls) 2 rfl) rfl) ⟨none, none, none, none, none, none, none, rfl⟩ ?_ ?_)
  · rintro j l ρ hj ⟨x4, x5, x6, x7, x8, x9, x11, rfl⟩
    refine ⟨_, eg_name, ?_⟩
    simp only [List.set_cons_succ, List.set_cons_zero]
    have dr := drn_ok (W := lenW G) (a := a) (ls := ls.take j) h8
    have low := fun e x (g : getY (drn (lenW G) a (ls.take j)) e = some x) => drn_low ha h8 g
    have hlen : (ls.take j).length ≤ 100 := by rw [List.length_take]; omega
    have tl : ∀ f ∈ drn (lenW G) a (ls.take j), f.2.2.length ≤ 100 := fun f hf => by
      obtain ⟨ks, e1, e2⟩ := dr.snd _ _ (mem_getY dr.nd (show (f.1, f.2) ∈ _ from hf))
      rw [e1, List.length_map, e2.len]
      exact hlen
    rw [show ls.take (j + 1) = ls.take j ++ [l] from by rw [List.take_add_one, hj]; rfl]
    rw [show drn (lenW G) a (ls.take j ++ [l]) = dr1 (lenW G) (drn (lenW G) a (ls.take j)) l from by unfold drn; rw [List.foldl_append]; rfl]
    have nd := dr.nd
    clear dr
    generalize drn (lenW G) a (ls.take j) = M at low tl nd ⊢
    refine sq (asgNew ⟨rfl, ?_⟩)
    simp only [List.set_cons_succ, List.set_cons_zero]
    refine sq (forG (emb := fun f : Nat × Nat × Tr => nD f.1) (ls := M) (I := fun i ρ => ∃ x6 x7 x8 x9 x11, ρ = [some s, some (.d (nD a)), some (.d (ntT ls)), some (.d (dY nD M)), some (.d (nD l)), some (.o none (dY nD (best [] (cands (lenW G) (M.take i) l)))), x6, x7, x8, x9, none, x11]) ?_ ⟨x6, x7, x8, x9, x11, rfl⟩ ?_ ?_)
    · have := ei_keysG (f := nD) (kv := kvY M) (ev_var (x := dY nD M) 3 (ρ := [some s, some (.d (nD a)), some (.d (ntT ls)), some (.d (dY nD M)), some (.d (nD l)), some (.o none (.dct [] [])), x6, x7, x8, x9, none, x11]) rfl)
      unfold kvY at this
      rw [List.map_map] at this
      exact this
    · rintro i f ρ hi ⟨x6, x7, x8, x9, x11, rfl⟩
      refine ⟨_, eg_name, ?_⟩
      simp only [List.set_cons_succ, List.set_cons_zero]
      have hf := List.mem_of_getElem? hi
      have gf := mem_getY nd (show (f.1, f.2) ∈ M from hf)
      have g0 := dgetG keyNn (kv := kvY M) (a := f.1) (x := wyD f.2) (ev_var (x := dY nD M) 3 (ρ := [some s, some (.d (nD a)), some (.d (ntT ls)), some (.d (dY nD M)), some (.d (nD l)), some (.o none (dY nD (best [] (cands (lenW G) (M.take i) l)))), some (.d (nD f.1)), x7, x8, x9, none, x11]) rfl) (ev_var 6 rfl) (by rw [get_kv, gf]; rfl)
      refine sq ?_
      rw [ok_asg]
      refine g0.dv ?_
      refine eg_2.ok ?_
      refine ⟨rfl, ?_⟩
      simp only [List.set_cons_succ, List.set_cons_zero]
      obtain ⟨b1, b2⟩ := best_len (F := []) (C := cands (lenW G) (M.take i) l) (by simp) (fun e x q => by cases q) fun c hc => (mem_cands.mp (show (c.1, c.2) ∈ _ from hc)).1
      refine inner_ok hs b1 b2 (tl f hf) fun x9 x11 => ⟨fun _ => ⟨some (.d (nD f.1)), some (.d (nD f.2.1)), some (.d (trD f.2.2)), x9, x11, ?_⟩, fun z => (nomatch z), fun s z => (nomatch z)⟩
      rw [show M.take (i + 1) = M.take i ++ [f] from by rw [List.take_add_one, hi]; rfl, cands_snoc]
      unfold best
      rw [List.foldl_append]
    · rintro ρ ⟨x6, x7, x8, x9, x11, rfl⟩
      rw [List.take_length]
      refine ⟨rfl, ?_⟩
      rw [ok_asg, ok_dv]
      refine ok_varZ (i := 5) (x := dY nD (best [] (cands (lenW G) M l))) rfl rfl ⟨_, rfl, ?_⟩
      rw [ok_gname]
      refine ⟨fun _ => ⟨some (.d (nD l)), some (.d (dY nD (best [] (cands (lenW G) M l)))), x6, x7, x8, x9, x11, rfl⟩, fun z => (nomatch z), fun s z => (nomatch z)⟩
  · rintro ρ ⟨x4, x5, x6, x7, x8, x9, x11, rfl⟩
    rw [List.take_length]
    refine ⟨rfl, ?_⟩
    rw [ok_ret]
    have h := ev_var (x := dY nD (drn (lenW G) a ls)) 3 (ρ := [some s, some (.d (nD a)), some (.d (ntT ls)), some (.d (dY nD (drn (lenW G) a ls))), x4, x5, x6, x7, x8, x9, none, x11]) rfl
    unfold mVar
    show OK (Out.ok (S.d (dY nD (drn (lenW G) a ls))) _) _
    rw [ok_ok]
    exact .inl ⟨_, rfl, rfl, _, rfl⟩
/-- the dict that it is lent stays as it is -/
theorem drainedO {ρ : En} {i : Nat} {o : Option Nat} {fa fl : Fx.M Fx.S} {P : D → En → Prop} (e : ρ[i]? = some (some (.o o (dY kyD G)))) (h8 : ∀ k d, lenW G k = some d → k.2.2 < 8) (ha : a < 8) (hl : ls.length ≤ 100) (h1 : Ev fa ρ (nD a)) (h2 : Ev fl ρ (ntT ls)) (q : P (dY nD (drn (lenW G) a ls)) ρ) :
    OK (dv (mCallO f_drained i 0 (aOwn i (aCons fa (aCons fl aNil)))) ρ) P := by
  rw [ok_dv]
  have ow : isOwn ρ i = true := by
    unfold isOwn
    rw [e]
  refine ok_callO (ok_own.mpr ⟨ow, ?_⟩)
  refine (ea_cons h1 (ea_cons h2 ea_nil)).ok ⟨o, dY kyD G, e, Nat.zero_le _, ?_⟩
  show OK (f_drained [.o (some 0) (dY kyD G), .d (nD a), .d (ntT ls)]) _
  refine (drained_ok (.inr rfl) h8 ha hl).imp fun s ρ' ⟨e1, t, e2⟩ => ?_
  subst e1 e2
  refine ⟨dY kyD G, rfl, rfl, _, rfl, ?_⟩
  have : ρ.set i (some (.o o (dY kyD G))) = ρ := by
    refine List.ext_getElem? fun j => ?_
    rw [List.getElem?_set]
    split
    · rename_i h
      subst h
      have hi := (List.getElem?_eq_some_iff.mp e).1
      rw [if_pos hi, e]
    · rfl
  rw [this]
  exact q
/-- a dict that stays -/
theorem drainedD (h8 : ∀ k d, lenW G k = some d → k.2.2 < 8) (ha : a < 8) (hl : ls.length ≤ 100) : OKF (f_drained [.d (dY kyD G), .d (nD a), .d (ntT ls)]) fun r => r = .d (dY nD (drn (lenW G) a ls)) := Fx.okF.mpr ((drained_ok (.inl rfl) h8 ha hl).imp fun s ρ' h => h.1)
end
end Fx.Sk
/-! stacks of labels: one pass over the rules (no data) -/
namespace Fx.Sk
section
variable {α : Type} [DecidableEq α]
/-- is any of some better than what is known by then -/
def chg (F : Wy α) : Wy α → Bool
  | [] => false
  | c :: C => btr F c.1 c.2 || chg (updY F c) C
theorem upd_not {F : Wy α} {c : α × Nat × Tr} (h : btr F c.1 c.2 = false) : updY F c = F := by
  unfold updY
  rw [if_neg (by rw [h]; simp)]
theorem chg_snoc {C : Wy α} : ∀ {F : Wy α} {c : α × Nat × Tr}, chg F (C ++ [c]) = (chg F C || btr (best F C) c.1 c.2) := by
  induction C with
  | nil =>
    intro F c
    show (btr F c.1 c.2 || false) = (false || btr F c.1 c.2)
    rw [Bool.or_false, Bool.false_or]
  | cons d C ih =>
    intro F c
    show (btr F d.1 d.2 || chg (updY F d) (C ++ [c])) = ((btr F d.1 d.2 || chg (updY F d) C) || btr (best (updY F d) C) c.1 c.2)
    rw [ih, Bool.or_assoc]
theorem chg_not {C : Wy α} : ∀ {F : Wy α}, chg F C = false → best F C = F ∧ ∀ c ∈ C, btr F c.1 c.2 = false := by
  induction C with
  | nil => exact fun _ => ⟨rfl, fun c h => by cases h⟩
  | cons d C ih =>
    intro F h
    have h : (btr F d.1 d.2 || chg (updY F d) C) = false := h
    rw [Bool.or_eq_false_iff] at h
    obtain ⟨h1, h2⟩ := h
    rw [upd_not h1] at h2
    obtain ⟨e1, e2⟩ := ih h2
    refine ⟨?_, fun c hc => ?_⟩
    · show best (updY F d) C = F
      rw [upd_not h1, e1]
    · rcases List.mem_cons.mp hc with rfl | hc
      · exact h1
      · exact e2 c hc
end
/-- what one rule gives -/
def candR (F : Wy Ky) (i : Nat) (r : Ru) : Wy Ky := (drn (lenW F) r.2.2.1 r.2.2.2).map fun e => ((r.1, r.2.1, e.1), e.2.1 + 1, It.r i :: e.2.2)
section
variable {R : List Ru} {F0 F : Wy Ky} {i : Nat} {r : Ru}
abbrev N8 (R : List Ru) : Nat := R.length * 8
structure Stp (R : List Ru) (F0 F : Wy Ky) : Prop where
  good : Good R F
  le : Le F0 F
  len : F0.length ≤ F.length
theorem Stp.one (G0 : Good R F0) (S : Stp R F0 F) (hi : R[i]? = some r) (p2 : r.2.2.2.length ≤ 2) (ha : r.2.2.1 < 8) {c : Ky × Nat × Tr} (hc : c ∈ candR F0 i r) : Stp R F0 (updY F c) ∧ mu (N8 R) (updY F c) + (if btr F c.1 c.2 then 1 else 0) ≤ mu (N8 R) F := by
  obtain ⟨e, he, rfl⟩ := List.mem_map.mp hc
  have dr := drn_ok (W := lenW F0) (a := r.2.2.1) (ls := r.2.2.2) G0.h8
  have ge := mem_getY dr.nd (show (e.1, e.2) ∈ _ from he)
  obtain ⟨ks, e1, hch⟩ := dr.snd _ _ ge
  have e8 := drn_low ha G0.h8 ge
  have tw := G0.two hch p2
  obtain ⟨s', h1, h2⟩ := hch.le S.le
  have pm := pow_mono (show F0.length + 1 ≤ F.length + 1 by have := S.len; omega)
  have gd : Good R (updY F ((r.1, r.2.1, e.1), e.2.1 + 1, It.r i :: e.2.2)) := by
    rw [e1]
    exact S.good.upd (n := r.1) (l := r.2.1) (a := r.2.2.1) (put := r.2.2.2) hi h1 h2 (by omega) e8
  refine ⟨⟨gd, S.le.trans Le.upd, Nat.le_trans S.len upd_len⟩, ?_⟩
  cases hb : btr F (r.1, r.2.1, e.1) (e.2.1 + 1, It.r i :: e.2.2) with
  | false =>
    rw [upd_not (c := ((r.1, r.2.1, e.1), e.2.1 + 1, It.r i :: e.2.2)) hb]
    rw [if_neg (by simp)]
    omega
  | true =>
    rw [if_pos rfl]
    exact mu_upd S.good.nd (c := ((r.1, r.2.1, e.1), e.2.1 + 1, It.r i :: e.2.2)) (by show e.2.1 + 1 + 1 ≤ _; omega) gd.len hb
theorem Stp.all (G0 : Good R F0) (hi : R[i]? = some r) (p2 : r.2.2.2.length ≤ 2) (ha : r.2.2.1 < 8) : ∀ {C : Wy Ky} {F : Wy Ky}, (∀ c ∈ C, c ∈ candR F0 i r) → Stp R F0 F → Stp R F0 (best F C) ∧ mu (N8 R) (best F C) + (if chg F C then 1 else 0) ≤ mu (N8 R) F
  | [], F, _, S => ⟨S, Nat.le_refl _⟩
  | c :: C, F, h, S => by
    obtain ⟨S1, m1⟩ := S.one G0 hi p2 ha (h c List.mem_cons_self)
    obtain ⟨S2, m2⟩ := Stp.all G0 hi p2 ha (C := C) (fun c hc => h c (List.mem_cons_of_mem _ hc)) S1
    refine ⟨S2, ?_⟩
    show mu _ (best (updY F c) C) + (if (btr F c.1 c.2 || chg (updY F c) C) = true then 1 else 0) ≤ _
    cases hb : btr F c.1 c.2
    · rw [hb] at m1
      rw [Bool.false_or]
      simp at m1
      omega
    · rw [hb] at m1
      simp at m1 ⊢
      omega
/-- nothing bettered in a whole pass: nothing is to be bettered any more -/
theorem fix_of (G : Good R F) (h : ∀ i r, R[i]? = some r → ∀ c ∈ candR F i r, btr F c.1 c.2 = false) : Fix R F := fun i n l a put ks e s hi hc => by
  obtain ⟨x, h1, h2⟩ := (drn_ok (W := lenW F) (a := a) (ls := put) G.h8).min _ _ _ hc
  have hb := h i _ hi ((n, l, e), x.1 + 1, It.r i :: x.2) (List.mem_map.mpr ⟨(e, x), getY_mem h1, rfl⟩)
  have hb : btr F (n, l, e) (x.1 + 1, It.r i :: x.2) = false := hb
  unfold btr at hb
  cases hy : getY F (n, l, e) with
  | none => rw [hy] at hb; cases hb
  | some y =>
    rw [hy] at hb
    have hb : decide (x.1 + 1 < y.1) = false := hb
    have := of_decide_eq_false hb
    exact ⟨y, rfl, by omega⟩
theorem mu_nil {R : List Ru} (h : R.length ≤ 9) : mu (N8 R) [] + 1 < 1208925819614629174706176 := by
  have h1 : mu (N8 R) [] = N8 R * 2 ^ (N8 R + 1) := by
    unfold mu sumY
    simp
  rw [h1]
  have h2 : N8 R * 2 ^ (N8 R + 1) ≤ 72 * 2 ^ 73 := Nat.mul_le_mul (by show R.length * 8 ≤ 72; omega) (pow_mono (by show R.length * 8 + 1 ≤ 73; omega))
  have h3 : 72 * 2 ^ 73 + 1 < 1208925819614629174706176 := by decide +kernel
  omega
end
end Fx.Sk
/-! stacks of labels on data: all ways to take labels off -/
namespace Fx.Sk
open PySem Lib Nl Up
def ruD (r : Ru) : D := .tup [nD r.1, nD r.2.1, nD r.2.2.1, ntT r.2.2.2]
abbrev rusD (R : List Ru) : D := .tup (R.map ruD)
theorem forEi {fA : Fx.M (List D)} {x : D} {ds : List D} {gm : D → Fx.M Unit} {F : Fx.M Fl} {I : Nat → En → Prop} {PF : Fl → En → Prop} {ρ : En} (h : EvA fA ρ [x]) (hx : itemsD x = some ds) (i0 : I 0 ρ) (st : ∀ k y ρ, ds[k]? = some y → I k ρ → ∃ ρ1, EvG gm (.tup [.int (k : Nat), y]) ρ ρ1 ∧ OK (F ρ1) (LP (I (k + 1)) PF)) (e : ∀ ρ, I ds.length ρ → PF .nx ρ) : OK (mFor (iEnu fA) gm F ρ) PF := by
  rw [ok_for]
  refine ok_ienu (h.ok ⟨x, ds, rfl, hx, ?_⟩)
  refine ok_loop (I := I) (k := 0) i0 (fun q z ρ hz hI => ?_) fun ρ hI => e ρ (by rw [enumD_length, Nat.zero_add] at hI; exact hI)
  rw [Nat.zero_add] at hI ⊢
  obtain ⟨d, hd, rfl⟩ := enumD_at hz
  obtain ⟨ρ1, g, h⟩ := st q d ρ hd hI
  exact g.ok h
theorem retO {ρ : En} {i : Nat} {x : D} {PF : Fl → En → Prop} (e : ρ[i]? = some (some (.o none x))) (q : PF (.rt (.o none x)) (ρ.set i none)) : OK (mRetO i ρ) PF := by
  unfold mRetO
  rw [e]
  dsimp only
  rw [ok_ok]
  exact q
theorem eg_ru {ρ : En} {i j k l m : Nat} {x : D} {r : Ru} : EvG (gmTup 2 (gmCons (gmName i) (gmCons (gmTup 4 (gmCons (gmName j) (gmCons (gmName k) (gmCons (gmName l) (gmCons (gmName m) gmNil))))) gmNil))) (.tup [x, ruD r]) ρ (((((ρ.set i (some (.d x))).set j (some (.d (nD r.1)))).set k (some (.d (nD r.2.1)))).set l (some (.d (nD r.2.2.1)))).set m (some (.d (ntT r.2.2.2)))) := by
  unfold EvG
  exact ok_of rfl
section
variable {R : List Ru}
/-- the inner loop: what one rule gives -/
theorem turn_ok (O : ROk R) {F0 F : Wy Ky} {i : Nat} {r : Ru} {b : Bool} {x9 x10 x11 : Option Fx.S} {PF : Fl → En → Prop} (G0 : Good R F0) (S : Stp R F0 F0) (hi : R[i]? = some r) (e0 : F = F0)
    (q : ∀ x9 x10 x11, PF .nx [some (.d (rusD R)), some (.o none (dY kyD (best F0 (candR F0 i r)))), some (.d (.bl (b || chg F0 (candR F0 i r)))), some (.d (nD i)), some (.d (nD r.1)), some (.d (nD r.2.1)), some (.d (nD r.2.2.1)), some (.d (ntT r.2.2.2)), some (.d (dY nD (drn (lenW F0) r.2.2.1 r.2.2.2))), x9, x10, x11]) :
    OK (mFor (iKeysD (mVar 8)) (gmName 9) (mSeq (mAsg (mOp gDget (mVar 8) (mVar 9)) (gmTup 2 (gmCons (gmName 10) (gmCons (gmName 11) gmNil))))
    (mIfS (mTest (mCall f_is_shorter (aCons (mOp gAdd (mVar 10) (mC (.int 1))) (aCons (mGet1N 1 (mTup (aCons (mVar 4) (aCons (mVar 5) (aCons (mVar 9) aNil))))) aNil)))) (mSeq (mAsg (mTup (aCons (mOp gAdd (mVar 10) (mC (.int 1))) (aCons (mTup (aCons (mTup (aCons (mVar 3) aNil)) (aStar (mVar 11) aNil))) aNil))) (gmItemD 1 (mTup (aCons (mVar 4) (aCons (mVar 5) (aCons (mVar 9) aNil))))))
    (mAsg (mC (.bl true)) (gmName 2))) mNx))
    [some (.d (rusD R)), some (.o none (dY kyD F)), some (.d (.bl b)), some (.d (nD i)), some (.d (nD r.1)), some (.d (nD r.2.1)), some (.d (nD r.2.2.1)), some (.d (ntT r.2.2.2)), some (.d (dY nD (drn (lenW F0) r.2.2.1 r.2.2.2))), x9, x10, x11]) PF := by
  subst e0
  have hm := List.mem_of_getElem? hi
  have p2 := O.put _ hm
  have ha : r.2.2.1 < 8 := by have := O.aft _ hm; omega
  have dr := drn_ok (W := lenW F) (a := r.2.2.1) (ls := r.2.2.2) G0.h8
  have ec : candR F i r = (drn (lenW F) r.2.2.1 r.2.2.2).map fun e => ((r.1, r.2.1, e.1), e.2.1 + 1, It.r i :: e.2.2) := rfl
  have all : ∀ C : Wy Ky, (∀ c ∈ C, c ∈ candR F i r) → Stp R F (best F C) := fun C h => (Stp.all G0 hi p2 ha h S).1
  rw [ec] at q all
  have tl : ∀ f ∈ drn (lenW F) r.2.2.1 r.2.2.2, f.2.2.length ≤ 2 := fun f hf => by
    obtain ⟨ks, e1, e2⟩ := dr.snd _ _ (mem_getY dr.nd (show (f.1, f.2) ∈ _ from hf))
    rw [e1, List.length_map, e2.len]
    exact p2
  have nd := dr.nd
  clear dr ec
  generalize drn (lenW F) r.2.2.1 r.2.2.2 = M at q all tl nd ⊢
  refine forG (emb := fun f : Nat × Nat × Tr => nD f.1) (ls := M) (I := fun k ρ => ∃ x9 x10 x11, ρ = [some (.d (rusD R)), some (.o none (dY kyD (best F ((M.take k).map fun e => ((r.1, r.2.1, e.1), e.2.1 + 1, It.r i :: e.2.2))))), some (.d (.bl (b || chg F ((M.take k).map fun e => ((r.1, r.2.1, e.1), e.2.1 + 1, It.r i :: e.2.2))))), some (.d (nD i)), some (.d (nD r.1)), some (.d (nD r.2.1)), some (.d (nD r.2.2.1)), some (.d (ntT r.2.2.2)), some (.d (dY nD M)), x9, x10, x11]) ?_ ⟨x9, x10, x11, ?_⟩ ?_ ?_
  · have := ei_keysG (f := nD) (kv := kvY M) (ev_var (x := dY nD M) 8 (ρ := [some (.d (rusD R)), some (.o none (dY kyD F)), some (.d (.bl b)), some (.d (nD i)), some (.d (nD r.1)), some (.d (nD r.2.1)), some (.d (nD r.2.2.1)), some (.d (ntT r.2.2.2)), some (.d (dY nD M)), x9, x10, x11]) rfl)
    unfold kvY at this
    rw [List.map_map] at this
    exact this
  · have e : (b || chg F ([] : Wy Ky)) = b := Bool.or_false b
    rw [List.take_zero, List.map_nil, e]
    rfl
  · rintro k f ρ hk ⟨x9, x10, x11, rfl⟩
    refine ⟨_, eg_name, ?_⟩
    simp only [List.set_cons_succ, List.set_cons_zero]
    have hf := List.mem_of_getElem? hk
    have gf := mem_getY nd (show (f.1, f.2) ∈ M from hf)
    rw [show M.take (k + 1) = M.take k ++ [f] from by rw [List.take_add_one, hk]; rfl, List.map_append]
    rw [show best F ((M.take k).map (fun e => ((r.1, r.2.1, e.1), e.2.1 + 1, It.r i :: e.2.2)) ++ List.map (fun e => ((r.1, r.2.1, e.1), e.2.1 + 1, It.r i :: e.2.2)) [f]) = updY (best F ((M.take k).map fun e => ((r.1, r.2.1, e.1), e.2.1 + 1, It.r i :: e.2.2))) ((r.1, r.2.1, f.1), f.2.1 + 1, It.r i :: f.2.2) from by unfold best; rw [List.foldl_append]; rfl]
    rw [show chg F ((M.take k).map (fun e => ((r.1, r.2.1, e.1), e.2.1 + 1, It.r i :: e.2.2)) ++ List.map (fun e => ((r.1, r.2.1, e.1), e.2.1 + 1, It.r i :: e.2.2)) [f]) = (chg F ((M.take k).map fun e => ((r.1, r.2.1, e.1), e.2.1 + 1, It.r i :: e.2.2)) || btr (best F ((M.take k).map fun e => ((r.1, r.2.1, e.1), e.2.1 + 1, It.r i :: e.2.2))) (r.1, r.2.1, f.1) (f.2.1 + 1, It.r i :: f.2.2)) from chg_snoc]
    have sB := (all ((M.take k).map fun e => ((r.1, r.2.1, e.1), e.2.1 + 1, It.r i :: e.2.2)) fun c hc => by
      obtain ⟨e, he, rfl⟩ := List.mem_map.mp hc
      exact List.mem_map.mpr ⟨e, List.mem_of_mem_take he, rfl⟩).good.len
    rw [← Bool.or_assoc]
    generalize best F ((M.take k).map fun e => ((r.1, r.2.1, e.1), e.2.1 + 1, It.r i :: e.2.2)) = B at sB ⊢
    generalize (b || chg F ((M.take k).map fun e => ((r.1, r.2.1, e.1), e.2.1 + 1, It.r i :: e.2.2))) = b'
    have few := O.few
    have g0 := dgetG keyNn (kv := kvY M) (a := f.1) (x := wyD f.2) (ev_var (x := dY nD M) 8 (ρ := [some (.d (rusD R)), some (.o none (dY kyD B)), some (.d (.bl b')), some (.d (nD i)), some (.d (nD r.1)), some (.d (nD r.2.1)), some (.d (nD r.2.2.1)), some (.d (ntT r.2.2.2)), some (.d (dY nD M)), some (.d (nD f.1)), x10, x11]) rfl) (ev_var 9 rfl) (by rw [get_kv, gf]; rfl)
    refine sq ?_
    rw [ok_asg]
    refine g0.dv ?_
    refine eg_2.ok ?_
    refine ⟨rfl, ?_⟩
    simp only [List.set_cons_succ, List.set_cons_zero]
    obtain ⟨ρ0, h0⟩ : ∃ ρ0 : En, ρ0 = [some (.d (rusD R)), some (.o none (dY kyD B)), some (.d (.bl b')), some (.d (nD i)), some (.d (nD r.1)), some (.d (nD r.2.1)), some (.d (nD r.2.2.1)), some (.d (ntT r.2.2.2)), some (.d (dY nD M)), some (.d (nD f.1)), some (.d (nD f.2.1)), some (.d (trD f.2.2))] := ⟨_, rfl⟩
    have c1 : Ev (mOp gAdd (mVar 10) (mC (.int 1))) ρ0 (nD (f.2.1 + 1)) := by
      rw [h0]
      exact ev_op (ev_var (x := nD f.2.1) 10 rfl) ev_c rfl
    have c2 : Ev (mTup (aCons (mVar 4) (aCons (mVar 5) (aCons (mVar 9) aNil)))) ρ0 (kyD (r.1, r.2.1, f.1)) := by
      rw [h0]
      exact ev_tup (ea_cons (ev_var (x := nD r.1) 4 rfl) (ea_cons (ev_var (x := nD r.2.1) 5 rfl) (ea_cons (ev_var (x := nD f.1) 9 rfl) ea_nil)))
    have e1 : ρ0[1]? = some (some (.o none (dY kyD B))) := by rw [h0]; rfl
    have c3 := get1 keyK (F := B) (a := (r.1, r.2.1, f.1)) (i := 1) (ρ := ρ0) (by unfold peek; rw [e1]) c2
    have sh := ev_call (x := .bl (sht (f.2.1 + 1) (getY B (r.1, r.2.1, f.1)))) (ea_cons c1 (ea_cons c3 ea_nil)) shorter
    have v3 : Ev (mVar 3) ρ0 (nD i) := by rw [h0]; exact ev_var 3 rfl
    have v11 : Ev (mVar 11) ρ0 (trD f.2.2) := by rw [h0]; exact ev_var 11 rfl
    rw [← h0]
    have eb : btr B (r.1, r.2.1, f.1) (f.2.1 + 1, It.r i :: f.2.2) = sht (f.2.1 + 1) (getY B (r.1, r.2.1, f.1)) := rfl
    rw [eb]
    refine ifB (eb_test sh) (fun hb => ?_) fun hb => ?_
    · have t2 := tl f hf
      have st : Ev (mTup (aCons (mOp gAdd (mVar 10) (mC (.int 1))) (aCons (mTup (aCons (mTup (aCons (mVar 3) aNil)) (aStar (mVar 11) aNil))) aNil))) ρ0 (wyD (f.2.1 + 1, It.r i :: f.2.2)) := ev_tup (ea_cons c1 (ea_cons (ev_tup (xs := itD (.r i) :: (f.2.2.map itD ++ [])) (ea_cons (ev_tup (ea_cons v3 ea_nil)) (ea_star v11 rfl ea_nil)) (decide_eq_true (by simp; omega)) |> fun h => by
        rw [List.append_nil] at h
        exact h) ea_nil))
      refine sq ?_
      rw [ok_asg]
      refine st.dv ?_
      refine gitemG keyK (kv := kvY B) (a := (r.1, r.2.1, f.1)) (o := none) e1 c2 (by unfold kvY; rw [List.length_map]; have : N8 R ≤ 72 := (by show R.length * 8 ≤ 72; omega); omega) ⟨rfl, ?_⟩
      rw [put_kv, hb, Bool.or_true]
      have eu : updY B ((r.1, r.2.1, f.1), f.2.1 + 1, It.r i :: f.2.2) = putY B (r.1, r.2.1, f.1) (f.2.1 + 1, It.r i :: f.2.2) := by
        unfold updY
        exact if_pos hb
      rw [eu, h0]
      simp only [List.set_cons_succ, List.set_cons_zero]
      refine asg ev_c ⟨fun _ => ⟨some (.d (nD f.1)), some (.d (nD f.2.1)), some (.d (trD f.2.2)), rfl⟩, fun z => (nomatch z), fun s z => (nomatch z)⟩
    · rw [ok_nx, hb, Bool.or_false, upd_not (c := ((r.1, r.2.1, f.1), f.2.1 + 1, It.r i :: f.2.2)) hb, h0]
      exact ⟨fun _ => ⟨some (.d (nD f.1)), some (.d (nD f.2.1)), some (.d (trD f.2.2)), rfl⟩, fun z => (nomatch z), fun s z => (nomatch z)⟩
  · rintro ρ ⟨x9, x10, x11, rfl⟩
    rw [List.take_length]
    exact q x9 x10 x11
theorem drains_ok (O : ROk R) : OKF (f_drains_in [.d (rusD R)]) fun s => ∃ F, s = .o none (dY kyD F) ∧ Good R F ∧ Fix R F := by
  unfold f_drains_in
  refine okF_runF.mpr ⟨rfl, ?_⟩
  show OK (b_drains_in [some (.d (rusD R)), none, none, none, none, none, none, none, none, none, none, none]) _
  unfold b_drains_in
  refine sq (asgNew ⟨rfl, ?_⟩)
  simp only [List.set_cons_succ, List.set_cons_zero]
  refine sq (asg ev_c ⟨rfl, ?_⟩)
  simp only [List.set_cons_succ, List.set_cons_zero]
  have few := O.few
  refine sq (ok_while (I := fun m ρ => ∃ (F : Wy Ky) (b : Bool) (x3 x4 x5 x6 x7 x8 x9 x10 x11 : Option Fx.S), ρ = [some (.d (rusD R)), some (.o none (dY kyD F)), some (.d (.bl b)), x3, x4, x5, x6, x7, x8, x9, x10, x11] ∧ Good R F ∧ (b = false → Fix R F) ∧ m = if b then mu (N8 R) F + 1 else 0) (m := mu (N8 R) [] + 1) ?_ (mu_nil few) ⟨[], true, none, none, none, none, none, none, none, none, none, rfl, Good.nil, fun z => (nomatch z), rfl⟩)
  rintro m ρ ⟨F, b, x3, x4, x5, x6, x7, x8, x9, x10, x11, rfl, hG, hX, rfl⟩
  refine (eb_truth (b := b) (ev_var (x := .bl b) 2 rfl) rfl).ok ⟨fun hbt => ?_, fun hbf => ?_⟩
  · subst hbt
    rw [if_pos rfl]
    refine sq (asg ev_c ⟨rfl, ?_⟩)
    simp only [List.set_cons_succ, List.set_cons_zero]
    refine forEi (ds := R.map ruD) (x := rusD R) (I := fun j ρ => ∃ (F' : Wy Ky) (b : Bool) (x3 x4 x5 x6 x7 x8 x9 x10 x11 : Option Fx.S), ρ = [some (.d (rusD R)), some (.o none (dY kyD F')), some (.d (.bl b)), x3, x4, x5, x6, x7, x8, x9, x10, x11] ∧ Good R F' ∧ mu (N8 R) F' + (if b then 1 else 0) ≤ mu (N8 R) F ∧ (b = false → F' = F ∧ ∀ i r, i < j → R[i]? = some r → ∀ c ∈ candR F i r, btr F c.1 c.2 = false)) (ea_cons (ev_var 0 rfl) ea_nil) rfl ⟨F, false, x3, x4, x5, x6, x7, x8, x9, x10, x11, rfl, hG, Nat.le_refl _, fun _ => ⟨rfl, fun i r h => (by omega)⟩⟩ ?_ ?_
    · rintro i y ρ hy ⟨F', b, x3, x4, x5, x6, x7, x8, x9, x10, x11, rfl, hG', hm, hb⟩
      rw [List.getElem?_map] at hy
      obtain ⟨r, hr, rfl⟩ := Option.map_eq_some_iff.mp hy
      refine ⟨_, eg_ru, ?_⟩
      simp only [List.set_cons_succ, List.set_cons_zero]
      have hmem := List.mem_of_getElem? hr
      have ha : r.2.2.1 < 8 := by have := O.aft _ hmem; omega
      have p2 := O.put _ hmem
      refine sq ?_
      rw [ok_asg]
      refine drainedO (i := 1) (o := none) (G := F') (a := r.2.2.1) (ls := r.2.2.2) rfl hG'.h8 ha (by omega) (ev_var 6 rfl) (ev_var 7 rfl) ?_
      rw [ok_gname]
      refine ⟨rfl, ?_⟩
      simp only [List.set_cons_succ, List.set_cons_zero]
      have S0 : Stp R F' F' := ⟨hG', Le.refl, Nat.le_refl _⟩
      obtain ⟨S1, m1⟩ := Stp.all hG' hr p2 ha (C := candR F' i r) (fun c hc => hc) S0
      refine turn_ok O hG' S0 hr rfl fun x9 x10 x11 => ⟨fun _ => ⟨best F' (candR F' i r), b || chg F' (candR F' i r), some (.d (nD i)), some (.d (nD r.1)), some (.d (nD r.2.1)), some (.d (nD r.2.2.1)), some (.d (ntT r.2.2.2)), some (.d (dY nD (drn (lenW F') r.2.2.1 r.2.2.2))), x9, x10, x11, rfl, S1.good, ?_, fun hz => ?_⟩, fun z => (nomatch z), fun s z => (nomatch z)⟩
      · cases b <;> cases hc : chg F' (candR F' i r) <;> rw [hc] at m1 <;> simp at hm m1 ⊢ <;> omega
      · rw [Bool.or_eq_false_iff] at hz
        obtain ⟨rfl, h2⟩ := hb hz.1
        obtain ⟨e1, e2⟩ := chg_not hz.2
        refine ⟨e1, fun i' r' h1 h3 => ?_⟩
        by_cases h4 : i' < i
        · exact h2 i' r' h4 h3
        · have : i' = i := by omega
          subst this
          rw [hr] at h3
          cases h3
          exact e2
    · rintro ρ ⟨F', b, x3, x4, x5, x6, x7, x8, x9, x10, x11, rfl, hG', hm, hb⟩
      refine ⟨rfl, _, ?_, F', b, x3, x4, x5, x6, x7, x8, x9, x10, x11, rfl, hG', fun hz => ?_, rfl⟩
      · cases b <;> simp at hm ⊢ <;> omega
      · obtain ⟨rfl, h2⟩ := hb hz
        refine fix_of hG' fun i r h => h2 i r ?_ h
        rw [List.length_map]
        exact (List.getElem?_eq_some_iff.mp h).1
  · refine ⟨rfl, ?_⟩
    have : b = false := by simpa using hbf
    subst this
    exact retO rfl (.inl ⟨_, rfl, F, rfl, hG, hX rfl⟩)
end
end Fx.Sk
/-! stacks of labels on data: the run that a trail tells -/
namespace Fx.Sk
open PySem Lib Nl Up
theorem appB {ρ : En} {i : Nat} {o : Option Nat} {ds : List D} {x : D} {fe : Fx.M Fx.S} {PF : Fl → En → Prop} (e1 : ρ[i]? = some (some (.o o (.lst ds)))) (h : Ev fe ρ x) (hk : ds.length + 1 ≤ 16777216) (q : PF .nx (ρ.set i (some (.o o (.lst (ds ++ [x])))))) : OK (mDrop (mMeth1 i gApp fe) ρ) PF := by
  rw [ok_drop]
  have hs : small (ds.length + 1) = true := decide_eq_true hk
  unfold mMeth1 ownL
  rw [e1]
  dsimp only
  rw [if_pos rfl, ok_then]
  refine h.dv ?_
  rw [e1]
  unfold gApp
  dsimp only
  rw [if_pos hs]
  dsimp only
  rw [ok_ok]
  exact q
theorem extB {ρ : En} {i : Nat} {o : Option Nat} {ds es : List D} {fe : Fx.M Fx.S} {PF : Fl → En → Prop} (e1 : ρ[i]? = some (some (.o o (.lst ds)))) (h : Ev fe ρ (.tup es)) (hk : ds.length + es.length ≤ 16777216) (q : PF .nx (ρ.set i (some (.o o (.lst (ds ++ es)))))) : OK (mDrop (mMeth1 i gExtT fe) ρ) PF := by
  rw [ok_drop]
  have hs : small (ds.length + es.length) = true := decide_eq_true hk
  unfold mMeth1 ownL
  rw [e1]
  dsimp only
  rw [if_pos rfl, ok_then]
  refine h.dv ?_
  rw [e1]
  unfold gExtT
  dsimp only
  rw [if_pos hs]
  dsimp only
  rw [ok_ok]
  exact q
theorem ev_revT {ρ : En} {fe : Fx.M Fx.S} {ds : List D} (h : Ev fe ρ (.tup ds)) : Ev (mRevT fe) ρ (.tup ds.reverse) := ev_of (by
  unfold mRevT
  rw [ok_then]
  refine h.dv ?_
  dsimp only
  rw [ok_ok]
  exact ⟨rfl, rfl⟩)
theorem ok_pop {ρ : En} {i : Nat} {b : Option Nat} {ds : List D} {x : D} {P : Fx.S → En → Prop} (e : ρ[i]? = some (some (.o b (.lst (ds ++ [x]))))) (q : P (.d x) (ρ.set i (some (.o b (.lst ds))))) : OK (mMeth0 i gPop ρ) P := by
  unfold mMeth0
  rw [e]
  dsimp only
  have e1 : gPop (ds ++ [x]) = some (x, ds) := by
    unfold gPop
    simp
  rw [e1]
  dsimp only
  rw [ok_ok]
  exact q
theorem wt_le {F : Wy Ky} : ∀ {t : Tr}, wt F t ≤ 2 * sz F t
  | [] => Nat.le_refl _
  | .r i :: t => by
    have := wt_le (F := F) (t := t)
    rw [wt_cons, sz_cons]
    show 1 + _ ≤ 2 * (1 + _)
    omega
  | .k k :: t => by
    have := wt_le (F := F) (t := t)
    rw [wt_cons, sz_cons]
    show 2 * ln F k + _ ≤ 2 * (ln F k + _)
    omega
theorem run_of_ok {R : List Ru} {F : Wy Ky} {t : Tr} {x z : Pk} (G : Good R F) (L : Leads R F t x z) (hz : sz F t ≤ 16777216) : OKF (f_run_of [.d (dY kyD F), .d (trD t)]) fun s => ∃ ns, s = .d (ntT ns) ∧ Run R x ns z ∧ ns.length ≤ sz F t := by
  unfold f_run_of
  refine okF_runF.mpr ⟨rfl, ?_⟩
  show OK (b_run_of [some (.d (dY kyD F)), some (.d (trD t)), none, none, none]) _
  unfold b_run_of
  refine sq (asgL ea_nil rfl ⟨rfl, ?_⟩)
  simp only [List.set_cons_succ, List.set_cons_zero]
  refine sq ?_
  rw [ok_asgO, ok_cb]
  refine (ea_cons (ev_revT (ev_var (x := trD t) 1 rfl)) ea_nil).ok ⟨.o none (.lst (t.map itD).reverse), rfl, .inl ⟨_, rfl, ?_⟩⟩
  refine ⟨rfl, ?_⟩
  simp only [List.set_cons_succ, List.set_cons_zero]
  have hw := wt_le (F := F) (t := t)
  refine sq (ok_while (I := fun m ρ => ∃ (done : List Nat) (w : Tr) (x4 : Option Fx.S), ρ = [some (.d (dY kyD F)), some (.d (trD t)), some (.o none (.lst (nl done))), some (.o none (.lst (w.map itD).reverse)), x4] ∧ (∃ y, Run R x done y ∧ Leads R F w y z) ∧ done.length + sz F w ≤ sz F t ∧ m = wt F w) (m := wt F t) ?_ (by omega) ⟨[], t, none, rfl, ⟨x, .nil, L⟩, by simp, rfl⟩)
  rintro m ρ ⟨done, w, x4, rfl, ⟨y, hr, hl⟩, hs, rfl⟩
  refine (eb_truO (ds := (w.map itD).reverse) rfl).ok ⟨fun hb => ?_, fun hb => ?_⟩
  · cases w with
    | nil => simp at hb
    | cons j w =>
      have few := hl.few G
      rw [List.map_cons, List.reverse_cons]
      rw [sz_cons] at hs few
      rw [List.length_cons] at few
      refine sq ?_
      rw [ok_asg, ok_dv]
      refine ok_pop (ds := (w.map itD).reverse) (x := itD j) rfl ⟨_, rfl, ?_⟩
      rw [ok_gname]
      refine ⟨rfl, ?_⟩
      simp only [List.set_cons_succ, List.set_cons_zero]
      cases j with
      | r i =>
        have l1 := lenT (ev_var (x := ntT [i]) 4 (ρ := [some (.d (dY kyD F)), some (.d (trD t)), some (.o none (.lst (nl done))), some (.o none (.lst (w.map itD).reverse)), some (.d (ntT [i]))]) rfl)
        have c1 := ev_op (z := .bl true) l1 (ev_c (x := .int 1)) (g := gEq) rfl
        refine ifT (eb_test c1) ?_
        have hs : done.length + (1 + sz F w) ≤ sz F t := hs
        refine appB rfl (ev_ixT (i := 0) (x := nD i) (ev_var (x := ntT [i]) 4 rfl) ev_c rfl) (by rw [nl_len]; omega) ⟨rfl, _, ?_, done ++ [i], w, some (.d (ntT [i])), ?_, ?_, ?_, rfl⟩
        · rw [wt_cons]
          show _ < 1 + _
          omega
        · simp only [List.set_cons_succ, List.set_cons_zero]
          rw [show nl (done ++ [i]) = nl done ++ [nD i] from by unfold nl; rw [List.map_append]; rfl]
          rfl
        · cases hl with
          | r g h => exact ⟨_, hr.app (.cons g .nil), h⟩
        · rw [List.length_append]
          show done.length + 1 + _ ≤ _
          omega
      | k k =>
        have l1 := lenT (ev_var (x := kyD k) 4 (ρ := [some (.d (dY kyD F)), some (.d (trD t)), some (.o none (.lst (nl done))), some (.o none (.lst (w.map itD).reverse)), some (.d (kyD k))]) rfl)
        have c1 := ev_op (z := .bl false) l1 (ev_c (x := .int 1)) (g := gEq) rfl
        have hv : ∃ v, getY F k = some v := by
          cases hl with
          | k g _ => exact ⟨_, g⟩
        obtain ⟨v, hv⟩ := hv
        obtain ⟨x1, x2⟩ := G.exp hv
        have g0 := dgetG keyK (kv := kvY F) (a := k) (x := wyD v) (ev_var (x := dY kyD F) 0 (ρ := [some (.d (dY kyD F)), some (.d (trD t)), some (.o none (.lst (nl done))), some (.o none (.lst (w.map itD).reverse)), some (.d (kyD k))]) rfl) (ev_var (x := kyD k) 4 rfl) (by rw [get_kv, hv]; rfl)
        have g1 := ev_revT (ds := v.2.map itD) (ev_ixT (i := 1) (x := trD v.2) g0 ev_c rfl)
        have le2 := hl.exp G hv
        have few2 := le2.few G
        rw [sz_app, List.length_append] at few2
        refine ifB (eb_test c1) (fun z => (nomatch z)) fun _ => ?_
        refine extB rfl g1 (by rw [List.length_reverse, List.length_map, List.length_reverse, List.length_map]; omega) ⟨rfl, _, ?_, done, v.2 ++ w, some (.d (kyD k)), ?_, ⟨y, hr, le2⟩, ?_, rfl⟩
        · rw [wt_cons, wt_app]
          omega
        · simp only [List.set_cons_succ, List.set_cons_zero]
          rw [List.map_append, List.reverse_append]
          rfl
        · rw [sz_app]
          omega
  · have hw : w = [] := by
      cases w with
      | nil => rfl
      | cons j w => simp at hb
    subst hw
    cases hl
    refine ⟨rfl, ?_⟩
    rw [ok_ret, ok_cb, ok_cons, ok_dv]
    refine ok_varZ (i := 2) (x := .lst (nl done)) rfl rfl ⟨_, rfl, ?_⟩
    rw [ok_nil]
    exact ⟨.d (ntT done), rfl, .inl ⟨_, rfl, done, rfl, hr, (show done.length + 0 ≤ sz F t from hs)⟩⟩
end Fx.Sk
/-! stacks of labels on data: checks, drains, drain_run -/
namespace Fx.Sk
open PySem Lib Nl Up
theorem drop_ok {ρ : En} {fe : Fx.M Fx.S} {x : D} {G : Fx.M Fl} {PF : Fl → En → Prop} (h : Ev fe ρ x) (q : OK (G ρ) PF) : OK (mSeq (mDrop fe) G ρ) PF := sq (dropE h ⟨rfl, q⟩)
/-! ### checks -/
theorem node_ok {n : Nat} (h : n < 8) : OKF (f_is_node [.d (nD n)]) fun s => s = .d (.bl true) := by
  unfold f_is_node
  refine okF_runF.mpr ⟨rfl, ?_⟩
  show OK (b_is_node [some (.d (nD n))]) _
  unfold b_is_node
  have e := evNum (v := (n : Nat)) (lo := 0) (hi := 7) (ρ := [some (.d (nD n))]) (ea_cons (ev_var (x := nD n) 0 rfl) (ea_cons (ev_c (x := .int 0)) (ea_cons (ev_op (g := gMinus) (lenT (ev_c (x := .tup (([0, 1, 2, 3, 4, 5, 6, 7] : List Int).map D.int)))) (ev_c (x := .int 1)) rfl) ea_nil)))
  rw [decide_eq_true (show (0 : Int) ≤ n by omega), decide_eq_true (show (n : Int) ≤ 7 by omega)] at e
  exact retE e fun s hs => .inl ⟨s, rfl, toD_back hs rfl⟩
theorem stack_ok {st : List Nat} {m : Nat} (h : ∀ x ∈ st, x ≤ 5) (hl : st.length ≤ m) (hm : m ≤ 1000) : OKF (f_is_stack [.d (ntT st), .d (nD m)]) fun s => s = .d (.bl true) := by
  unfold f_is_stack
  refine okF_runF.mpr ⟨rfl, ?_⟩
  show OK (b_is_stack [some (.d (ntT st)), some (.d (nD m))]) _
  unfold b_is_stack
  have e := evNumsN (L := st) (hi := 5) (ρ := [some (.d (ntT st)), some (.d (nD m))]) (ea_cons (ev_var (x := ntT st) 0 rfl) (ea_cons ev_c (ea_cons ev_c ea_nil))) (by omega)
  rw [show (st.all fun v => decide (v ≤ 5)) = true from List.all_eq_true.mpr fun v hv => decide_eq_true (h v hv)] at e
  have l := ev_le (lenN (ev_var (x := ntT st) 0 rfl)) (ev_var (x := nD m) (ρ := [some (.d (ntT st)), some (.d (nD m))]) 1 rfl)
  have g := ev_and e l
  refine retE g fun s hs => .inl ⟨s, rfl, ?_⟩
  rw [toD_back hs rfl, Bool.true_and, decide_eq_true (by omega)]
structure RulesOk (R : List Ru) : Prop where
  ok : ROk R
  node : ∀ r ∈ R, r.1 < 5
  lab : ∀ r ∈ R, r.2.1 ≤ 5
  labs : ∀ r ∈ R, ∀ x ∈ r.2.2.2, x ≤ 5
section
variable {R : List Ru}
theorem rule_ok (O : RulesOk R) {r : Ru} (hr : r ∈ R) : OKF (f_is_rule [.d (ruD r)]) fun s => s = .d (.bl true) := by
  have h1 := O.node r hr
  have h2 := O.lab r hr
  have h3 := O.ok.aft r hr
  have h4 := O.ok.put r hr
  have h5 := O.labs r hr
  unfold f_is_rule
  refine okF_runF.mpr ⟨rfl, ?_⟩
  show OK (b_is_rule [some (.d (ruD r)), none, none, none, none]) _
  unfold b_is_rule
  have t := evTup (ds := [nD r.1, nD r.2.1, nD r.2.2.1, ntT r.2.2.2]) (lo := 4) (hi := 4) (ρ := [some (.d (ruD r)), none, none, none, none]) (ea_cons (ev_var 0 rfl) (ea_cons ev_c (ea_cons ev_c ea_nil)))
  refine sq (ifN (eb_not (b := true) (eb_test t)) ⟨rfl, ?_⟩)
  refine sq ?_
  rw [ok_asg]
  refine (ev_var (x := ruD r) 0 rfl).dv ?_
  refine ok_gtup4 ⟨rfl, ?_⟩
  simp only [List.set_cons_succ, List.set_cons_zero]
  have c1 := ev_call (ea_cons (ev_var (x := nD r.1) 1 (ρ := [some (.d (ruD r)), some (.d (nD r.1)), some (.d (nD r.2.1)), some (.d (nD r.2.2.1)), some (.d (ntT r.2.2.2))]) rfl) ea_nil) (node_ok (n := r.1) (by omega))
  have c2 := evNum (v := (r.2.1 : Nat)) (lo := 0) (hi := 5) (ρ := [some (.d (ruD r)), some (.d (nD r.1)), some (.d (nD r.2.1)), some (.d (nD r.2.2.1)), some (.d (ntT r.2.2.2))]) (ea_cons (ev_var 2 rfl) (ea_cons ev_c (ea_cons ev_c ea_nil)))
  have c3 := ev_call (ea_cons (ev_var (x := nD r.2.2.1) 3 (ρ := [some (.d (ruD r)), some (.d (nD r.1)), some (.d (nD r.2.1)), some (.d (nD r.2.2.1)), some (.d (ntT r.2.2.2))]) rfl) ea_nil) (node_ok (n := r.2.2.1) (by omega))
  have c4 := ev_call (ea_cons (ev_var (x := ntT r.2.2.2) 4 (ρ := [some (.d (ruD r)), some (.d (nD r.1)), some (.d (nD r.2.1)), some (.d (nD r.2.2.1)), some (.d (ntT r.2.2.2))]) rfl) (ea_cons (ev_c (x := .int (2 : Nat))) ea_nil)) (stack_ok (m := 2) h5 h4 (by omega))
  rw [decide_eq_true (show (0 : Int) ≤ r.2.1 by omega), decide_eq_true (show (r.2.1 : Int) ≤ 5 by omega)] at c2
  refine retE (ev_and c1 (ev_and c2 (ev_and c3 c4))) fun s hs => .inl ⟨s, rfl, ?_⟩
  rw [toD_back hs rfl]
  rfl
theorem rules_ok (O : RulesOk R) : OKF (f_check_rules [.d (rusD R)]) fun s => s = .d .non := by
  have hl := O.ok.few
  unfold f_check_rules
  refine okF_runF.mpr ⟨rfl, ?_⟩
  show OK (b_check_rules [some (.d (rusD R)), none, none]) _
  unfold b_check_rules
  have t := evTup (ds := R.map ruD) (lo := 0) (hi := 24) (ρ := [some (.d (rusD R)), none, none]) (ea_cons (ev_var 0 rfl) (ea_cons ev_c (ea_cons ev_c ea_nil)))
  rw [show (decide ((0 : Int) ≤ ((R.map ruD).length : Nat)) && decide ((((R.map ruD).length : Nat) : Int) ≤ 24)) = true from by rw [List.length_map, decide_eq_true (by omega), decide_eq_true (by omega)]; rfl] at t
  refine sq (ifN (eb_not (b := true) (eb_test t)) ⟨rfl, ?_⟩)
  refine forE (ds := R.map ruD) (I := fun _ ρ => ∃ x1 x2, ρ = [some (.d (rusD R)), x1, x2]) (ea_cons (ev_var 0 rfl) ea_nil) rfl ⟨none, none, rfl⟩ ?_ ?_
  · rintro k y ρ hy ⟨x1, x2, rfl⟩
    rw [List.getElem?_map] at hy
    obtain ⟨r, hr, rfl⟩ := Option.map_eq_some_iff.mp hy
    simp only [List.set_cons_succ, List.set_cons_zero]
    exact ifN (eb_not (b := true) (eb_test (ev_call (ea_cons (ev_var (x := ruD r) 2 rfl) ea_nil) (rule_ok O (List.mem_of_getElem? hr))))) (fin ⟨_, _, rfl⟩)
  · rintro ρ ⟨x1, x2, rfl⟩
    exact .inr ⟨rfl, rfl⟩
theorem cnode_ok {n : Nat} (h : n < 8) : OKF (f_check_node [.d (nD n)]) fun s => s = .d .non := by
  unfold f_check_node
  refine okF_runF.mpr ⟨rfl, ?_⟩
  show OK (b_check_node [some (.d (nD n))]) _
  unfold b_check_node
  exact ifN (eb_not (b := true) (eb_test (ev_call (ea_cons (ev_var (x := nD n) 0 rfl) ea_nil) (node_ok h)))) (.inr ⟨rfl, rfl⟩)
theorem packet_ok (O : RulesOk R) {n : Nat} {st : List Nat} (h : n < 8) (h5 : ∀ x ∈ st, x ≤ 5) (hl : st.length ≤ 12) : OKF (f_check_packet [.d (rusD R), .d (nD n), .d (ntT st)]) fun s => s = .d .non := by
  unfold f_check_packet
  refine okF_runF.mpr ⟨rfl, ?_⟩
  show OK (b_check_packet [some (.d (rusD R)), some (.d (nD n)), some (.d (ntT st))]) _
  unfold b_check_packet
  refine drop_ok (ev_call (ea_cons (ev_var (x := rusD R) 0 rfl) ea_nil) (rules_ok O)) ?_
  refine drop_ok (ev_call (ea_cons (ev_var (x := nD n) 1 rfl) ea_nil) (cnode_ok h)) ?_
  exact ifN (eb_not (b := true) (eb_test (ev_call (ea_cons (ev_var (x := ntT st) 2 rfl) (ea_cons (ev_c (x := .int (12 : Nat))) ea_nil)) (stack_ok (m := 12) h5 hl (by omega))))) (.inr ⟨rfl, rfl⟩)
/-! ### what the ways tell -/
theorem Leads.run {F : Wy Ky} (G : Good R F) : ∀ (n : Nat) {t : Tr} {x z : Pk}, wt F t ≤ n → Leads R F t x z → ∃ ns, Run R x ns z := by
  intro n
  induction n with
  | zero =>
    intro t x z h L
    cases L with
    | nil => exact ⟨[], .nil⟩
    | r g L =>
      rw [wt_cons] at h
      have h : 1 + _ ≤ 0 := h
      omega
    | k g L =>
      rw [wt_cons] at h
      obtain ⟨_, h2⟩ := G.exp g
      omega
  | succ n ih =>
    intro t x z h L
    cases L with
    | nil => exact ⟨[], .nil⟩
    | r g L =>
      rw [wt_cons] at h
      have h : 1 + _ ≤ n + 1 := h
      obtain ⟨ns, q⟩ := ih (by omega) L
      exact ⟨_, .cons g q⟩
    | k g L =>
      obtain ⟨_, h2⟩ := G.exp g
      rw [wt_cons] at h
      exact ih (by rw [wt_app]; omega) (Leads.exp G (.k g L) g)
abbrev Rch (R : List Ru) (a : Nat) (st : List Nat) (e : Nat) : Prop := ∃ ns, Run R (a, st) ns (e, [])
theorem chain_leads {F : Wy Ky} {a e s : Nat} {st : List Nat} {ks : List Ky} (h : Chain (lenW F) a st ks e s) : Leads R F (ks.map It.k) (a, st) (e, []) := by
  have := Leads.chain (R := R) (its := []) (rest := []) (z := (e, [])) h .nil
  rw [List.append_nil, List.append_nil] at this
  exact this
theorem drn_iff {F : Wy Ky} (G : Good R F) (X : Fix R F) {a e : Nat} {st : List Nat} : hasY (drn (lenW F) a st) e = true ↔ Rch R a st e := by
  have dr := drn_ok (W := lenW F) (a := a) (ls := st) G.h8
  constructor
  · intro h
    obtain ⟨x, hx⟩ := has_getY h
    obtain ⟨ks, _, hc⟩ := dr.snd _ _ hx
    exact Leads.run G _ (Nat.le_refl _) (chain_leads hc)
  · rintro ⟨ns, h⟩
    obtain ⟨ks, s, hc, _⟩ := reach_in X h
    obtain ⟨x, hx, _⟩ := dr.min _ _ _ hc
    exact getY_has hx
/-! ### drains, drain_run -/
theorem ev_calO {ρ : En} {F : Fn} {fA : Fx.M (List D)} {xs : List D} {z : D} (h : EvA fA ρ xs) (k : OKF (F (xs.map .d)) fun s => s = .o none z) (hz : canFz z = true) : Ev (mCall F fA) ρ z := by
  obtain ⟨s, ρ', e, rfl⟩ : ∃ s ρ', F (xs.map .d) = .ok s ρ' ∧ s = .o none z := by
    have := (Fx.okF.mp k).at
    obtain ⟨s, ρ', e, q⟩ := this
    exact ⟨s, ρ', e, q⟩
  unfold Ev
  rw [ok_dv]
  unfold mCall
  rw [ok_then]
  refine h.ok ?_
  rw [e]
  dsimp only
  rw [if_pos (show bare (.o none z) = true from rfl), ok_ok]
  refine ⟨z, ?_, rfl, rfl⟩
  show (if canFz z then some z else none) = _
  rw [if_pos hz]
theorem okF_ex {m : Out Fx.S} {P : Fx.S → Prop} (h : OKF m P) : ∃ r, P r ∧ OKF m fun s => s = r := by
  obtain ⟨s, ρ', e, q⟩ := (Fx.okF.mp h).at
  refine ⟨s, q, Fx.okF.mpr ?_⟩
  rw [e, ok_ok]
end
end Fx.Sk
/-! stacks of labels on data: what the law draws, runs that are told -/
namespace Fx.Sk
open PySem Lib Nl Up
/-! ### drawn -/
structure Drw (n l : Nat) (R : List Ru) : Prop where
  ok : ∀ r ∈ R, r.1 < n ∧ r.2.1 < l ∧ r.2.2.1 < n ∧ r.2.2.2.length ≤ 2 ∧ ∀ x ∈ r.2.2.2, x < l
  few : R.length ≤ 9
theorem Drw.rules {n l : Nat} {R : List Ru} (h : Drw n l R) (hn : n ≤ 5) (hl : l ≤ 3) : RulesOk R :=
  ⟨⟨h.few, fun r hr => by have := h.ok r hr; omega, fun r hr => (h.ok r hr).2.2.2.1⟩, fun r hr => by have := h.ok r hr; omega, fun r hr => by have := h.ok r hr; omega, fun r hr x hx => by have := (h.ok r hr).2.2.2.2 x hx; omega⟩
section
variable {ρ : En} {ns : List Int} {a b c : Int} {o : Option Nat} {m n : Nat}
theorem drawN {r k : Nat} {fn fm : Fx.M Fx.S} {P : D → En → Prop} (e : ρ[r]? = some (rowS o ns a b c)) (h : RowOk a b c) (hk : ρ.set k none = ρ) (k0 : k ≠ r) (hn : Ev fn ρ (.int (n : Nat))) (n2 : n ≤ 1000) (m1 : 0 < m) (m2 : m ≤ 1000) (hm : ∀ a b c x, Ev fm ((ρ.set r (rowS o ns a b c)).set k (some (.d x))) (.int (m : Nat)))
    (q : ∀ (p : List Nat) a b c, p.length = n → (∀ x ∈ p, x < m) → RowOk a b c → P (ntT p) (ρ.set r (rowS o ns a b c))) :
    OK (dv (mCB gTuple (aCons (mLc (iRange1 (aCons fn aNil)) (gmName k) mYes (mCallO Lib.f_law_taken r 0 (aOwn r (aCons fm aNil))) [k]) aNil)) ρ) P := by
  have hr : r < ρ.length := (List.getElem?_eq_some_iff.mp e).1
  rw [ok_dv, ok_cb, ok_cons, ok_dv, ok_lc]
  refine @ok_range1e _ _ _ ?_
  refine (ea_cons hn ea_nil).ok ⟨((n : Nat) : Int), rfl, by omega, by omega, ?_⟩
  have hk1 : wipeE ρ [k] = ρ := hk
  rw [hk1]
  refine ok_compR (r := r) (o := o) (ns := ns) (fun _ y => ∃ v : Int, y = .int v ∧ 0 ≤ v ∧ v < (m : Nat)) e h hk k0 ?_ (by rw [intsFrom_length]; omega) ?_
  · intro i x a b c ρ' hx h e' er
    rw [ok_dv]
    refine ok_taken (m := (m : Nat)) er h ((by rw [e']; exact hm a b c x : Ev fm ρ' (.int (m : Nat))).dv ⟨rfl, rfl⟩) (by omega) (by omega) fun v a b c v0 v1 h => ?_
    exact ⟨_, rfl, ⟨v, rfl, v0, v1⟩, a, b, c, h, rfl⟩
  · intro ys a b c hl hg h
    rw [intsFrom_length, Int.toNat_natCast] at hl
    obtain ⟨vs, rfl, hvl, hv⟩ := intsD_get (Good := fun v => 0 ≤ v ∧ v < (m : Nat)) hg
    have en : vs.map D.int = nl (vs.map Int.toNat) := by
      rw [nl, List.map_map]
      refine List.map_congr_left fun v hv' => ?_
      show D.int v = D.int (v.toNat : Int)
      rw [Int.toNat_of_nonneg (hv v hv').1]
    refine ⟨.lst (vs.map D.int), rfl, ?_⟩
    rw [ok_nil]
    refine ⟨.d (.tup (vs.map D.int)), rfl, .tup (vs.map D.int), rfl, ?_⟩
    rw [en]
    refine q _ a b c (by rw [List.length_map]; omega) (fun b hb => ?_) h
    obtain ⟨v, hv', rfl⟩ := List.mem_map.mp hb
    have := hv v hv'
    omega
theorem stack_rules_ok {nn ll : Nat} (n1 : 0 < nn) (n2 : nn ≤ 1000) (l1 : 0 < ll) (l2 : ll ≤ 1000) (h : RowOk a b c) : OK (f_law_stack_rules [.o (some 0) (rowD ns a b c), .d (nD nn), .d (nD ll)]) fun s ρ => ∃ R a b c, Drw nn ll R ∧ s = .d (rusD R) ∧ RowOk a b c ∧ ∃ ρ', ρ = some (.o (some 0) (rowD ns a b c)) :: ρ' := by
  unfold f_law_stack_rules
  refine ok_runF rfl ?_
  show OK (b_law_stack_rules [rowS (some 0) ns a b c, some (.d (nD nn)), some (.d (nD ll)), none, none, none, none, none]) _
  unfold b_law_stack_rules
  refine sq (asgL ea_nil rfl ⟨rfl, ?_⟩)
  simp only [List.set_cons_succ, List.set_cons_zero]
  refine sq ?_
  rw [ok_for]
  refine @ok_range1e _ _ _ ?_
  rw [ok_cons, ok_dv, ok_op]
  refine ev_c.dv ?_
  refine tk (r := 0) (m := 9) rfl h ev_c (by omega) (by omega) fun v a b c hv h => ?_
  refine ⟨.d (.int ((1 : Int) + (v : Nat))), rfl, .int ((1 : Int) + (v : Nat)), rfl, ?_⟩
  rw [ok_nil]
  refine ⟨(1 : Int) + (v : Nat), rfl, by omega, by omega, ?_⟩
  obtain ⟨n, en⟩ : ∃ n, n = 1 + v := ⟨_, rfl⟩
  rw [show ((1 : Int) + (v : Nat)) = ((n : Nat) : Int) by omega, Int.toNat_natCast]
  simp only [List.set_cons_succ, List.set_cons_zero]
  refine ok_loop (I := fun k ρ => ∃ (R : List Ru) (a b c : Int) (x4 x5 x6 : Option Fx.S), (∀ r ∈ R, r.1 < nn ∧ r.2.1 < ll ∧ r.2.2.1 < nn ∧ r.2.2.2.length ≤ 2 ∧ ∀ x ∈ r.2.2.2, x < ll) ∧ R.length = k ∧ k ≤ n ∧ RowOk a b c ∧ ρ = [rowS (some 0) ns a b c, some (.d (nD nn)), some (.d (nD ll)), some (.o none (.lst (R.map ruD))), x4, x5, x6, none]) (k := 0) ⟨[], a, b, c, none, none, none, fun r hr => (by simp at hr), rfl, Nat.zero_le _, h, rfl⟩ ?_ ?_
  · clear h a b c
    rintro q y ρ hy ⟨R, a, b, c, x4, x5, x6, hR, hl, hq, h, rfl⟩
    rw [Nat.zero_add] at hl hq ⊢
    obtain ⟨rfl, hq⟩ := intsFrom_at hy
    rw [ok_gname]
    simp only [List.set_cons_succ, List.set_cons_zero]
    refine sq ?_
    rw [ok_asg, ok_dv]
    refine pick_at (r := 0) (o := some 0) (ns := ns) (ds := [.int 0, .int 1, .int 1, .int 2]) rfl h (ev_lst (ea_cons ev_c (ea_cons ev_c (ea_cons ev_c (ea_cons ev_c ea_nil))))) (by decide) (by decide) fun z a b c hz h => ?_
    refine ⟨_, rfl, ?_⟩
    rw [ok_gname]
    refine ⟨rfl, ?_⟩
    simp only [List.set_cons_succ, List.set_cons_zero]
    obtain ⟨sz, rfl, hsz⟩ : ∃ sz : Nat, z = .int (sz : Nat) ∧ sz ≤ 2 := by
      simp only [List.mem_cons, List.mem_nil_iff, or_false] at hz
      rcases hz with rfl | rfl | rfl | rfl
      · exact ⟨0, rfl, by omega⟩
      · exact ⟨1, rfl, by omega⟩
      · exact ⟨1, rfl, by omega⟩
      · exact ⟨2, rfl, by omega⟩
    refine sq ?_
    rw [ok_asg]
    refine drawN (r := 0) (k := 7) (n := sz) (m := ll) rfl h rfl (by decide) (ev_var 5 rfl) (by omega) l1 l2 (fun a b c x => ev_var 2 rfl) fun p a b c hpl hp h => ?_
    rw [ok_gname]
    refine ⟨rfl, ?_⟩
    simp only [List.set_cons_succ, List.set_cons_zero]
    refine appM rfl (by rw [List.length_map]; omega) ?_
    rw [ok_dv, ok_tup, ok_cons]
    refine tk (r := 0) (m := nn) rfl h (ev_var 1 rfl) n1 (by omega) fun v1 a b c h1 h => ?_
    rw [ok_cons]
    refine tk (r := 0) (m := ll) rfl h (ev_var 2 rfl) l1 (by omega) fun v2 a b c h2 h => ?_
    rw [ok_cons]
    refine tk (r := 0) (m := nn) rfl h (ev_var 1 rfl) n1 (by omega) fun v3 a b c h3 h => ?_
    rw [ok_cons]
    refine (ev_var (x := ntT p) 6 rfl).dv ?_
    rw [ok_nil]
    refine ⟨rfl, _, rfl, rfl, ?_⟩
    simp only [List.set_cons_succ, List.set_cons_zero]
    refine ⟨fun _ => ⟨R ++ [(v1, v2, v3, p)], a, b, c, some (.d (.int (q : Nat))), some (.d (.int (sz : Nat))), some (.d (ntT p)), fun r hr => ?_, by rw [List.length_append]; show _ + 1 = _; omega, by omega, h, ?_⟩, fun z => (nomatch z), fun s z => (nomatch z)⟩
    · rcases List.mem_append.mp hr with hr | hr
      · exact hR r hr
      · rw [List.mem_singleton.mp hr]
        exact ⟨h1, h2, h3, (show p.length ≤ 2 by omega), hp⟩
    · rw [List.map_append]
      rfl
  · rintro ρ ⟨R, a, b, c, x4, x5, x6, hR, hl, hq, h, rfl⟩
    rw [intsFrom_length, Nat.zero_add] at hl
    refine ⟨rfl, ?_⟩
    rw [ok_ret, ok_cb, ok_cons, ok_dv]
    refine ok_varZ (i := 3) (x := .lst (R.map ruD)) rfl rfl ⟨_, rfl, ?_⟩
    rw [ok_nil]
    exact ⟨.d (rusD R), rfl, .inl ⟨_, rfl, R, a, b, c, ⟨hR, by omega⟩, rfl, h, _, rfl⟩⟩
theorem drawS {r nn ll : Nat} {fn fl : Fx.M Fx.S} {P : Fx.S → En → Prop} (n1 : 0 < nn) (n2 : nn ≤ 1000) (l1 : 0 < ll) (l2 : ll ≤ 1000) (e : ρ[r]? = some (rowS o ns a b c)) (h : RowOk a b c) (hn : Ev fn ρ (nD nn)) (hl : Ev fl ρ (nD ll)) (q : ∀ R a b c, Drw nn ll R → RowOk a b c → P (.d (rusD R)) (ρ.set r (rowS o ns a b c))) : OK (mCallO f_law_stack_rules r 0 (aOwn r (aCons fn (aCons fl aNil))) ρ) P := by
  refine ok_rowF (r := r) (o := o) (ns := ns) (a := a) (b := b) (c := c) (ds := [nD nn, nD ll]) (Pv := fun s => ∃ R, s = .d (rusD R) ∧ Drw nn ll R) e (ea_cons hn (ea_cons hl ea_nil)) ((stack_rules_ok n1 n2 l1 l2 h).imp ?_) ?_
  · rintro s ρ' ⟨R, a, b, c, t, rfl, h, ρ2, rfl⟩
    exact ⟨⟨R, rfl, t⟩, rfl, a, b, c, h, ρ2, rfl⟩
  · rintro _ a b c ⟨R, rfl, t⟩ h
    exact q R a b c t h
end
/-! ### runs that are told -/
abbrev pkD (x : Pk) : D := .tup [nD x.1, ntT x.2]
section
variable {R : List Ru}
theorem gEq_ntT {p q : List Nat} : gEq (ntT p) (ntT q) = some (.d (.bl (decide (p = q)))) := gEq_nb (b := decide (p = q)) nb_nl nb_nl (by
  rw [decide_eq_true_iff]
  exact ⟨fun h => by rw [h], fun h => nl_inj (D.tup.inj h)⟩)
theorem nl_drop {L : List Nat} {k : Nat} : (nl L).drop k = nl (L.drop k) := by
  unfold nl
  rw [List.map_drop]
theorem ev_put {ρ : En} {fa fb : Fx.M Fx.S} {p st : List Nat} (ha : Ev fa ρ (ntT p)) (hb : Ev fb ρ (ntT st)) (hs : p.length + st.length ≤ 16777216) : Ev (mOp gAdd fa (mSl fb (oSome (mC (.int 1))) oNone)) ρ (ntT (p ++ st.tail)) := by
  have e1 := tailT (i := 1) hb (ev_c (x := .int (1 : Nat)))
  rw [nl_drop, List.drop_one] at e1
  have := ev_catT ha e1 (decide_eq_true (by rw [nl_len, nl_len, List.length_tail]; omega))
  rw [show nl p ++ nl st.tail = nl (p ++ st.tail) from by unfold nl; rw [List.map_append]] at this
  exact this
theorem stp_len {x y : Pk} {i : Nat} (O : ROk R) (h : stp R i x = some y) : y.2.length ≤ x.2.length + 1 := by
  obtain ⟨l, a, put, rest, h1, h2, rfl⟩ := stp_some h
  have := O.put _ (List.mem_of_getElem? h1)
  rw [h2]
  show (put ++ rest).length ≤ rest.length + 1 + 1
  rw [List.length_append]
  have : put.length ≤ 2 := this
  omega
/-- a step takes one label off at most -/
theorem run_fall {x y : Pk} {ns : List Nat} (h : Run R x ns y) : x.2.length ≤ y.2.length + ns.length := by
  induction h with
  | nil => exact Nat.le_refl _
  | cons g _ ih =>
    obtain ⟨l, a, put, rest, h1, h2, rfl⟩ := stp_some g
    rw [h2, List.length_cons, List.length_cons]
    have ih : (put ++ rest).length ≤ _ := ih
    rw [List.length_append] at ih
    omega
theorem fwd_ok (O : ROk R) {n e : Nat} {st ls : List Nat} {ns : List Nat} (h : Run R (n, st) ns (e, ls)) (hl : st.length + ns.length + ls.length ≤ 33554400) : OKF (f_law_forward [.d (rusD R), .d (nD n), .d (ntT st), .d (ntT ns)]) fun s => s = .d (pkD (e, ls)) := by
  unfold f_law_forward
  refine okF_runF.mpr ⟨rfl, ?_⟩
  show OK (b_law_forward [some (.d (rusD R)), some (.d (nD n)), some (.d (ntT st)), some (.d (ntT ns)), none, none, none, none, none]) _
  unfold b_law_forward
  refine sq (forG (emb := nD) (ls := ns) (I := fun k ρ => ∃ (y : Pk) (x4 x5 x6 x7 x8 : Option Fx.S), ρ = [some (.d (rusD R)), some (.d (nD y.1)), some (.d (ntT y.2)), some (.d (ntT ns)), x4, x5, x6, x7, x8] ∧ Run R y (ns.drop k) (e, ls) ∧ y.2.length ≤ st.length + k) (ei_seq (ev_var (x := ntT ns) 3 rfl) rfl) ⟨(n, st), none, none, none, none, none, rfl, h, Nat.le_refl _⟩ ?_ ?_)
  · rintro k i ρ hk ⟨y, x4, x5, x6, x7, x8, rfl, hr, hy⟩
    refine ⟨_, eg_name, ?_⟩
    simp only [List.set_cons_succ, List.set_cons_zero]
    have hkl := (List.getElem?_eq_some_iff.mp hk).1
    have dn := run_fall hr
    rw [List.length_drop] at dn
    rw [List.drop_eq_getElem_cons hkl, (List.getElem?_eq_some_iff.mp hk).2] at hr
    cases hr with
    | cons g hr =>
      have sl := stp_len O g
      obtain ⟨l, a, put, rest, h1, h2, rfl⟩ := stp_some g
      have p2 : put.length ≤ 2 := O.put _ (List.mem_of_getElem? h1)
      obtain ⟨p, st'⟩ := y
      have h2 : st' = l :: rest := h2
      subst h2
      have hy : rest.length + 1 ≤ st.length + k := hy
      have dn : rest.length + 1 ≤ ls.length + (ns.length - k) := dn
      have g0 := ev_ixT (i := i) (x := ruD (p, l, a, put)) (ev_var (x := rusD R) 0 (ρ := [some (.d (rusD R)), some (.d (nD p)), some (.d (ntT (l :: rest))), some (.d (ntT ns)), some (.d (nD i)), x5, x6, x7, x8]) rfl) (ev_var (x := nD i) 4 rfl) (by rw [List.getElem?_map, h1]; rfl)
      refine sq ?_
      rw [ok_asg]
      refine g0.dv ?_
      refine ok_gtup4 ⟨rfl, ?_⟩
      simp only [List.set_cons_succ, List.set_cons_zero]
      obtain ⟨ρ0, h0⟩ : ∃ ρ0 : En, ρ0 = [some (.d (rusD R)), some (.d (nD p)), some (.d (ntT (l :: rest))), some (.d (ntT ns)), some (.d (nD i)), some (.d (nD p)), some (.d (nD l)), some (.d (nD a)), some (.d (ntT put))] := ⟨_, rfl⟩
      have v1 : Ev (mVar 1) ρ0 (nD p) := by rw [h0]; exact ev_var 1 rfl
      have v2 : Ev (mVar 2) ρ0 (ntT (l :: rest)) := by rw [h0]; exact ev_var 2 rfl
      have v5 : Ev (mVar 5) ρ0 (nD p) := by rw [h0]; exact ev_var 5 rfl
      have v6 : Ev (mVar 6) ρ0 (nD l) := by rw [h0]; exact ev_var 6 rfl
      have v7 : Ev (mVar 7) ρ0 (nD a) := by rw [h0]; exact ev_var 7 rfl
      have v8 : Ev (mVar 8) ρ0 (ntT put) := by rw [h0]; exact ev_var 8 rfl
      have t1 : Ev (mOp gNe (mVar 5) (mVar 1)) ρ0 (.bl false) := by
        have := ev_ne v5 v1
        rw [decide_eq_true rfl] at this
        exact this
      have t2 : Ev (mOp gEq (mVar 2) (mTup aNil)) ρ0 (.bl false) := by
        have := ev_op v2 (ev_tup (xs := nl []) ea_nil) gEq_ntT
        exact this
      have t3 : Ev (mOp gNe (mOp gIx (mVar 2) (mC (.int 0))) (mVar 6)) ρ0 (.bl false) := by
        have := ev_ne (ev_ixT (i := 0) (x := nD l) v2 ev_c rfl) v6
        rw [decide_eq_true rfl] at this
        exact this
      have pt := ev_put v8 v2 (by rw [List.length_cons]; omega)
      rw [← h0]
      refine sq (ifN (eb_or (p := false) (q := false) (eb_test t1) fun _ => eb_or (p := false) (q := false) (eb_test t2) fun _ => eb_test t3) ⟨rfl, ?_⟩)
      refine ok_par2E v7 pt ⟨fun _ => ⟨(a, put ++ rest), some (.d (nD i)), some (.d (nD p)), some (.d (nD l)), some (.d (nD a)), some (.d (ntT put)), by rw [h0]; rfl, hr, ?_⟩, fun z => (nomatch z), fun s z => (nomatch z)⟩
      have sl : (put ++ rest).length ≤ rest.length + 1 + 1 := sl
      show (put ++ rest).length ≤ _
      omega
  · rintro ρ ⟨y, x4, x5, x6, x7, x8, rfl, hr, hy⟩
    rw [List.drop_length] at hr
    cases hr
    refine ⟨rfl, ?_⟩
    exact retE (ev_tup (ea_cons (ev_var (x := nD e) 1 rfl) (ea_cons (ev_var (x := ntT ls) 2 rfl) ea_nil))) fun s hs => .inl ⟨s, rfl, toD_back hs rfl⟩
end
end Fx.Sk
/-! self.f[k] = v; self.g = e behind it; a call that is given self -/
namespace Fx
open PySem PySem.Spec PyProof.Rows L2
open C8 (Cal Mak pe_c pe_mk)
open LamX (Tabs TabS TabB ExtN CodeO codeO_ne)
end Fx
/-! a lambda of one parameter that captures names, called for its key -/
namespace Fx
open PySem PySem.Spec PyProof.Rows L2
open LamX (Tabs TabS TabB ExtN CodeO codeO_ne inv_table among_app lamCx lamEnv)
end Fx
/-! sorted(xs, key=lambda a: body) on data -/
namespace Fx
open PySem PySem.Spec PyProof.Rows L2
open LamX (Tabs TabS TabB ExtN CodeO codeO_ne lamCx lamEnv)
open PySem.W (AllAlike Sortable dataLe EachIs)
section
variable {c : Cfg} {B : Base} {W : WX} {ts : En} {vs : List (Option V)} {ρ : En} {σ : L2.St} {H H1 : Hp} {te tb : TE} {fe fb : M S} {f c' : Addr} {G : Hp} {q : Str} {params : Arguments} {body : Expr} {scope : Scope} {clo : List (Str × Addr)} {pm ctv : Value} {j : Nat}
theorem Rep.only (r : Rep c B ts vs ρ σ H) : Rep c ⟨fun _ => none, B.pin⟩ (erE ts ++ erE ρ) (vs ++ σ) (ρ.map dOnly) σ H := by
  obtain ⟨G, o1, o2, k, h1, h2⟩ := r
  exact ⟨G, o1 ++ o2, [], by rw [List.append_nil]; exact k.anyB, h1.er.app h2.er, h2.only⟩
end
end Fx
/-! min(xs, key=f, default=d) of a list; the keys can be compared -/
namespace Fx
open PySem PySem.Spec PyProof.Rows L2 PySem.SeqAt
open PySem.W (alike dataLt)
end Fx
/-! a lambda whose parameter is no name of the def, called for its key; min(xs, key=lambda a: body, default=d) -/
namespace Fx
open PySem PySem.Spec PyProof.Rows L2
open LamX (Tabs TabS TabB ExtN CodeO codeO_ne inv_table among_app lamCx lamEnv)
open PySem.W (AllAlike Sortable dataLe EachIs alike dataLt)
/-! ### on data -/
def ltK (a b : D) : Bool := dataLt (toP a) (toP b)
end Fx
/-! the rules that gen2 prints: an instance with a dict, d.get on any dict, range with a step -/
namespace Fx
open PySem PySem.Spec PyProof.Rows L2
open C8 (Cal Mak pe_c pe_mk)
end Fx
/-! the defs of networks and of their laws, on data -/
namespace Fx.Nw
open PySem PySem.Spec PyProof.Rows L2 Lib
end Fx.Nw
/-! networks on data: the element of a route -/
namespace Fx.Nw
open PySem Lib Nl
abbrev Lab := (Nat × Nat) × Nat
def mk (labs : List Lab) (p : Nat × Nat) : Option Nat := (labs.find? fun e => decide (p = e.1)).map (·.2)
structure Nt where
  ls : List Int
  ts : List (List (Option Int))
  ends : Nat
  size : Nat
  labs : List Lab
/-- the element of a route whose links are there -/
def val (N : Nt) : List Nat → Option Int
  | [] => none
  | a :: t => match t with
    | [] => none
    | b :: r => match r with
      | [] => Option.map (fun m : Nat => (m : Int)) (mk N.labs (a, b))
      | _ :: _ => match val N t, mk N.labs (a, b) with
        | some e, some f => match N.ts[f]? with
          | some tb => (tb[e.toNat]?).join
          | none => none
        | _, _ => none
def elem (N : Nt) (p : List Nat) : Option Int := if 2 ≤ p.length ∧ p.Nodup ∧ (p.getLast?.getD N.size) < N.ends then val N p else none
/-! ### what is read -/
end Fx.Nw
/-! networks on data: what a law tells of a route; ranks, their order -/
namespace Fx.Nw
open PySem Lib Nl
open PySem.W (dataLt alike)
end Fx.Nw
/-! networks on data: ranks, their order; the least of some routes -/
namespace Fx.Nw
open PySem Lib Nl
open PySem.W (dataLt alike keyToks)
open Fx.Lib
def negD (p : List Nat) : D := .tup (p.map fun v : Nat => D.int (-(v : Int)))
def lv (N : Nt) (p : List Nat) : Int := match val N p with
  | some e => N.ls.getD e.toNat 0
  | none => 0
def rkD (N : Nt) (p : List Nat) : D := .tup [.int (lv N p), negD p]
/-! ### the order of ranks -/
def ltR (N : Nt) (p q : List Nat) : Bool := ltK (rkD N p) (rkD N q)
/-- the least route of some -/
def leastR (N : Nt) (p : List Nat) (T : List (List Nat)) : List Nat := T.foldl (fun a y => if ltR N y a = true then y else a) p
def leastO (N : Nt) : List (List Nat) → Option (List Nat)
  | [] => none
  | p :: T => some (leastR N p T)
end Fx.Nw
/-! networks on data: offers, choices -/
namespace Fx.Nw
open PySem Lib Nl
open PySem.W (dataLt alike)
def cands (N : Nt) (u : Nat) (st : List (Option (List Nat))) : List (List Nat) := (List.range N.ends).map (fun t => [u, t]) ++ (st.filterMap id).map (u :: ·)
def cand (N : Nt) (u : Nat) (st : List (Option (List Nat))) : List (List Nat) := (cands N u st).filter fun p => (elem N p).isSome
end Fx.Nw
/-! networks on data: what a law chooses -/
namespace Fx.Nw
open PySem Lib Nl
open PySem.W (dataLt alike)
end Fx.Nw
/-! networks on data: drawn -/
namespace Fx.Nw
open PySem Lib Nl
end Fx.Nw
/-! networks on data: drawn, with their labels -/
namespace Fx.Nw
open PySem Lib Nl
structure LbOk (a t en sz : Nat) (labs : List Lab) (T K : Nat) : Prop where
  lab : ∀ e ∈ labs, en ≤ e.1.1 ∧ e.1.1 < sz ∧ e.1.2 < sz ∧ e.1.1 ≠ e.1.2 ∧ e.2 < (if e.1.2 < en then a else t)
  bef : ∀ e ∈ labs, e.1.1 < T ∨ (e.1.1 = T ∧ e.1.2 < K)
  asc : labs.Pairwise fun a b => a.1.1 < b.1.1 ∨ (a.1.1 = b.1.1 ∧ a.1.2 < b.1.2)
  len : labs.length ≤ (T - en) * (sz - 1) + (if T < K then K - 1 else K)
section
variable {a t en sz T K : Nat} {labs : List Lab}
theorem LbOk.skip (o : LbOk a t en sz labs T K) : LbOk a t en sz labs T (K + 1) := ⟨o.lab, fun e he => (by have := o.bef e he; omega), o.asc, by
  have := o.len
  split at this <;> split <;> omega⟩
theorem LbOk.next (o : LbOk a t en sz labs T sz) (h1 : en ≤ T) (h2 : T < sz) : LbOk a t en sz labs (T + 1) 0 := ⟨o.lab, fun e he => (by have := o.bef e he; omega), o.asc, by
  have := o.len
  rw [if_pos h2] at this
  rw [show T + 1 - en = (T - en) + 1 by omega, Nat.succ_mul]
  simp only [Nat.not_lt_zero, if_false]
  omega⟩
end
end Fx.Nw
/-! networks on data: made -/
namespace Fx.Nw
open PySem Lib Nl
/-! ### labels in another order -/
/-! ### a label -/
/-! ### a network -/
end Fx.Nw
/-! networks on data: a law's routes, any state -/
namespace Fx.Nw
open PySem Lib Nl
end Fx.Nw
namespace Fx.Nw
open PySem Lib Nl
/-! ### any state -/
end Fx.Nw
/-! networks on data: what a law's own def does with them -/
namespace Fx.Nw
open PySem Lib Nl
end Fx.Nw
/-! xs[lo:hi], xs a name's own list that stays the name's own -/
namespace Fx
open PySem PySem.Spec PyProof.Rows L2
end Fx
/-! networks on data: rounds by own choices -/
namespace Fx.Nw
open PySem Lib Nl
abbrev St := List (Option (List Nat))
def step (N : Nt) (st : St) : St := (List.range (N.size - N.ends)).map fun i => leastO N (cand N (N.ends + i) st)
/-! ### states as data -/
/-! ### rounds -/
end Fx.Nw
/-! stacks of labels on data: where packets can come -/
namespace Fx.Sk
open PySem Lib Nl Up
theorem nb_pk (x : Pk) : nb 2 (pkD x) = true := nb_tup fun d hd => by
  simp only [List.mem_cons, List.not_mem_nil, or_false] at hd
  rcases hd with rfl | rfl
  · rfl
  · exact nb_nl
theorem pk_inj {x y : Pk} (h : pkD x = pkD y) : x = y := by
  have h : D.tup [.int (x.1 : Nat), ntT x.2] = .tup [.int (y.1 : Nat), ntT y.2] := h
  simp only [D.tup.injEq, List.cons.injEq, and_true] at h
  obtain ⟨h1, h2⟩ := h
  simp only [D.int.injEq] at h1
  exact Prod.ext (Int.ofNat_inj.mp h1) (nl_inj h2)
theorem mem_pk {x : Pk} {P : List Pk} : pkD x ∈ P.map pkD ↔ x ∈ P := by
  rw [List.mem_map]
  exact ⟨fun ⟨y, h, e⟩ => pk_inj e ▸ h, fun h => ⟨x, h, rfl⟩⟩
theorem gNotIn_pk {x : Pk} {P : List Pk} : gNotIn (pkD x) (.lst (P.map pkD)) = some (.d (.bl (!decide (x ∈ P)))) := gNotIn_nb (n := 2) (m := 2) rfl (nb_pk x) (fun y hy => by
  obtain ⟨b, _, rfl⟩ := List.mem_map.mp hy
  exact nb_pk b) (by rw [decide_eq_true_iff]; exact mem_pk.symm)
/-- what is known of the places found -/
structure Pl (R : List Ru) (x0 : Pk) (P : List Pk) : Prop where
  snd : ∀ x ∈ P, ∃ ns, Run R x0 ns x
  own : x0 ∈ P
  few : P.length ≤ 301
  low : ∀ x ∈ P, x.2.length ≤ 20
  nd : P.Nodup
def Shut (R : List Ru) (P : List Pk) : Prop := ∀ x ∈ P, ∀ i y, stp R i x = some y → y ∈ P
section
variable {R : List Ru}
theorem stp_iff {x : Pk} {j : Nat} {r : Ru} (hj : R[j]? = some r) {y : Pk} : stp R j x = some y ↔ (r.1 = x.1 ∧ ∃ rest, x.2 = r.2.1 :: rest) ∧ y = (r.2.2.1, r.2.2.2 ++ x.2.tail) := by
  obtain ⟨n, l, a, put⟩ := r
  constructor
  · intro h
    obtain ⟨l', a', put', rest, h1, h2, rfl⟩ := stp_some h
    rw [hj] at h1
    cases h1
    exact ⟨⟨rfl, rest, h2⟩, by rw [h2]; rfl⟩
  · rintro ⟨⟨h1, rest, h2⟩, rfl⟩
    obtain ⟨p, st⟩ := x
    have h1 : n = p := h1
    have h2 : st = l :: rest := h2
    subst h1 h2
    exact stp_of hj
/-- does a rule apply -/
def app (r : Ru) (x : Pk) : Bool := decide (r.1 = x.1) && (!decide (x.2 = []) && decide (x.2.head? = some r.2.1))
theorem app_iff {x : Pk} {j : Nat} {r : Ru} (hj : R[j]? = some r) : app r x = true ↔ stp R j x = some (r.2.2.1, r.2.2.2 ++ x.2.tail) := by
  rw [stp_iff hj]
  unfold app
  obtain ⟨p, st⟩ := x
  cases st with
  | nil => simp
  | cons l rest => simp
/-- the inner loop: all rules at one place -/
theorem places_turn (O : ROk R) {x0 x : Pk} {deep : Nat} (hd : deep ≤ 20) {P : List Pk} {w : Bool} {k : Nat} {x1 x2 x9 x10 x11 x12 x13 : Option Fx.S} {PF : Fl → En → Prop} (hP : Pl R x0 P) (hx : x ∈ P)
    (q : ∀ Q w' x9 x10 x11 x12 x13, Pl R x0 (P ++ Q) → (w' = true → w = true ∧ ∀ i y, stp R i x = some y → y ∈ P ++ Q) → PF .nx [some (.d (rusD R)), x1, x2, some (.d (nD deep)), some (.o none (.lst ((P ++ Q).map pkD))), some (.d (.bl w')), some (.d (nD k)), some (.d (nD x.1)), some (.d (ntT x.2)), x9, x10, x11, x12, x13]) :
    OK (mFor (iSeq (mVar 0)) (gmTup 4 (gmCons (gmName 9) (gmCons (gmName 10) (gmCons (gmName 11) (gmCons (gmName 12) gmNil))))) (mIfS (mAnd (mTest (mOp gEq (mVar 9) (mVar 7))) (mAnd (mTest (mOp gNe (mVar 8) (mTup aNil))) (mTest (mOp gEq (mOp gIx (mVar 8) (mC (.int 0))) (mVar 10))))) (mSeq (mAsg (mTup (aCons (mVar 11) (aCons (mOp gAdd (mVar 12) (mSl (mVar 8) (oSome (mC (.int 1))) oNone)) aNil))) (gmName 13))
    (mIfS (mOr (mTest (mOp gGt (mCB gLen (aCons (mOp gIx (mVar 13) (mC (.int 1))) aNil)) (mVar 3))) (mTest (mOp gGt (mLenO 4) (mC (.int 300))))) (mAsg (mC (.bl false)) (gmName 5)) (mIfS (mTest (mOpR gNotIn (mVar 13) 4)) (mDrop (mMeth1 4 gApp (mVar 13))) mNx))) mNx)
    [some (.d (rusD R)), x1, x2, some (.d (nD deep)), some (.o none (.lst (P.map pkD))), some (.d (.bl w)), some (.d (nD k)), some (.d (nD x.1)), some (.d (ntT x.2)), x9, x10, x11, x12, x13]) PF := by
  refine forG (emb := ruD) (ls := R) (I := fun j ρ => ∃ Q w' x9 x10 x11 x12 x13, ρ = [some (.d (rusD R)), x1, x2, some (.d (nD deep)), some (.o none (.lst ((P ++ Q).map pkD))), some (.d (.bl w')), some (.d (nD k)), some (.d (nD x.1)), some (.d (ntT x.2)), x9, x10, x11, x12, x13] ∧ Pl R x0 (P ++ Q) ∧ (w' = true → w = true ∧ ∀ i y, i < j → stp R i x = some y → y ∈ P ++ Q)) (ei_seq (ev_var (x := rusD R) 0 rfl) rfl) ⟨[], w, x9, x10, x11, x12, x13, by rw [List.append_nil], by rw [List.append_nil]; exact hP, fun h => ⟨h, fun i y z => by omega⟩⟩ ?_ ?_
  · rintro j r ρ hj ⟨Q, w', x9, x10, x11, x12, x13, rfl, hQ, hw⟩
    refine ⟨_, ok_gtup4 rfl, ?_⟩
    simp only [List.set_cons_succ, List.set_cons_zero]
    obtain ⟨ρ0, h0⟩ : ∃ ρ0 : En, ρ0 = [some (.d (rusD R)), x1, x2, some (.d (nD deep)), some (.o none (.lst ((P ++ Q).map pkD))), some (.d (.bl w')), some (.d (nD k)), some (.d (nD x.1)), some (.d (ntT x.2)), some (.d (nD r.1)), some (.d (nD r.2.1)), some (.d (nD r.2.2.1)), some (.d (ntT r.2.2.2)), x13] := ⟨_, rfl⟩
    have v7 : Ev (mVar 7) ρ0 (nD x.1) := by rw [h0]; exact ev_var 7 rfl
    have v8 : Ev (mVar 8) ρ0 (ntT x.2) := by rw [h0]; exact ev_var 8 rfl
    have v9 : Ev (mVar 9) ρ0 (nD r.1) := by rw [h0]; exact ev_var 9 rfl
    have v10 : Ev (mVar 10) ρ0 (nD r.2.1) := by rw [h0]; exact ev_var 10 rfl
    have v11 : Ev (mVar 11) ρ0 (nD r.2.2.1) := by rw [h0]; exact ev_var 11 rfl
    have v12 : Ev (mVar 12) ρ0 (ntT r.2.2.2) := by rw [h0]; exact ev_var 12 rfl
    have p2 := O.put _ (List.mem_of_getElem? hj)
    have t1 : Ev (mOp gEq (mVar 9) (mVar 7)) ρ0 (.bl (decide (r.1 = x.1))) := by
      have := ev_eq v9 v7
      rw [show decide ((r.1 : Int) = (x.1 : Int)) = decide (r.1 = x.1) from decide_eq_decide.mpr Int.ofNat_inj] at this
      exact this
    have t2 : Ev (mOp gNe (mVar 8) (mTup aNil)) ρ0 (.bl (!decide (x.2 = []))) := ev_op v8 (ev_tup (xs := nl []) ea_nil) (gNe_nb (b := decide (x.2 = [])) nb_nl nb_nl (by
      rw [decide_eq_true_iff]
      exact ⟨fun h => by rw [h], fun h => nl_inj (D.tup.inj h)⟩))
    have ct : EvB (mAnd (mTest (mOp gEq (mVar 9) (mVar 7))) (mAnd (mTest (mOp gNe (mVar 8) (mTup aNil))) (mTest (mOp gEq (mOp gIx (mVar 8) (mC (.int 0))) (mVar 10))))) ρ0 (app r x) := by
      refine eb_and (eb_test t1) fun _ => eb_and (eb_test t2) fun h => ?_
      cases hs : x.2 with
      | nil => rw [hs] at h; cases h
      | cons l rest =>
        rw [hs] at v8
        have t3 := ev_eq (ev_ixT (i := 0) (x := nD l) v8 ev_c rfl) v10
        rw [show decide ((l : Int) = (r.2.1 : Int)) = decide ((l :: rest).head? = some r.2.1) from decide_eq_decide.mpr ⟨fun h => congrArg some (Int.ofNat_inj.mp h), fun h => Int.ofNat_inj.mpr (Option.some.inj h)⟩] at t3
        exact eb_test t3
    have next : ∀ {w2 : Bool} {Q2 : List Pk}, (w2 = true → w' = true) → (∀ y, stp R j x = some y → w2 = true → y ∈ P ++ Q2) → (∀ y ∈ P ++ Q, y ∈ P ++ Q2) → (w2 = true → w = true ∧ ∀ i y, i < j + 1 → stp R i x = some y → y ∈ P ++ Q2) := fun h1 h2 h3 h4 => ⟨(hw (h1 h4)).1, fun i y hi hs => by
      by_cases hij : i < j
      · exact h3 _ ((hw (h1 h4)).2 i y hij hs)
      · have : i = j := by omega
        subst this
        exact h2 y hs h4⟩
    rw [← h0]
    refine ifB ct (fun hc => ?_) fun hc => ?_
    · have hs := (app_iff hj).mp hc
      have sl := stp_len O hs
      have xl := hP.low x hx
      have pt := ev_put v12 v8 (by omega)
      have tp : Ev (mTup (aCons (mVar 11) (aCons (mOp gAdd (mVar 12) (mSl (mVar 8) (oSome (mC (.int 1))) oNone)) aNil))) ρ0 (pkD (r.2.2.1, r.2.2.2 ++ x.2.tail)) := ev_tup (ea_cons v11 (ea_cons pt ea_nil))
      obtain ⟨y, hy⟩ : ∃ y : Pk, y = (r.2.2.1, r.2.2.2 ++ x.2.tail) := ⟨_, rfl⟩
      rw [← hy] at hs sl tp
      clear pt
      refine sq (asg tp ⟨rfl, ?_⟩)
      rw [h0]
      simp only [List.set_cons_succ, List.set_cons_zero]
      obtain ⟨ρ1, h1⟩ : ∃ ρ1 : En, ρ1 = [some (.d (rusD R)), x1, x2, some (.d (nD deep)), some (.o none (.lst ((P ++ Q).map pkD))), some (.d (.bl w')), some (.d (nD k)), some (.d (nD x.1)), some (.d (ntT x.2)), some (.d (nD r.1)), some (.d (nD r.2.1)), some (.d (nD r.2.2.1)), some (.d (ntT r.2.2.2)), some (.d (pkD y))] := ⟨_, rfl⟩
      have u3 : Ev (mVar 3) ρ1 (nD deep) := by rw [h1]; exact ev_var 3 rfl
      have u13 : Ev (mVar 13) ρ1 (pkD y) := by rw [h1]; exact ev_var 13 rfl
      have l1 := ev_gt (lenN (L := y.2) (ev_ixT (i := 1) (x := ntT y.2) u13 ev_c rfl)) u3
      have e4 : ρ1[4]? = some (some (.o none (.lst ((P ++ Q).map pkD)))) := by rw [h1]; rfl
      have l2 := ev_gt (lenO (i := 4) (ρ := ρ1) (xs := (P ++ Q).map pkD) (by unfold peek; rw [e4])) (ev_c (x := .int 300))
      rw [← h1]
      refine ifB (eb_or (eb_test l1) fun _ => eb_test l2) (fun hb => ?_) fun hb => ?_
      · refine asg ev_c ⟨fun _ => ⟨Q, false, some (.d (nD r.1)), some (.d (nD r.2.1)), some (.d (nD r.2.2.1)), some (.d (ntT r.2.2.2)), some (.d (pkD y)), by rw [h1]; rfl, hQ, fun z => (nomatch z)⟩, fun z => (nomatch z), fun s z => (nomatch z)⟩
      · rw [Bool.or_eq_false_iff] at hb
        have b1 := of_decide_eq_false hb.1
        have b2 := of_decide_eq_false hb.2
        rw [List.length_map] at b2
        have nin := opR (g := gNotIn) (t := !decide (y ∈ P ++ Q)) e4 rfl u13 gNotIn_pk
        refine ifB (eb_test nin) (fun hn => ?_) fun hn => ?_
        · refine appE e4 u13 (by rw [List.length_map]; omega) ⟨fun _ => ⟨Q ++ [y], w', some (.d (nD r.1)), some (.d (nD r.2.1)), some (.d (nD r.2.2.1)), some (.d (ntT r.2.2.2)), some (.d (pkD y)), ?_, ?_, next (fun h => h) (fun y' h _ => ?_) fun y' h => ?_⟩, fun z => (nomatch z), fun s z => (nomatch z)⟩
          · rw [h1, ← List.append_assoc, List.map_append (l₁ := P ++ Q)]
            rfl
          · rw [← List.append_assoc]
            refine ⟨fun z hz => ?_, List.mem_append_left _ hQ.own, by rw [List.length_append]; simp at b2 ⊢; omega, fun z hz => ?_, ?_⟩
            · rcases List.mem_append.mp hz with hz | hz
              · exact hQ.snd z hz
              · rw [List.mem_singleton.mp hz]
                obtain ⟨ns, hr⟩ := hP.snd x hx
                exact ⟨_, hr.app (.cons hs .nil)⟩
            · rcases List.mem_append.mp hz with hz | hz
              · exact hQ.low z hz
              · rw [List.mem_singleton.mp hz]
                omega
            · refine List.nodup_append.mpr ⟨hQ.nd, by simp, fun z hz z' hz' e => ?_⟩
              rw [List.mem_singleton.mp hz'] at e
              subst e
              rw [decide_eq_true hz] at hn
              cases hn
          · rw [hs] at h
            cases h
            rw [← List.append_assoc]
            exact List.mem_append_right _ (List.mem_singleton.mpr rfl)
          · rw [← List.append_assoc]
            exact List.mem_append_left _ h
        · rw [ok_nx]
          refine ⟨fun _ => ⟨Q, w', some (.d (nD r.1)), some (.d (nD r.2.1)), some (.d (nD r.2.2.1)), some (.d (ntT r.2.2.2)), some (.d (pkD y)), by rw [h1], hQ, next (fun h => h) (fun y' h _ => ?_) fun _ h => h⟩, fun z => (nomatch z), fun s z => (nomatch z)⟩
          rw [hs] at h
          cases h
          exact Decidable.byContradiction fun z => by
            rw [decide_eq_false z] at hn
            cases hn
    · rw [ok_nx]
      refine ⟨fun _ => ⟨Q, w', some (.d (nD r.1)), some (.d (nD r.2.1)), some (.d (nD r.2.2.1)), some (.d (ntT r.2.2.2)), x13, by rw [h0], hQ, next (fun h => h) (fun y' h _ => ?_) fun _ h => h⟩, fun z => (nomatch z), fun s z => (nomatch z)⟩
      obtain ⟨g1, rfl⟩ := (stp_iff hj).mp h
      rw [(app_iff hj).mpr h] at hc
      cases hc
  · rintro ρ ⟨Q, w', x9, x10, x11, x12, x13, rfl, hQ, hw⟩
    refine q Q w' x9 x10 x11 x12 x13 hQ fun h => ⟨(hw h).1, fun i y hs => ?_⟩
    refine (hw h).2 i y ?_ hs
    obtain ⟨l, a, put, rest, h1, _⟩ := stp_some hs
    exact (List.getElem?_eq_some_iff.mp h1).1
theorem eg_spot {ρ : En} {i j k : Nat} {x : Pk} {y : D} : EvG (gmTup 2 (gmCons (gmTup 2 (gmCons (gmName i) (gmCons (gmName j) gmNil))) (gmCons (gmName k) gmNil))) (.tup [pkD x, y]) ρ (((ρ.set i (some (.d (nD x.1)))).set j (some (.d (ntT x.2)))).set k (some (.d y))) := by
  unfold EvG
  exact ok_of rfl
theorem places_ok (O : ROk R) {n deep : Nat} {st : List Nat} (hd : deep ≤ 20) (hs : st.length ≤ 20) : OKF (f_law_places [.d (rusD R), .d (nD n), .d (ntT st), .d (nD deep)]) fun s => ∃ P w, s = .d (.tup [.lst (P.map pkD), .bl w]) ∧ Pl R (n, st) P ∧ (w = true → Shut R P) := by
  unfold f_law_places
  refine okF_runF.mpr ⟨rfl, ?_⟩
  show OK (b_law_places [some (.d (rusD R)), some (.d (nD n)), some (.d (ntT st)), some (.d (nD deep)), none, none, none, none, none, none, none, none, none, none]) _
  unfold b_law_places
  refine sq (ok_par3 ?_)
  rw [ok_psCons, ok_lst]
  refine (ea_cons (ev_tup (ea_cons (ev_var (x := nD n) 1 rfl) (ea_cons (ev_var (x := ntT st) 2 rfl) ea_nil))) ea_nil).ok ⟨rfl, ?_⟩
  rw [ok_psCons]
  refine (ev_c (x := .bl true)).raw.imp fun s1 ρ1 ⟨e1, e1'⟩ => ?_
  subst e1'
  rw [ok_psCons]
  refine (ev_c (x := .int 0)).raw.imp fun s2 ρ2 ⟨e2, e2'⟩ => ?_
  subst e2'
  rw [ok_psNil]
  rw [toD_back e1 rfl, toD_back e2 rfl]
  refine ⟨_, _, _, .o none (.lst [pkD (n, st)]), .d (.bl true), .d (nD 0), rfl, rfl, rfl, rfl, rfl, ?_⟩
  simp only [List.set_cons_succ, List.set_cons_zero]
  refine sq (ok_while (I := fun m ρ => ∃ (P : List Pk) (w : Bool) (k : Nat) (x7 x8 x9 x10 x11 x12 x13 : Option Fx.S), ρ = [some (.d (rusD R)), some (.d (nD n)), some (.d (ntT st)), some (.d (nD deep)), some (.o none (.lst (P.map pkD))), some (.d (.bl w)), some (.d (nD k)), x7, x8, x9, x10, x11, x12, x13] ∧ Pl R (n, st) P ∧ k ≤ P.length ∧ (w = true → ∀ j x, j < k → P[j]? = some x → ∀ i y, stp R i x = some y → y ∈ P) ∧ m = 302 - k) (m := 302) ?_ (by omega) ⟨[(n, st)], true, 0, none, none, none, none, none, none, none, rfl, ⟨fun x hx => ⟨[], by rw [List.mem_singleton.mp hx]; exact .nil⟩, List.mem_singleton.mpr rfl, by simp, fun x hx => (by rw [List.mem_singleton.mp hx]; exact hs), by simp⟩, by simp, fun _ j x z => by omega, rfl⟩)
  rintro m ρ ⟨P, w, k, x7, x8, x9, x10, x11, x12, x13, rfl, hP, hk, hw, rfl⟩
  have l1 := ev_lt (ev_var (x := nD k) 6 (ρ := [some (.d (rusD R)), some (.d (nD n)), some (.d (ntT st)), some (.d (nD deep)), some (.o none (.lst (P.map pkD))), some (.d (.bl w)), some (.d (nD k)), x7, x8, x9, x10, x11, x12, x13]) rfl) (lenO (i := 4) (xs := P.map pkD) rfl)
  refine (eb_test l1).ok ⟨fun hb => ?_, fun hb => ?_⟩
  · have hb := of_decide_eq_true hb
    rw [List.length_map] at hb
    have hkl : k < P.length := by omega
    obtain ⟨x, hx⟩ : ∃ x, P[k]? = some x := ⟨_, List.getElem?_eq_getElem hkl⟩
    have g0 := ev_ixO (i := 4) (k := k) (x := pkD x) (b := none) (ds := P.map pkD) (ρ := [some (.d (rusD R)), some (.d (nD n)), some (.d (ntT st)), some (.d (nD deep)), some (.o none (.lst (P.map pkD))), some (.d (.bl w)), some (.d (nD k)), x7, x8, x9, x10, x11, x12, x13]) rfl (ev_var (x := nD k) 6 rfl) (by rw [List.getElem?_map, hx]; rfl)
    have g1 := ev_op (z := nD (k + 1)) (ev_var (x := nD k) 6 (ρ := [some (.d (rusD R)), some (.d (nD n)), some (.d (ntT st)), some (.d (nD deep)), some (.o none (.lst (P.map pkD))), some (.d (.bl w)), some (.d (nD k)), x7, x8, x9, x10, x11, x12, x13]) rfl) (ev_c (x := .int 1)) (g := gAdd) rfl
    refine sq ?_
    rw [ok_asg]
    refine (ev_tup (ea_cons g0 (ea_cons g1 ea_nil))).dv ?_
    refine eg_spot.ok ⟨rfl, ?_⟩
    simp only [List.set_cons_succ, List.set_cons_zero]
    refine places_turn O hd hP (List.mem_of_getElem? hx) fun Q w' x9 x10 x11 x12 x13 hQ hw' => ⟨rfl, 302 - (k + 1), by have := hP.few; omega, P ++ Q, w', k + 1, some (.d (nD x.1)), some (.d (ntT x.2)), x9, x10, x11, x12, x13, rfl, hQ, by rw [List.length_append]; omega, fun h j z hj hz i y hs => ?_, rfl⟩
    obtain ⟨h1, h2⟩ := hw' h
    rw [List.getElem?_append_left (by omega)] at hz
    by_cases hjk : j < k
    · exact List.mem_append_left _ (hw h1 j z hjk hz i y hs)
    · have : j = k := by omega
      subst this
      rw [hx] at hz
      cases hz
      exact h2 i y hs
  · have hb : ¬ ((k : Int) < ((P.map pkD).length : Nat)) := fun z => hb (decide_eq_true z)
    rw [List.length_map] at hb
    refine ⟨rfl, ?_⟩
    rw [ok_ret, ok_tup, ok_cons, ok_dv]
    refine ok_varZ (i := 4) (x := .lst (P.map pkD)) rfl rfl ⟨_, rfl, ?_⟩
    simp only [List.set_cons_succ, List.set_cons_zero]
    rw [ok_cons]
    refine (ev_var (x := .bl w) 5 rfl).dv ?_
    rw [ok_nil]
    refine ⟨rfl, .inl ⟨_, rfl, P, w, rfl, hP, fun h x hx i y hs => ?_⟩⟩
    obtain ⟨j, hj⟩ := List.mem_iff_getElem?.mp hx
    have := (List.getElem?_eq_some_iff.mp hj).1
    exact hw h j x (by omega) hj i y hs
/-! ### run -/
end
end Fx.Sk
/-! stacks of labels: what the laws have in common -/
namespace Fx.Sk
open PySem Lib Nl Up
theorem ei_rangeN {ρ : En} {fA : Fx.M (List D)} {n : Nat} (h : EvA fA ρ [.int (n : Nat)]) (hn : n ≤ 1000) : EvI (iRange1 fA) ρ ((List.range n).map nD) := by
  unfold EvI
  refine range1 h (by omega) ⟨?_, rfl⟩
  have : ∀ n : Nat, ∀ lo : Nat, intsFrom (lo : Nat) n = (List.range n).map fun k : Nat => D.int ((lo + k : Nat) : Int) := by
    intro n
    induction n with
    | zero => intro lo; rfl
    | succ n ih =>
      intro lo
      have h1 := ih (lo + 1)
      rw [List.range_succ_eq_map]
      show D.int (lo : Nat) :: intsFrom ((lo : Int) + 1) n = _
      rw [show ((lo : Int) + 1) = ((lo + 1 : Nat) : Int) by omega, h1, List.map_cons, List.map_map]
      congr 1
      refine List.map_inj_left.mpr fun k _ => ?_
      show D.int ((lo + 1 + k : Nat) : Int) = D.int ((lo + (k + 1) : Nat) : Int)
      congr 2
      omega
  have h0 := this n 0
  rw [show intsFrom 0 n = intsFrom ((0 : Nat) : Int) n from rfl, h0]
  refine List.map_inj_left.mpr fun k _ => ?_
  rw [Nat.zero_add]
theorem tkS {ρ : En} {r : Nat} {o : Option Nat} {fm : Fx.M Fx.S} {a c d : Int} {ns : List Int} {m : Nat} {P : Fx.S → En → Prop} (e : ρ[r]? = some (rowS o ns a c d)) (hr : RowOk a c d) (hm : Ev fm ρ (.int (m : Nat))) (h1 : 0 < m) (h2 : m ≤ 1000000)
    (q : ∀ (v : Nat) a c d, v < m → RowOk a c d → P (.d (.int (v : Nat))) (ρ.set r (rowS o ns a c d))) : OK (mCallO Lib.f_law_taken r 0 (aOwn r (aCons fm aNil)) ρ) P := by
  refine ok_taken e hr (hm.dv ⟨rfl, rfl⟩) (by omega) (by omega) fun v a c d v0 v1 h => ?_
  have := q v.toNat a c d (by omega) h
  rw [Int.toNat_of_nonneg v0] at this
  exact this
section
variable {R : List Ru}
theorem shut_all {P : List Pk} (h : Shut R P) {x y : Pk} {ns : List Nat} (hr : Run R x ns y) (hx : x ∈ P) : y ∈ P := by
  induction hr with
  | nil => exact hx
  | cons g _ ih => exact ih (h _ hx _ _ g)
/-- the nodes with no label left -/
def done (P : List Pk) : List Nat := (P.filter fun x => decide (x.2 = [])).map (·.1)
end
end Fx.Sk
/-! stacks of labels: tops that can come (no data) -/
namespace Fx.Sk
abbrev Tp := Nat × Nat
abbrev Ent := Nat × Tp × Tr
def tps (W : Ln) (a : Nat) (st : List Nat) : List Ent := (List.range st.length).flatMap fun k => (drn W a (st.take k)).map fun e => (e.2.1, (e.1, st.getD k 0), e.2.2)
def nx1 (W : Ln) (t : Tp) (i : Nat) (r : Ru) : List Ent := if (r.1, r.2.1) = t then (tps W r.2.2.1 r.2.2.2).map fun e => (e.1 + 1, e.2.1, It.r i :: e.2.2) else []
def nxs (R : List Ru) (W : Ln) (t : Tp) (n : Nat) : List Ent := (List.range n).flatMap fun i => match R[i]? with
  | some r => nx1 W t i r
  | none => []
section
variable {R : List Ru} {F : Wy Ky} {x y z : Pk} {i a p l d : Nat} {put rest st ns ms : List Nat} {its its' tr : Tr} {ks : List Ky} {t : Tp} {e : Ent}
theorem Leads.app (h : Leads R F its x y) (k : Leads R F its' y z) : Leads R F (its ++ its') x z := by
  induction h with
  | nil => exact k
  | r g _ ih => exact .r g (ih k)
  | k g _ ih => exact .k g (ih k)
theorem take_at {st : List Nat} {k : Nat} (h : k < st.length) : st = st.take k ++ (st.getD k 0 :: st.drop (k + 1)) := by
  conv => lhs; rw [← List.take_append_drop k st, List.drop_eq_getElem_cons h]
  rw [List.getD_eq_getElem?_getD, List.getElem?_eq_getElem h]
  rfl
theorem tps_of (G : Good R F) (h : e ∈ tps (lenW F) a st) : ∃ k ks, k < st.length ∧ e.2.1.2 = st.getD k 0 ∧ e.2.2 = ks.map It.k ∧ Chain (lenW F) a (st.take k) ks e.2.1.1 e.1 := by
  unfold tps at h
  obtain ⟨k, hk, h⟩ := List.mem_flatMap.mp h
  obtain ⟨f, hf, rfl⟩ := List.mem_map.mp h
  have dr := drn_ok (W := lenW F) (a := a) (ls := st.take k) G.h8
  obtain ⟨ks, h1, h2⟩ := dr.snd _ _ (mem_getY dr.nd (show (f.1, f.2) ∈ _ from hf))
  exact ⟨k, ks, List.mem_range.mp hk, rfl, h1, h2⟩
theorem tps_low (G : Good R F) (ha : a < 8) (h : e ∈ tps (lenW F) a st) : e.2.1.1 < 8 := by
  unfold tps at h
  obtain ⟨k, hk, h⟩ := List.mem_flatMap.mp h
  obtain ⟨f, hf, rfl⟩ := List.mem_map.mp h
  have dr := drn_ok (W := lenW F) (a := a) (ls := st.take k) G.h8
  exact drn_low ha G.h8 (mem_getY dr.nd (show (f.1, f.2) ∈ _ from hf))
theorem of_tps (G : Good R F) {k s : Nat} (hk : k < st.length) (h : Chain (lenW F) a (st.take k) ks p s) : ∃ e ∈ tps (lenW F) a st, e.2.1 = (p, st.getD k 0) := by
  have dr := drn_ok (W := lenW F) (a := a) (ls := st.take k) G.h8
  obtain ⟨x, h1, _⟩ := dr.min _ _ _ h
  refine ⟨(x.1, (p, st.getD k 0), x.2), ?_, rfl⟩
  unfold tps
  exact List.mem_flatMap.mpr ⟨k, List.mem_range.mpr hk, List.mem_map.mpr ⟨(p, x), getY_mem h1, rfl⟩⟩
theorem tps_leads (h1 : Chain (lenW F) a (st.take i) ks p d) (hk : i < st.length) : Leads R F (ks.map It.k) (a, st ++ rest) (p, st.getD i 0 :: (st.drop (i + 1) ++ rest)) := by
  have e : st ++ rest = st.take i ++ (st.getD i 0 :: (st.drop (i + 1) ++ rest)) := by
    conv => lhs; rw [take_at hk]
    rw [List.append_assoc]
    rfl
  rw [e]
  have := Leads.chain (R := R) (its := []) (rest := st.getD i 0 :: (st.drop (i + 1) ++ rest)) (z := (p, st.getD i 0 :: (st.drop (i + 1) ++ rest))) h1 .nil
  rw [List.append_nil] at this
  exact this
theorem mem_nxs {n : Nat} : e ∈ nxs R (lenW F) t n ↔ ∃ i r, i < n ∧ R[i]? = some r ∧ (r.1, r.2.1) = t ∧ ∃ f ∈ tps (lenW F) r.2.2.1 r.2.2.2, e = (f.1 + 1, f.2.1, It.r i :: f.2.2) := by
  unfold nxs
  rw [List.mem_flatMap]
  constructor
  · rintro ⟨i, hi, h⟩
    cases hr : R[i]? with
    | none => rw [hr] at h; cases h
    | some r =>
      rw [hr] at h
      have h : e ∈ nx1 (lenW F) t i r := h
      unfold nx1 at h
      split at h
      · rename_i q
        obtain ⟨f, hf, rfl⟩ := List.mem_map.mp h
        exact ⟨i, r, List.mem_range.mp hi, hr, q, f, hf, rfl⟩
      · cases h
  · rintro ⟨i, r, hi, hr, q, f, hf, rfl⟩
    refine ⟨i, List.mem_range.mpr hi, ?_⟩
    rw [hr]
    show _ ∈ nx1 (lenW F) t i r
    unfold nx1
    rw [if_pos q]
    exact List.mem_map.mpr ⟨f, hf, rfl⟩
theorem nxs_succ {n : Nat} {r : Ru} (h : R[n]? = some r) {W : Ln} : nxs R W t (n + 1) = nxs R W t n ++ nx1 W t n r := by
  unfold nxs
  rw [List.range_succ, List.flatMap_append]
  congr 1
  rw [List.flatMap_cons, h]
  simp
/-! ### how long trails are -/
def wgt (R : List Ru) (r : Ru) : Nat := if r.2.2.2.length = 0 then 0 else if r.2.2.2.length = 1 then 1 else 1 + top R
def wgI (R : List Ru) (i : Nat) : Nat := ((R[i]?).map (wgt R)).getD 0
theorem chain_top (O : ROk R) (G : Good R F) (X : Fix R F) : ∀ {st : List Nat} {a e s : Nat} {ks : List Ky}, Chain (lenW F) a st ks e s → s ≤ st.length * top R
  | _, _, _, _, _, .nil => by simp
  | _, _, _, _, _, .cons g h => by
    have := chain_top O G X h
    obtain ⟨t, g⟩ := of_lenW g
    have := le_top O G X g
    rw [List.length_cons, Nat.add_mul]
    omega
/-- one step more: what it adds -/
theorem nx_step (O : ROk R) (G : Good R F) (X : Fix R F) {r : Ru} (hr : R[i]? = some r) {f : Ent} (hf : f ∈ tps (lenW F) r.2.2.1 r.2.2.2) : sz F (It.r i :: f.2.2) ≤ wgI R i ∧ (It.r i :: f.2.2).length ≤ 2 ∧ (∃ q, (∀ rest, Leads R F (It.r i :: f.2.2) (r.1, r.2.1 :: rest) (f.2.1.1, f.2.1.2 :: (q ++ rest))) ∧ q.length ≤ 1) ∧ f.2.1.2 ∈ r.2.2.2 ∧ f.2.1.1 < 8 := by
  have hm := List.mem_of_getElem? hr
  have p2 := O.put _ hm
  have ha : r.2.2.1 < 8 := by have := O.aft _ hm; omega
  obtain ⟨k, ks, hk, h1, h2, h3⟩ := tps_of G hf
  have c1 := (chain_sz h3).1
  have c2 := chain_top O G X h3
  have c3 := h3.len
  rw [List.length_take] at c2 c3
  have e1 : wgI R i = wgt R r := by
    unfold wgI
    rw [hr]
    rfl
  refine ⟨?_, ?_, ⟨r.2.2.2.drop (k + 1), fun rest => ?_, ?_⟩, ?_, tps_low G ha hf⟩
  · rw [sz_cons, h2, c1, e1]
    show 1 + _ ≤ _
    unfold wgt
    rw [if_neg (by omega)]
    split
    · have : min k r.2.2.2.length = 0 := by omega
      rw [this] at c2
      omega
    · have : min k r.2.2.2.length ≤ 1 := by omega
      have : min k r.2.2.2.length * top R ≤ 1 * top R := Nat.mul_le_mul_right _ this
      omega
  · rw [List.length_cons, h2, List.length_map]
    omega
  · rw [h1]
    refine .r (stp_of (rest := rest) (show R[i]? = some (r.1, r.2.1, r.2.2.1, r.2.2.2) from hr)) ?_
    rw [h2]
    exact tps_leads h3 hk
  · rw [List.length_drop]
    omega
  · rw [h1, List.getD_eq_getElem?_getD, List.getElem?_eq_getElem hk]
    exact List.getElem_mem hk
theorem sum_perm {L M : List Nat} (h : L.Perm M) : L.sum = M.sum := by
  induction h with
  | nil => rfl
  | cons x _ ih => rw [List.sum_cons, List.sum_cons, ih]
  | swap x y l => simp only [List.sum_cons]; omega
  | trans _ _ h1 h2 => exact h1.trans h2
theorem sum_sub {g : Nat → Nat} : ∀ {U L : List Nat}, U.Nodup → (∀ x ∈ U, x ∈ L) → (U.map g).sum ≤ (L.map g).sum
  | [], _, _, _ => Nat.zero_le _
  | x :: U, L, nd, h => by
    rw [List.nodup_cons] at nd
    have pm := List.perm_cons_erase (h x List.mem_cons_self)
    have := sum_sub (g := g) (U := U) (L := L.erase x) nd.2 fun y hy => by
      have hne : y ≠ x := fun z => nd.1 (z ▸ hy)
      exact (List.mem_erase_of_ne hne).mpr (h y (List.mem_cons_of_mem _ hy))
    rw [sum_perm (pm.map g), List.map_cons, List.sum_cons, List.map_cons, List.sum_cons]
    omega
theorem wgt_sum {D : Nat} : ∀ {R : List Ru}, (R.map fun r : Ru => if r.2.2.2.length = 0 then 0 else if r.2.2.2.length = 1 then 1 else 1 + D).sum ≤ (R.filter fun r => decide (r.2.2.2.length = 1)).length + (R.filter fun r => decide (r.2.2.2.length ≠ 0 ∧ r.2.2.2.length ≠ 1)).length * (1 + D)
  | [] => by simp
  | r :: R => by
    have := wgt_sum (D := D) (R := R)
    rw [List.map_cons, List.sum_cons, List.filter_cons, List.filter_cons]
    by_cases h0 : r.2.2.2.length = 0
    · simp [h0]; simp at this; omega
    · by_cases h1 : r.2.2.2.length = 1
      · simp [h1]; simp at this; omega
      · simp [h0, h1, Nat.add_mul]; simp at this; omega
theorem wgI_all (O : ROk R) : ((List.range R.length).map (wgI R)).sum ≤ sj R 1 + sj R 2 * (1 + top R) := by
  have e : (List.range R.length).map (wgI R) = R.map (wgt R) := by
    apply List.ext_getElem?
    intro i
    rw [List.getElem?_map, List.getElem?_map]
    by_cases h : i < R.length
    · rw [List.getElem?_range h, List.getElem?_eq_getElem h]
      show some (((R[i]?).map (wgt R)).getD 0) = _
      rw [List.getElem?_eq_getElem h]
      rfl
    · rw [List.getElem?_eq_none (by simpa using Nat.le_of_not_lt h), List.getElem?_eq_none (Nat.le_of_not_lt h)]
      rfl
  have h := wgt_sum (D := top R) (R := R)
  have e2 : (R.filter fun r => decide (r.2.2.2.length ≠ 0 ∧ r.2.2.2.length ≠ 1)).length = sj R 2 := by
    unfold sj
    congr 1
    refine List.filter_congr fun r hr => decide_eq_decide.mpr ?_
    have := O.put r hr
    omega
  rw [e2] at h
  rw [e]
  exact h
/-- an entry of the waiting list: where its trail leads, and how long it is; K: the tops that were extended -/
def EnOk (R : List Ru) (F : Wy Ky) (x0 : Pk) (b0 n0 r0 : Nat) (K : List Tp) (e : Ent) : Prop := ∃ (rest U : List Nat), Leads R F e.2.2 x0 (e.2.1.1, e.2.1.2 :: rest) ∧ U.Nodup ∧ (∀ i ∈ U, ∃ r, R[i]? = some r ∧ (r.1, r.2.1) ∈ K) ∧
  sz F e.2.2 ≤ b0 + (U.map (wgI R)).sum ∧ e.2.2.length ≤ n0 + 2 * U.length ∧ rest.length ≤ r0 + U.length ∧ e.2.1.1 < 8 ∧ e.2.1.2 < 6
theorem EnOk.grow {x0 : Pk} {b0 n0 r0 : Nat} {K : List Tp} (h : EnOk R F x0 b0 n0 r0 K e) {t : Tp} : EnOk R F x0 b0 n0 r0 (K ++ [t]) e := by
  obtain ⟨rest, U, h1, h2, h3, h4⟩ := h
  exact ⟨rest, U, h1, h2, fun i hi => by
    obtain ⟨r, q1, q2⟩ := h3 i hi
    exact ⟨r, q1, List.mem_append_left _ q2⟩, h4⟩
theorem EnOk.next (O : ROk R) (h5 : ∀ r ∈ R, ∀ x ∈ r.2.2.2, x < 6) (G : Good R F) (X : Fix R F) {x0 : Pk} {b0 n0 r0 : Nat} {K : List Tp} (h : EnOk R F x0 b0 n0 r0 K e) (hK : e.2.1 ∉ K) {n : Nat} {f : Ent} (hf : f ∈ nxs R (lenW F) e.2.1 n) :
    EnOk R F x0 b0 n0 r0 (K ++ [e.2.1]) (e.1 + f.1, f.2.1, e.2.2 ++ f.2.2) := by
  obtain ⟨rest, U, h1, h2, h3, h4, hl, hr0, h6, h7⟩ := h
  obtain ⟨i, r, hi, hr, q, g, hg, rfl⟩ := mem_nxs.mp hf
  obtain ⟨s1, s2, ⟨q1, s3, s4⟩, s5, s6⟩ := nx_step O G X hr hg
  have hiU : i ∉ U := fun z => by
    obtain ⟨r', e1, e2⟩ := h3 i z
    rw [hr] at e1
    cases e1
    rw [q] at e2
    exact hK e2
  have eq1 : r.1 = e.2.1.1 := congrArg Prod.fst q
  have eq2 : r.2.1 = e.2.1.2 := congrArg Prod.snd q
  have ld := s3 rest
  rw [eq1, eq2] at ld
  refine ⟨q1 ++ rest, U ++ [i], h1.app ld, ?_, fun j hj => ?_, ?_, ?_, ?_, s6, h5 _ (List.mem_of_getElem? hr) _ s5⟩
  · refine List.nodup_append.mpr ⟨h2, by simp, fun x hx y hy z => ?_⟩
    rw [List.mem_singleton.mp hy] at z
    exact hiU (z ▸ hx)
  · rcases List.mem_append.mp hj with hj | hj
    · obtain ⟨r', e1, e2⟩ := h3 j hj
      exact ⟨r', e1, List.mem_append_left _ e2⟩
    · rw [List.mem_singleton.mp hj]
      exact ⟨r, hr, List.mem_append_right _ (by rw [q]; exact List.mem_singleton.mpr rfl)⟩
  · show sz F (e.2.2 ++ (It.r i :: g.2.2)) ≤ _
    rw [sz_app, List.map_append, List.sum_append]
    simp only [List.map_cons, List.map_nil, List.sum_cons, List.sum_nil, Nat.add_zero]
    omega
  · show (e.2.2 ++ (It.r i :: g.2.2)).length ≤ _
    rw [List.length_append, List.length_append]
    simp only [List.length_singleton]
    omega
  · rw [List.length_append, List.length_append]
    simp only [List.length_singleton]
    omega
theorem EnOk.small (O : ROk R) {x0 : Pk} {b0 n0 r0 : Nat} {K : List Tp} (h : EnOk R F x0 b0 n0 r0 K e) : (∃ rest, Leads R F e.2.2 x0 (e.2.1.1, e.2.1.2 :: rest) ∧ rest.length ≤ r0 + 9) ∧ sz F e.2.2 ≤ b0 + (sj R 1 + sj R 2 * (1 + top R)) ∧ e.2.2.length ≤ n0 + 18 ∧ e.2.1.1 < 8 ∧ e.2.1.2 < 6 := by
  obtain ⟨rest, U, h1, h2, h3, h4, hl, hr0, h6, h7⟩ := h
  have sub : ∀ i ∈ U, i ∈ List.range R.length := fun i hi => by
    obtain ⟨r, q, _⟩ := h3 i hi
    exact List.mem_range.mpr (List.getElem?_eq_some_iff.mp q).1
  have s := sum_sub (g := wgI R) h2 sub
  have s2 := wgI_all O
  have ul := List.Nodup.length_le_of_subset h2 sub
  rw [List.length_range] at ul
  have few := O.few
  exact ⟨⟨rest, h1, by omega⟩, by omega, by omega, h6, h7⟩
/-! ### first entries -/
theorem EnOk.first (O : ROk R) (G : Good R F) (X : Fix R F) (ha : a < 8) (hs : ∀ x ∈ st, x < 6) (h : e ∈ tps (lenW F) a st) : EnOk R F (a, st) (st.length * top R) st.length st.length [] e := by
  obtain ⟨k, ks, hk, h1, h2, h3⟩ := tps_of G h
  have c1 := (chain_sz h3).1
  have c2 := chain_top O G X h3
  have c3 := h3.len
  rw [List.length_take] at c2 c3
  have ld := tps_leads (R := R) (rest := []) h3 hk
  rw [List.append_nil, List.append_nil] at ld
  refine ⟨st.drop (k + 1), [], ?_, List.nodup_nil, fun i hi => (nomatch hi), ?_, ?_, ?_, tps_low G ha h, ?_⟩
  · rw [h2, h1]
    exact ld
  · rw [h2, c1]
    have : min k st.length * top R ≤ st.length * top R := Nat.mul_le_mul_right _ (by omega)
    simp
    omega
  · rw [h2, List.length_map]
    simp
    omega
  · rw [List.length_drop]
    simp
  · rw [h1, List.getD_eq_getElem?_getD, List.getElem?_eq_getElem hk]
    exact hs _ (List.getElem_mem hk)
/-! ### all of them -/
/-- a set of tops that nothing leads out of -/
def Clo (R : List Ru) (F : Wy Ky) (K : List Tp) : Prop := ∀ t ∈ K, ∀ e ∈ nxs R (lenW F) t R.length, e.2.1 ∈ K
theorem reach_tops (G : Good R F) (X : Fix R F) {K : List Tp} (hK : Clo R F K) {g l : Nat} {rest : List Nat} : ∀ (n : Nat) {ns : List Nat} {a : Nat} {st : List Nat}, ns.length = n → Run R (a, st) ns (g, l :: rest) → ∃ k p ks s, k < st.length ∧ Chain (lenW F) a (st.take k) ks p s ∧ ((p, st.getD k 0) ∈ K → (g, l) ∈ K) := by
  intro n
  induction n with
  | zero =>
    intro ns a st hn h
    have : ns = [] := List.eq_nil_of_length_eq_zero hn
    subst this
    cases h
    exact ⟨0, g, [], 0, by simp, .nil, fun h => h⟩
  | succ n ih =>
    intro ns a st hn h
    cases h with
    | nil => simp at hn
    | cons q h =>
      rename_i i ns'
      obtain ⟨l0, a', put, rest0, h1, h2, rfl⟩ := stp_some q
      have h2 : st = l0 :: rest0 := h2
      subst h2
      obtain ⟨k, p, ks, s, hk, hc, hp⟩ := ih (by simpa using hn) h
      by_cases hlt : k < put.length
      · refine ⟨0, a, [], 0, by simp, .nil, fun h0 => hp ?_⟩
        rw [List.take_append_of_le_length (by omega)] at hc
        obtain ⟨e, he, e1⟩ := of_tps G hlt hc
        have he2 : ((e.1 + 1, e.2.1, It.r i :: e.2.2) : Ent) ∈ nxs R (lenW F) (a, l0) R.length := mem_nxs.mpr ⟨i, _, (List.getElem?_eq_some_iff.mp h1).1, h1, rfl, e, he, rfl⟩
        have := hK (a, l0) h0 _ he2
        have this : e.2.1 ∈ K := this
        rw [e1] at this
        rw [List.getD_eq_getElem?_getD, List.getElem?_append_left hlt, ← List.getD_eq_getElem?_getD]
        exact this
      · have e0 : (put ++ rest0).take k = put ++ rest0.take (k - put.length) := by
          rw [List.take_append, List.take_of_length_le (by omega)]
        rw [e0] at hc
        obtain ⟨m, k1, k2, s1, s2, rfl, rfl, c1, c2⟩ := hc.split
        obtain ⟨x, g1, g2⟩ := X _ _ _ _ _ _ _ _ h1 c1
        rw [List.length_append] at hk
        refine ⟨k - put.length + 1, p, (a, l0, m) :: k2, x.1 + s2, by rw [List.length_cons]; omega, ?_, fun h0 => hp ?_⟩
        · rw [List.take_succ_cons]
          exact .cons (lenW_of (d := x.1) (t := x.2) g1) c2
        · rw [List.getD_eq_getElem?_getD, List.getElem?_append_right (by omega), ← List.getD_eq_getElem?_getD]
          rw [List.getD_eq_getElem?_getD, List.getElem?_cons_succ, ← List.getD_eq_getElem?_getD] at h0
          exact h0
theorem visit_all (G : Good R F) (X : Fix R F) {K : List Tp} (hK : Clo R F K) (h0 : ∀ e ∈ tps (lenW F) a st, e.2.1 ∈ K) {g l : Nat} {rest : List Nat} (h : Run R (a, st) ns (g, l :: rest)) : (g, l) ∈ K := by
  obtain ⟨k, p, ks, s, hk, hc, hp⟩ := reach_tops G X hK _ rfl h
  obtain ⟨e, he, e1⟩ := of_tps G hk hc
  have := h0 e he
  rw [e1] at this
  exact hp this
end
end Fx.Sk
/-! x is True, x is not False -/
namespace PySem
open PyProof.Rows
end PySem
namespace Fx
open PySem PySem.Spec PyProof.Rows L2
end Fx
/-! more defs of stacks of labels, printed by mksk2.py from k88 and k89 -/
namespace Fx.Sk
open PySem PySem.Spec PyProof.Rows L2 Lib
def b_tops : M Fl := (mSeq (mAsgO 3 (mLst aNil))
    (mSeq (mFor (iRange1 (aCons (mCB gLen (aCons (mVar 2) aNil)) aNil)) (gmName 4) (mSeq (mAsg (mCall f_drained (aCons (mVar 0) (aCons (mVar 1) (aCons (mSl (mVar 2) oNone (oSome (mVar 4))) aNil)))) (gmName 5))
    (mAugL 3 (mLc (iKeysD (mVar 5)) (gmName 6) mYes (mTup (aCons (mOp gIx (mOp gDget (mVar 5) (mVar 6)) (mC (.int 0))) (aCons (mTup (aCons (mVar 6) (aCons (mOp gIx (mVar 2) (mVar 4)) aNil))) (aCons (mOp gIx (mOp gDget (mVar 5) (mVar 6)) (mC (.int 1))) aNil)))) [6]))))
    (mRetO 3)))
def f_tops : Fn := runF 3 7 b_tops
def b_next_tops : M Fl := (mSeq (mAsgO 3 (mLst aNil))
    (mSeq (mFor (iEnu (aCons (mVar 0) aNil)) (gmTup 2 (gmCons (gmName 4) (gmCons (gmTup 4 (gmCons (gmName 5) (gmCons (gmName 6) (gmCons (gmName 7) (gmCons (gmName 8) gmNil))))) gmNil))) (mIfS (mTest (mOp gEq (mTup (aCons (mVar 5) (aCons (mVar 6) aNil))) (mVar 2))) (mAugL 3 (mLc (iSeq (mCall f_tops (aCons (mVar 1) (aCons (mVar 7) (aCons (mVar 8) aNil))))) (gmTup 3 (gmCons (gmName 9) (gmCons (gmName 10) (gmCons (gmName 11) gmNil)))) mYes (mTup (aCons (mOp gAdd (mVar 9) (mC (.int 1))) (aCons (mVar 10) (aCons (mTup (aCons (mTup (aCons (mVar 4) aNil)) (aStar (mVar 11) aNil))) aNil)))) [9, 10, 11])) mNx))
    (mRetO 3)))
def f_next_tops : Fn := runF 3 12 b_next_tops
def b_tops_from : M Fl := (mSeq (mAsgO 3 (mDnew))
    (mSeq (mAsgO 4 (mCB gList (aCons (mVar 2) aNil)))
    (mSeq (mDrop (mHeapifyG 4))
    (mSeq (mWhile (mTruthO 4) (mSeq (mAsg (mPopG 4) (gmTup 3 (gmCons (gmName 5) (gmCons (gmName 6) (gmCons (gmName 7) gmNil)))))
    (mIfS (mTest (mInN true (mVar 6) 3)) (mSeq (mAsg (mTup (aCons (mVar 5) (aCons (mVar 7) aNil))) (gmItemD 3 (mVar 6)))
    (mFor (iSeq (mCall f_next_tops (aCons (mVar 0) (aCons (mVar 1) (aCons (mVar 6) aNil))))) (gmTup 3 (gmCons (gmName 8) (gmCons (gmName 9) (gmCons (gmName 10) gmNil)))) (mDrop (mPushG 4 (mTup (aCons (mOp gAdd (mVar 5) (mVar 8)) (aCons (mVar 9) (aCons (mTup (aStar (mVar 7) (aStar (mVar 10) aNil))) aNil)))))))) mNx)) 100000)
    (mRetO 3)))))
def f_tops_from : Fn := runF 3 11 b_tops_from
def b_visit_run : M Fl := (mSeq (mDrop (mCall f_check_packet (aCons (mVar 0) (aCons (mVar 1) (aCons (mVar 2) aNil)))))
    (mSeq (mDrop (mCall f_check_node (aCons (mVar 3) aNil)))
    (mSeq (mAsg (mCall f_drains_in (aCons (mVar 0) aNil)) (gmName 4))
    (mSeq (mAsg (mCall f_drained (aCons (mVar 4) (aCons (mVar 1) (aCons (mVar 2) aNil)))) (gmName 5))
    (mSeq (mAsg (mCall f_tops_from (aCons (mVar 0) (aCons (mVar 4) (aCons (mCall f_tops (aCons (mVar 4) (aCons (mVar 1) (aCons (mVar 2) aNil)))) aNil)))) (gmName 6))
    (mSeq (mAsg (mOp gAdd (mLc (iKeysD (mVar 6)) (gmName 8) (mTest (mOp gEq (mOp gIx (mVar 8) (mC (.int 0))) (mVar 3))) (mOp gDget (mVar 6) (mVar 8)) [8]) (mLc (iKeysD (mVar 5)) (gmName 9) (mTest (mOp gEq (mVar 9) (mVar 3))) (mOp gDget (mVar 5) (mVar 9)) [9])) (gmName 7))
    (mRet (mIf (mTruth (mVar 7)) (mCall f_run_of (aCons (mVar 4) (aCons (mOp gIx (mCB gMinD (aCons (mVar 7) aNil)) (mC (.int 1))) aNil))) (mC .non)))))))))
def f_visit_run : Fn := runF 4 10 b_visit_run
end Fx.Sk
/-! stacks of labels on data: tops, heaps of entries -/
namespace Fx.Sk
open PySem Lib Nl Up
def tpD (t : Tp) : D := ntT [t.1, t.2]
def entD (e : Ent) : D := .tup [nD e.1, tpD e.2.1, trD e.2.2]
theorem keyTp : KeyF tpD := keyT (fun q => ⟨_, rfl, tkyA_nl⟩) fun a b h => by
  have h : D.tup (nl [a.1, a.2]) = D.tup (nl [b.1, b.2]) := h
  simp only [D.tup.injEq] at h
  have h := nl_inj h
  simp only [List.cons.injEq, and_true] at h
  exact Prod.ext h.1 h.2
/-! ### entries can be compared -/
theorem alike_nl : ∀ (L M : List Nat), PySem.W.alikeAll (toPs (nl L)) (toPs (nl M)) = true
  | [], _ => by unfold nl; simp only [List.map_nil, toPs, PySem.W.alikeAll]
  | _ :: _, [] => by unfold nl; simp only [List.map_nil, List.map_cons, toPs, PySem.W.alikeAll]
  | a :: L, b :: M => by
    have := alike_nl L M
    unfold nl at this ⊢
    simp only [List.map_cons, toPs, PySem.W.alikeAll, this, toP, PySem.W.alike, Bool.true_and]
theorem alike_it (i j : It) : PySem.W.alike (toP (itD i)) (toP (itD j)) = true := by
  have e : ∀ i : It, ∃ L, itD i = ntT L := fun i => by
    cases i with
    | r i => exact ⟨[i], rfl⟩
    | k k => exact ⟨[k.1, k.2.1, k.2.2], rfl⟩
  obtain ⟨L, h1⟩ := e i
  obtain ⟨M, h2⟩ := e j
  rw [h1, h2]
  simp only [toP, PySem.W.alike]
  exact alike_nl L M
theorem alike_tr : ∀ (t u : Tr), PySem.W.alikeAll (toPs (t.map itD)) (toPs (u.map itD)) = true
  | [], _ => by simp only [List.map_nil, toPs, PySem.W.alikeAll]
  | _ :: _, [] => by simp only [List.map_nil, List.map_cons, toPs, PySem.W.alikeAll]
  | i :: t, j :: u => by
    simp only [List.map_cons, toPs, PySem.W.alikeAll, alike_it, alike_tr t u, Bool.true_and]
theorem alike_ent (e f : Ent) : PySem.W.alike (toP (entD e)) (toP (entD f)) = true := by
  unfold entD tpD
  simp only [toP, toPs, PySem.W.alike, PySem.W.alikeAll, alike_nl, alike_tr, Bool.true_and, Bool.and_true]
theorem alike_wy (x y : Nat × Tr) : PySem.W.alike (toP (wyD x)) (toP (wyD y)) = true := by
  unfold wyD
  simp only [toP, toPs, PySem.W.alike, PySem.W.alikeAll, alike_tr, Bool.true_and, Bool.and_true]
theorem pl_ent (e : Ent) : pl 60 (entD e) = true := by
  have h : plA 58 (e.2.2.map itD) = true := by
    rw [plA_all]
    exact List.all_eq_true.mpr fun d hd => by
      obtain ⟨i, _, rfl⟩ := List.mem_map.mp hd
      cases i <;> rfl
  show (pl 59 (nD e.1) && (pl 59 (tpD e.2.1) && (plA 58 (e.2.2.map itD) && plA 59 []))) = true
  rw [h]
  rfl
theorem pl_wy (x : Nat × Tr) : pl 60 (wyD x) = true := by
  have h : plA 58 (x.2.map itD) = true := by
    rw [plA_all]
    exact List.all_eq_true.mpr fun d hd => by
      obtain ⟨i, _, rfl⟩ := List.mem_map.mp hd
      cases i <;> rfl
  show (pl 59 (nD x.1) && (plA 58 (x.2.map itD) && plA 59 [])) = true
  rw [h]
  rfl
theorem hp_map {α : Type} {f : α → D} {L : List α} (h1 : ∀ a, pl 60 (f a) = true) (h2 : ∀ a b, PySem.W.alike (toP (f a)) (toP (f b)) = true) (h3 : ∀ a, ∃ ds, f a = .tup ds) : hpOk (L.map f) = true := by
  unfold hpOk
  rw [Bool.and_eq_true]
  constructor
  · rw [plA_all]
    exact List.all_eq_true.mpr fun d hd => by
      obtain ⟨a, _, rfl⟩ := List.mem_map.mp hd
      exact h1 a
  · unfold alikeB
    refine List.all_eq_true.mpr fun d hd => ?_
    obtain ⟨a, _, rfl⟩ := List.mem_map.mp hd
    rw [Bool.and_eq_true]
    constructor
    · obtain ⟨ds, e⟩ := h3 a
      rw [e]
    · exact List.all_eq_true.mpr fun d hd => by
        obtain ⟨b, _, rfl⟩ := List.mem_map.mp hd
        exact h2 a b
theorem hp_ent {L : List Ent} : hpOk (L.map entD) = true := hp_map pl_ent alike_ent fun a => ⟨_, rfl⟩
theorem hp_wy {L : List (Nat × Tr)} : hpOk (L.map wyD) = true := hp_map pl_wy alike_wy fun a => ⟨_, rfl⟩
/-! ### what the heap's functions do -/
theorem perm_inv {α β : Type} {f : α → β} {es ds : List β} (h : es.Perm ds) : ∀ {L : List α}, ds = L.map f → ∃ M : List α, es = M.map f ∧ M.Perm L := by
  induction h with
  | nil =>
    intro L e
    cases L with
    | nil => exact ⟨[], rfl, .refl _⟩
    | cons _ _ => cases e
  | cons x _ ih =>
    intro L e
    cases L with
    | nil => cases e
    | cons a L =>
      rw [List.map_cons] at e
      injection e with e1 e2
      obtain ⟨M, h1, h2⟩ := ih e2
      exact ⟨a :: M, by rw [List.map_cons, e1, h1], h2.cons a⟩
  | swap x y l =>
    intro L e
    cases L with
    | nil => cases e
    | cons a L =>
      cases L with
      | nil => simp at e
      | cons b L =>
        rw [List.map_cons, List.map_cons] at e
        injection e with e1 e2
        injection e2 with e2 e3
        exact ⟨b :: a :: L, by rw [List.map_cons, List.map_cons, e1, e2, e3], .swap a b L⟩
  | trans _ _ ih1 ih2 =>
    intro L e
    obtain ⟨M, h1, h2⟩ := ih2 e
    obtain ⟨M', h3, h4⟩ := ih1 h1
    exact ⟨M', h3, h4.trans h2⟩
section
variable {ρ : En} {i : Nat} {o : Option Nat} {L : List Ent} {PF : Fl → En → Prop}
theorem set_same' {ρ : En} {i : Nat} {x : Option S} (e : ρ[i]? = some x) : ρ.set i x = ρ := by
  refine List.ext_getElem? fun j => ?_
  rw [List.getElem?_set]
  split
  · rename_i h
    subst h
    rw [if_pos (List.getElem?_eq_some_iff.mp e).1, e]
  · rfl
theorem heapify_ok (e : ρ[i]? = some (some (.o o (.lst (L.map entD))))) (hl : L.length ≤ 2500) (q : ∀ M : List Ent, M.Perm L → PF .nx (ρ.set i (some (.o o (.lst (M.map entD)))))) : OK (mDrop (mHeapifyG i) ρ) PF := by
  rw [ok_drop]
  unfold mHeapifyG
  rw [e]
  dsimp only
  split
  · rw [ok_ok]
    have := q L (.refl _)
    rw [set_same' e] at this
    exact this
  · rename_i h2
    have hg : (decide ((L.map entD).length ≤ 2500) && hpOk (L.map entD)) = true := by rw [hp_ent, Bool.and_true, List.length_map]; exact decide_eq_true hl
    rw [if_pos hg]
    have hn : 2 ≤ (L.map entD).length := by omega
    obtain ⟨es, h3, h4⟩ := siftD_ok (ds := L.map entD) (d := true) (p := (L.map entD).length / 2 - 1) (t := (L.map entD).length / 2 - 1) (a := (((L.map entD).length / 2 : Nat) : Int) - 2) (by omega) (by omega) (by
      unfold Hp.cost hpFuel
      rw [if_pos rfl]
      generalize (L.map entD).length = n at hn
      have e1 : (((n / 2 : Nat) : Int) - 2 + 1).toNat ≤ n := by omega
      have e2 := Nat.mul_le_mul_right (2 * n + 4) e1
      have e3 : (n + 3) * (2 * n + 5) = n * (2 * n + 4) + n + 3 * (2 * n + 5) := by rw [Nat.add_mul, show 2 * n + 5 = (2 * n + 4) + 1 by omega, Nat.mul_add, Nat.mul_one]
      rw [e3]
      omega)
    rw [h3]
    dsimp only
    rw [ok_ok]
    obtain ⟨M, rfl, hM⟩ := perm_inv h4 rfl
    exact q M hM
theorem push_ok {fe : Fx.M Fx.S} {x : Ent} (e : ρ[i]? = some (some (.o o (.lst (L.map entD))))) (h : Ev fe ρ (entD x)) (hl : L.length ≤ 1000000) (q : ∀ M : List Ent, M.Perm (L ++ [x]) → PF .nx (ρ.set i (some (.o o (.lst (M.map entD)))))) : OK (mDrop (mPushG i fe) ρ) PF := by
  rw [ok_drop]
  unfold mPushG
  rw [e]
  dsimp only
  rw [ok_then]
  refine h.dv ?_
  rw [e]
  dsimp only
  have ex : L.map entD ++ [entD x] = (L ++ [x]).map entD := by rw [List.map_append]; rfl
  have hg : (small ((L.map entD).length + 1) && hpOk (L.map entD ++ [entD x])) = true := by
    rw [ex, hp_ent, Bool.and_true, List.length_map]
    exact decide_eq_true (by omega)
  rw [if_pos hg]
  obtain ⟨es, h3, h4⟩ := siftD_ok (ds := L.map entD ++ [entD x]) (d := false) (p := (L.map entD).length) (t := 0) (a := -1) (by simp) (by simp) (by
    unfold Hp.cost hpFuel
    rw [if_neg (by simp)]
    have hn : (L.map entD ++ [entD x]).length = (L.map entD).length + 1 := by simp
    rw [hn]
    generalize (L.map entD).length = n
    have e1 : ((-1 : Int) + 1).toNat = 0 := rfl
    have : (n + 1 + 3) * 1 ≤ (n + 1 + 3) * (2 * (n + 1) + 5) := Nat.mul_le_mul_left _ (by omega)
    rw [e1, Nat.zero_mul]
    omega)
  rw [h3]
  dsimp only
  rw [ok_ok]
  obtain ⟨M, rfl, hM⟩ := perm_inv h4 ex
  exact q M hM
end
end Fx.Sk
/-! stacks of labels on data: the tops while some label is left, the tops behind one -/
namespace Fx.Sk
open PySem Lib Nl Up
section
variable {ρ : En} {i : Nat} {o : Option Nat} {L : List Ent} {PF : Fl → En → Prop}
theorem pop_ok {x : Ent} {P : Fx.S → En → Prop} (e : ρ[i]? = some (some (.o o (.lst ((x :: L).map entD))))) (hl : L.length ≤ 1000000) (q : ∀ M : List Ent, M.Perm L → P (.d (entD x)) (ρ.set i (some (.o o (.lst (M.map entD)))))) : OK (mPopG i ρ) P := by
  unfold mPopG
  rw [e]
  rw [List.map_cons]
  dsimp only
  cases h : (L.map entD).getLast? with
  | none =>
    have : L = [] := by simpa using h
    subst this
    dsimp only
    rw [ok_ok]
    exact q [] (.refl _)
  | some l =>
    dsimp only
    obtain ⟨m, hm⟩ := List.getLast?_eq_some_iff.mp h
    have hd : (L.map entD).dropLast = m := by rw [hm, List.dropLast_concat]
    obtain ⟨M0, e0, p0⟩ := perm_inv (f := entD) (es := l :: m) (ds := L.map entD) (by rw [hm]; exact (List.perm_append_comm (l₁ := m) (l₂ := [l])).symm) rfl
    rw [hd, e0]
    have hg : (small ((L.map entD).length + 1) && hpOk (M0.map entD)) = true := by
      rw [hp_ent, Bool.and_true, List.length_map]
      exact decide_eq_true (by omega)
    rw [if_pos hg]
    have hn : 1 ≤ (M0.map entD).length := by rw [← e0]; simp
    obtain ⟨es, h3, h4⟩ := siftD_ok (ds := M0.map entD) (d := true) (p := 0) (t := 0) (a := -1) (by simp) (by simp) (by
      unfold Hp.cost hpFuel
      rw [if_pos rfl]
      generalize (M0.map entD).length = n
      have e1 : ((-1 : Int) + 1).toNat = 0 := rfl
      have : (n + 3) * 5 ≤ (n + 3) * (2 * n + 5) := Nat.mul_le_mul_left _ (by omega)
      rw [e1, Nat.zero_mul]
      omega)
    rw [h3]
    dsimp only
    rw [ok_ok]
    obtain ⟨M, rfl, hM⟩ := perm_inv h4 rfl
    exact q M (hM.trans p0)
theorem augL {ds es : List D} {fe : Fx.M Fx.S} (e : ρ[i]? = some (some (.o o (.lst ds)))) (h : Ev fe ρ (.lst es)) (hl : ds.length + es.length ≤ 1000000) (q : PF .nx (ρ.set i (some (.o o (.lst (ds ++ es)))))) : OK (mAugL i fe ρ) PF := by
  unfold mAugL ownL
  rw [e]
  dsimp only
  rw [if_pos rfl, ok_then]
  refine h.dv ?_
  rw [e]
  dsimp only
  rw [if_pos (show small _ = true from decide_eq_true (by omega)), ok_ok]
  exact q
end
section
variable {R : List Ru} {F : Wy Ky} {a : Nat} {st : List Nat}
def tp0 (W : Ln) (a : Nat) (st : List Nat) (n : Nat) : List Ent := (List.range n).flatMap fun k => (drn W a (st.take k)).map fun e => (e.2.1, (e.1, st.getD k 0), e.2.2)
theorem drn_len (G : Good R F) (ha : a < 8) : (drn (lenW F) a st).length ≤ 8 := best_len8 (drn_ok G.h8).nd fun e x h => drn_low ha G.h8 h
theorem tp0_len (G : Good R F) (ha : a < 8) : ∀ n, (tp0 (lenW F) a st n).length ≤ n * 8
  | 0 => Nat.le_refl _
  | n + 1 => by
    have := tp0_len G ha n
    unfold tp0 at this ⊢
    rw [List.range_succ, List.flatMap_append, List.length_append, List.flatMap_cons, List.flatMap_nil, List.append_nil, List.length_map]
    have := drn_len (st := st.take n) G ha
    omega
theorem tops_len (G : Good R F) (ha : a < 8) : (tps (lenW F) a st).length ≤ st.length * 8 := tp0_len G ha st.length
theorem tops_ok (G : Good R F) (ha : a < 8) (hl : st.length ≤ 12) : OKF (f_tops [.d (dY kyD F), .d (nD a), .d (ntT st)]) fun s => s = .o none (.lst ((tps (lenW F) a st).map entD)) := by
  unfold f_tops
  refine okF_runF.mpr ⟨rfl, ?_⟩
  show OK (b_tops [some (.d (dY kyD F)), some (.d (nD a)), some (.d (ntT st)), none, none, none, none]) _
  unfold b_tops
  refine sq (asgL ea_nil rfl ⟨rfl, ?_⟩)
  simp only [List.set_cons_succ, List.set_cons_zero]
  refine sq (forG (emb := nD) (ls := List.range st.length) (I := fun k ρ => ∃ x4 x5, ρ = [some (.d (dY kyD F)), some (.d (nD a)), some (.d (ntT st)), some (.o none (.lst ((tp0 (lenW F) a st k).map entD))), x4, x5, none]) (ei_rangeN (n := st.length) (ea_cons (lenN (ev_var (x := ntT st) 2 rfl)) ea_nil) (by omega)) ⟨none, none, rfl⟩ ?_ ?_)
  · rintro k y ρ hk ⟨x4, x5, rfl⟩
    obtain ⟨hk1, hk2⟩ := List.getElem?_eq_some_iff.mp hk
    rw [List.length_range] at hk1
    rw [List.getElem_range] at hk2
    subst hk2
    refine ⟨_, eg_name, ?_⟩
    simp only [List.set_cons_succ, List.set_cons_zero]
    have s2 : Ev (mSl (mVar 2) oNone (oSome (mVar 4))) [some (.d (dY kyD F)), some (.d (nD a)), some (.d (ntT st)), some (.o none (.lst ((tp0 (lenW F) a st k).map entD))), some (.d (nD k)), x5, none] (ntT (st.take k)) := by
      have := ev_slTo (k := k) (ev_var (x := ntT st) 2 (ρ := [some (.d (dY kyD F)), some (.d (nD a)), some (.d (ntT st)), some (.o none (.lst ((tp0 (lenW F) a st k).map entD))), some (.d (nD k)), x5, none]) rfl) (ev_var (x := nD k) 4 rfl)
      unfold nl at this
      rw [← List.map_take] at this
      exact this
    refine sq (asg (ev_call (ea_cons (ev_var (x := dY kyD F) 0 rfl) (ea_cons (ev_var (x := nD a) 1 rfl) (ea_cons s2 ea_nil))) (drainedD (ls := st.take k) G.h8 ha (by rw [List.length_take]; omega))) ⟨rfl, ?_⟩)
    simp only [List.set_cons_succ, List.set_cons_zero]
    have dr := drn_ok (W := lenW F) (a := a) (ls := st.take k) G.h8
    have dl := drn_len (st := st.take k) G ha
    have tl := tp0_len (st := st) G ha k
    have e1 : tp0 (lenW F) a st (k + 1) = tp0 (lenW F) a st k ++ (drn (lenW F) a (st.take k)).map fun e => (e.2.1, (e.1, st.getD k 0), e.2.2) := by
      unfold tp0
      rw [List.range_succ, List.flatMap_append, List.flatMap_cons, List.flatMap_nil, List.append_nil]
    rw [e1, List.map_append, List.map_map]
    have nd := dr.nd
    clear dr e1 s2
    generalize drn (lenW F) a (st.take k) = M at nd dl ⊢
    have lc := lcG (emb := fun f : Nat × Nat × Tr => nD f.1) (ls := M) (t := fun _ => true) (f := fun f => entD (f.2.1, (f.1, st.getD k 0), f.2.2)) (own := [6]) (gm := gmName 6) (ft := mYes) (fI := iKeysD (mVar 5))
      (fe := mTup (aCons (mOp gIx (mOp gDget (mVar 5) (mVar 6)) (mC (.int 0))) (aCons (mTup (aCons (mVar 6) (aCons (mOp gIx (mVar 2) (mVar 4)) aNil))) (aCons (mOp gIx (mOp gDget (mVar 5) (mVar 6)) (mC (.int 1))) aNil))))
      (ρ := [some (.d (dY kyD F)), some (.d (nD a)), some (.d (ntT st)), some (.o none (.lst ((tp0 (lenW F) a st k).map entD))), some (.d (nD k)), some (.d (dY nD M)), none])
      (E := fun f => [some (.d (dY kyD F)), some (.d (nD a)), some (.d (ntT st)), some (.o none (.lst ((tp0 (lenW F) a st k).map entD))), some (.d (nD k)), some (.d (dY nD M)), some (.d (nD f.1))]) (by
        have := ei_keysG (f := nD) (kv := kvY M) (ev_var (x := dY nD M) 5 (ρ := [some (.d (dY kyD F)), some (.d (nD a)), some (.d (ntT st)), some (.o none (.lst ((tp0 (lenW F) a st k).map entD))), some (.d (nD k)), some (.d (dY nD M)), none]) rfl)
        unfold kvY at this
        rw [List.map_map] at this
        exact this) rfl (fun f _ => eg_name) (fun f _ => eb_yes) (fun f hf _ => by
        have gf := mem_getY nd (show (f.1, f.2) ∈ M from hf)
        have g0 := dgetG keyNn (kv := kvY M) (a := f.1) (x := wyD f.2) (ev_var (x := dY nD M) 5 (ρ := [some (.d (dY kyD F)), some (.d (nD a)), some (.d (ntT st)), some (.o none (.lst ((tp0 (lenW F) a st k).map entD))), some (.d (nD k)), some (.d (dY nD M)), some (.d (nD f.1))]) rfl) (ev_var 6 rfl) (by rw [get_kv, gf]; rfl)
        have i2 := ev_ixT (i := k) (x := nD (st.getD k 0)) (ev_var (x := ntT st) 2 (ρ := [some (.d (dY kyD F)), some (.d (nD a)), some (.d (ntT st)), some (.o none (.lst ((tp0 (lenW F) a st k).map entD))), some (.d (nD k)), some (.d (dY nD M)), some (.d (nD f.1))]) rfl) (ev_var (x := nD k) 4 rfl) (by
          unfold nl
          rw [List.getElem?_map, List.getElem?_eq_getElem hk1, List.getD_eq_getElem?_getD, List.getElem?_eq_getElem hk1]
          rfl)
        exact ev_tup (ea_cons (ev_ixT (i := 0) (x := nD f.2.1) g0 ev_c rfl) (ea_cons (ev_tup (ea_cons (ev_var (x := nD f.1) 6 rfl) (ea_cons i2 ea_nil))) (ea_cons (ev_ixT (i := 1) (x := trD f.2.2) g0 ev_c rfl) ea_nil)))) (fun _ _ => rfl) (by omega)
    rw [List.filter_eq_self.mpr (fun _ _ => rfl)] at lc
    refine augL rfl lc (by rw [List.length_map, List.length_map]; omega) ⟨fun _ => ⟨some (.d (nD k)), some (.d (dY nD M)), rfl⟩, fun z => (nomatch z), fun s z => (nomatch z)⟩
  · rintro ρ ⟨x4, x5, rfl⟩
    rw [List.length_range]
    refine ⟨rfl, ?_⟩
    exact retO rfl (.inl ⟨_, rfl, rfl⟩)
theorem nx1_len (O : ROk R) (G : Good R F) {t : Tp} {i : Nat} {r : Ru} (hr : r ∈ R) : (nx1 (lenW F) t i r).length ≤ 16 := by
  unfold nx1
  split
  · rw [List.length_map]
    have h2 := O.put r hr
    have := O.aft r hr
    have := tops_len (st := r.2.2.2) G (show r.2.2.1 < 8 by omega)
    omega
  · simp
theorem nxs_len (O : ROk R) (G : Good R F) {t : Tp} : ∀ n, (nxs R (lenW F) t n).length ≤ n * 16
  | 0 => Nat.le_refl _
  | n + 1 => by
    have ih := nxs_len O G (t := t) n
    cases h : R[n]? with
    | none =>
      have : nxs R (lenW F) t (n + 1) = nxs R (lenW F) t n := by
        unfold nxs
        rw [List.range_succ, List.flatMap_append, List.flatMap_cons, h]
        simp
      rw [this]
      omega
    | some r =>
      rw [nxs_succ h, List.length_append]
      have := nx1_len O G (t := t) (i := n) (List.mem_of_getElem? h)
      omega
theorem gEq_tp {t u : Tp} : gEq (tpD t) (tpD u) = some (.d (.bl (decide (t = u)))) := gEq_nb (b := decide (t = u)) nb_nl nb_nl (by
  rw [decide_eq_true_iff]
  exact ⟨fun h => by rw [h], fun h => by
    have h := nl_inj (D.tup.inj h)
    simp only [List.cons.injEq, and_true] at h
    exact Prod.ext h.1 h.2⟩)
theorem next_ok (O : ROk R) (G : Good R F) {t : Tp} : OKF (f_next_tops [.d (rusD R), .d (dY kyD F), .d (tpD t)]) fun s => s = .o none (.lst ((nxs R (lenW F) t R.length).map entD)) := by
  unfold f_next_tops
  refine okF_runF.mpr ⟨rfl, ?_⟩
  show OK (b_next_tops [some (.d (rusD R)), some (.d (dY kyD F)), some (.d (tpD t)), none, none, none, none, none, none, none, none, none]) _
  unfold b_next_tops
  refine sq (asgL ea_nil rfl ⟨rfl, ?_⟩)
  simp only [List.set_cons_succ, List.set_cons_zero]
  have few := O.few
  refine sq (forEi (ds := R.map ruD) (x := rusD R) (I := fun j ρ => ∃ x4 x5 x6 x7 x8, ρ = [some (.d (rusD R)), some (.d (dY kyD F)), some (.d (tpD t)), some (.o none (.lst ((nxs R (lenW F) t j).map entD))), x4, x5, x6, x7, x8, none, none, none]) (ea_cons (ev_var 0 rfl) ea_nil) rfl ⟨none, none, none, none, none, rfl⟩ ?_ ?_)
  · rintro i y ρ hy ⟨x4, x5, x6, x7, x8, rfl⟩
    rw [List.getElem?_map] at hy
    obtain ⟨r, hr, rfl⟩ := Option.map_eq_some_iff.mp hy
    refine ⟨_, eg_ru, ?_⟩
    simp only [List.set_cons_succ, List.set_cons_zero]
    have hm := List.mem_of_getElem? hr
    have p2 := O.put _ hm
    have ha : r.2.2.1 < 8 := by have := O.aft _ hm; omega
    have hi := (List.getElem?_eq_some_iff.mp hr).1
    have nl1 := nxs_len O G (t := t) i
    have nl2 := nx1_len O G (t := t) (i := i) hm
    rw [nxs_succ hr, List.map_append]
    obtain ⟨ρ0, h0⟩ : ∃ ρ0 : En, ρ0 = [some (.d (rusD R)), some (.d (dY kyD F)), some (.d (tpD t)), some (.o none (.lst ((nxs R (lenW F) t i).map entD))), some (.d (nD i)), some (.d (nD r.1)), some (.d (nD r.2.1)), some (.d (nD r.2.2.1)), some (.d (ntT r.2.2.2)), none, none, none] := ⟨_, rfl⟩
    have v5 : Ev (mVar 5) ρ0 (nD r.1) := by rw [h0]; exact ev_var 5 rfl
    have v6 : Ev (mVar 6) ρ0 (nD r.2.1) := by rw [h0]; exact ev_var 6 rfl
    have v2 : Ev (mVar 2) ρ0 (tpD t) := by rw [h0]; exact ev_var 2 rfl
    have v1 : Ev (mVar 1) ρ0 (dY kyD F) := by rw [h0]; exact ev_var 1 rfl
    have v7 : Ev (mVar 7) ρ0 (nD r.2.2.1) := by rw [h0]; exact ev_var 7 rfl
    have v8 : Ev (mVar 8) ρ0 (ntT r.2.2.2) := by rw [h0]; exact ev_var 8 rfl
    have c1 := ev_op (g := gEq) (ev_tup (xs := nl [r.1, r.2.1]) (ea_cons v5 (ea_cons v6 ea_nil))) v2 (gEq_tp (t := (r.1, r.2.1)) (u := t))
    have w0 : wipeE ρ0 [9, 10, 11] = ρ0 := by rw [h0]; rfl
    rw [← h0]
    refine ifB (eb_test c1) (fun hc => ?_) fun hc => ?_
    · have hc := of_decide_eq_true hc
      have e1 : nx1 (lenW F) t i r = (tps (lenW F) r.2.2.1 r.2.2.2).map fun e => (e.1 + 1, e.2.1, It.r i :: e.2.2) := by
        unfold nx1
        rw [if_pos hc]
      rw [e1] at nl2 ⊢
      have tl : ∀ f ∈ tps (lenW F) r.2.2.1 r.2.2.2, f.2.2.length ≤ 2 := fun f hf => by
        obtain ⟨k, ks, hk, h1, h2, h3⟩ := tps_of G hf
        have := h3.len
        rw [List.length_take] at this
        rw [h2, List.length_map]
        omega
      have ct := ev_calO (ea_cons v1 (ea_cons v7 (ea_cons v8 ea_nil))) (tops_ok G ha (st := r.2.2.2) (by omega)) rfl
      generalize tps (lenW F) r.2.2.1 r.2.2.2 = T at tl nl2 ct ⊢
      rw [List.length_map] at nl2
      have lc := lcG (emb := entD) (ls := T) (t := fun _ => true) (f := fun e => entD (e.1 + 1, e.2.1, It.r i :: e.2.2)) (own := [9, 10, 11]) (gm := gmTup 3 (gmCons (gmName 9) (gmCons (gmName 10) (gmCons (gmName 11) gmNil)))) (ft := mYes) (fI := iSeq (mCall f_tops (aCons (mVar 1) (aCons (mVar 7) (aCons (mVar 8) aNil)))))
        (fe := mTup (aCons (mOp gAdd (mVar 9) (mC (.int 1))) (aCons (mVar 10) (aCons (mTup (aCons (mTup (aCons (mVar 4) aNil)) (aStar (mVar 11) aNil))) aNil))))
        (ρ := ρ0) (E := fun e => ((ρ0.set 9 (some (.d (nD e.1)))).set 10 (some (.d (tpD e.2.1)))).set 11 (some (.d (trD e.2.2)))) (ei_seq ct rfl) w0 (fun f _ => eg_3) (fun f _ => eb_yes) (fun f hf _ => by
          have t2 := tl f hf
          rw [h0]
          simp only [List.set_cons_succ, List.set_cons_zero]
          exact ev_tup (xs := [nD (f.1 + 1), tpD f.2.1, trD (It.r i :: f.2.2)]) (ea_cons (ev_op (ev_var (x := nD f.1) 9 rfl) ev_c rfl) (ea_cons (ev_var (x := tpD f.2.1) 10 rfl) (ea_cons (ev_tup (xs := itD (.r i) :: (f.2.2.map itD ++ [])) (ea_cons (ev_tup (ea_cons (ev_var (x := nD i) 4 rfl) ea_nil)) (ea_star (ev_var (x := trD f.2.2) 11 rfl) rfl ea_nil)) (decide_eq_true (by simp; omega)) |> fun h => by
            rw [List.append_nil] at h
            exact h) ea_nil)))) (fun f _ => by rw [h0]; rfl) (by omega)
      rw [List.filter_eq_self.mpr (fun _ _ => rfl)] at lc
      have e3 : ρ0[3]? = some (some (.o none (.lst ((nxs R (lenW F) t i).map entD)))) := by rw [h0]; rfl
      refine augL e3 lc (by rw [List.length_map, List.length_map]; omega) ⟨fun _ => ⟨some (.d (nD i)), some (.d (nD r.1)), some (.d (nD r.2.1)), some (.d (nD r.2.2.1)), some (.d (ntT r.2.2.2)), ?_⟩, fun z => (nomatch z), fun s z => (nomatch z)⟩
      rw [h0, List.map_map]
      rfl
    · have hc := of_decide_eq_false hc
      have e1 : nx1 (lenW F) t i r = [] := by
        unfold nx1
        rw [if_neg hc]
      rw [e1, ok_nx, List.map_nil, List.append_nil]
      exact ⟨fun _ => ⟨some (.d (nD i)), some (.d (nD r.1)), some (.d (nD r.2.1)), some (.d (nD r.2.2.1)), some (.d (ntT r.2.2.2)), h0⟩, fun z => (nomatch z), fun s z => (nomatch z)⟩
  · rintro ρ ⟨x4, x5, x6, x7, x8, rfl⟩
    rw [List.length_map]
    refine ⟨rfl, ?_⟩
    exact retO rfl (.inl ⟨_, rfl, rfl⟩)
end
end Fx.Sk
/-! stacks of labels on data: all tops that can come -/
namespace Fx.Sk
open PySem Lib Nl Up
section
variable {R : List Ru} {F : Wy Ky} {x0 : Pk} {b0 n0 r0 : Nat}
/-- what is told of a top that was found -/
def Snd (R : List Ru) (F : Wy Ky) (x0 : Pk) (b0 n0 r0 : Nat) (t : Tp) (x : Nat × Tr) : Prop := (∃ rest, Leads R F x.2 x0 (t.1, t.2 :: rest) ∧ rest.length ≤ r0 + 9) ∧ sz F x.2 ≤ b0 + (sj R 1 + sj R 2 * (1 + top R)) ∧ x.2.length ≤ n0 + 18 ∧ t.1 < 8 ∧ t.2 < 6
/-- what the search knows at each of its turns -/
structure Sch (R : List Ru) (F : Wy Ky) (x0 : Pk) (b0 n0 r0 : Nat) (E0 : List Ent) (K : Wy Tp) (Ws : List Ent) : Prop where
  nd : (K.map (·.1)).Nodup
  wt : ∀ e ∈ Ws, EnOk R F x0 b0 n0 r0 (K.map (·.1)) e
  fd : ∀ t x, (t, x) ∈ K → Snd R F x0 b0 n0 r0 t x
  st : ∀ e ∈ E0, e.2.1 ∈ K.map (·.1) ∨ ∃ w ∈ Ws, w.2.1 = e.2.1
  cl : ∀ t ∈ K.map (·.1), ∀ e ∈ nxs R (lenW F) t R.length, e.2.1 ∈ K.map (·.1) ∨ ∃ w ∈ Ws, w.2.1 = e.2.1
theorem Sch.few {E0 : List Ent} {K : Wy Tp} {Ws : List Ent} (h : Sch R F x0 b0 n0 r0 E0 K Ws) : K.length ≤ 48 := by
  have := List.Nodup.length_le_of_subset (l₂ := (List.range 8).flatMap fun p => (List.range 6).map fun l => ((p, l) : Tp)) h.nd fun t ht => by
    obtain ⟨f, hf, rfl⟩ := List.mem_map.mp ht
    obtain ⟨_, _, _, h1, h2⟩ := h.fd _ _ (show (f.1, f.2) ∈ K from hf)
    exact List.mem_flatMap.mpr ⟨f.1.1, List.mem_range.mpr h1, List.mem_map.mpr ⟨f.1.2, List.mem_range.mpr h2, rfl⟩⟩
  rw [List.length_map] at this
  have e : ((List.range 8).flatMap fun p => (List.range 6).map fun l => ((p, l) : Tp)).length = 48 := by decide
  rw [e] at this
  exact this
theorem Sch.skip {E0 : List Ent} {K : Wy Tp} {Ws Ms : List Ent} {e : Ent} (h : Sch R F x0 b0 n0 r0 E0 K (e :: Ws)) (he : e.2.1 ∈ K.map (·.1)) (hM : Ms.Perm Ws) : Sch R F x0 b0 n0 r0 E0 K Ms := by
  refine ⟨h.nd, fun w hw => h.wt w (List.mem_cons_of_mem _ (hM.mem_iff.mp hw)), h.fd, fun f hf => ?_, fun t ht f hf => ?_⟩
  · rcases h.st f hf with q | ⟨w, hw, q⟩
    · exact .inl q
    · rcases List.mem_cons.mp hw with rfl | hw
      · exact .inl (q ▸ he)
      · exact .inr ⟨w, hM.mem_iff.mpr hw, q⟩
  · rcases h.cl t ht f hf with q | ⟨w, hw, q⟩
    · exact .inl q
    · rcases List.mem_cons.mp hw with rfl | hw
      · exact .inl (q ▸ he)
      · exact .inr ⟨w, hM.mem_iff.mpr hw, q⟩
def ext (e : Ent) (f : Ent) : Ent := (e.1 + f.1, f.2.1, e.2.2 ++ f.2.2)
theorem Sch.take (O : ROk R) (h5 : ∀ r ∈ R, ∀ x ∈ r.2.2.2, x < 6) (G : Good R F) (X : Fix R F) {E0 : List Ent} {K : Wy Tp} {Ws Ms : List Ent} {e : Ent} (h : Sch R F x0 b0 n0 r0 E0 K (e :: Ws)) (he : e.2.1 ∉ K.map (·.1)) (hM : Ms.Perm (Ws ++ (nxs R (lenW F) e.2.1 R.length).map (ext e))) : Sch R F x0 b0 n0 r0 E0 (K ++ [(e.2.1, e.1, e.2.2)]) Ms := by
  have hk : (K ++ [(e.2.1, e.1, e.2.2)]).map (·.1) = K.map (·.1) ++ [e.2.1] := by rw [List.map_append]; rfl
  have we := h.wt e List.mem_cons_self
  have own : e.2.1 ∈ K.map (·.1) ++ [e.2.1] := List.mem_append_right _ (List.mem_singleton.mpr rfl)
  refine ⟨?_, fun w hw => ?_, fun t x hx => ?_, fun f hf => ?_, fun t ht f hf => ?_⟩
  · rw [hk]
    refine List.nodup_append.mpr ⟨h.nd, by simp, fun a ha b hb z => ?_⟩
    rw [List.mem_singleton.mp hb] at z
    exact he (z ▸ ha)
  · rw [hk]
    rcases List.mem_append.mp (hM.mem_iff.mp hw) with hw | hw
    · exact (h.wt w (List.mem_cons_of_mem _ hw)).grow
    · obtain ⟨f, hf, rfl⟩ := List.mem_map.mp hw
      exact we.next O h5 G X he hf
  · rcases List.mem_append.mp hx with hx | hx
    · exact h.fd t x hx
    · have hx := List.mem_singleton.mp hx
      cases hx
      exact we.small O
  · rw [hk]
    rcases h.st f hf with q | ⟨w, hw, q⟩
    · exact .inl (List.mem_append_left _ q)
    · rcases List.mem_cons.mp hw with rfl | hw
      · exact .inl (q ▸ own)
      · exact .inr ⟨w, hM.mem_iff.mpr (List.mem_append_left _ hw), q⟩
  · rw [hk] at ht ⊢
    rcases List.mem_append.mp ht with ht | ht
    · rcases h.cl t ht f hf with q | ⟨w, hw, q⟩
      · exact .inl (List.mem_append_left _ q)
      · rcases List.mem_cons.mp hw with rfl | hw
        · exact .inl (q ▸ own)
        · exact .inr ⟨w, hM.mem_iff.mpr (List.mem_append_left _ hw), q⟩
    · rw [List.mem_singleton.mp ht] at hf
      exact .inr ⟨_, hM.mem_iff.mpr (List.mem_append_right _ (List.mem_map.mpr ⟨f, hf, rfl⟩)), rfl⟩
theorem put_new {K : Wy Tp} {t : Tp} {x : Nat × Tr} (h : t ∉ K.map (·.1)) : putY K t x = K ++ [(t, x)] := by
  unfold putY
  rw [if_neg]
  intro z
  exact h (hasY_iff.mp z)
theorem not_has {K : Wy Tp} {t : Tp} (h : hasY K t = false) : t ∉ K.map (·.1) := fun z => by
  rw [hasY_iff.mpr z] at h
  cases h
theorem tops_from_ok (O : ROk R) (h5 : ∀ r ∈ R, ∀ x ∈ r.2.2.2, x < 6) (G : Good R F) (X : Fix R F) {E0 : List Ent} (hE : ∀ e ∈ E0, EnOk R F x0 b0 n0 r0 [] e) (hl : E0.length ≤ 2000) (hn : n0 ≤ 100) :
    OKF (f_tops_from [.d (rusD R), .d (dY kyD F), .d (.lst (E0.map entD))]) fun s => ∃ K : Wy Tp, s = .o none (dY tpD K) ∧ (K.map (·.1)).Nodup ∧ (∀ e ∈ E0, e.2.1 ∈ K.map (·.1)) ∧ Clo R F (K.map (·.1)) ∧ (∀ t x, (t, x) ∈ K → Snd R F x0 b0 n0 r0 t x) ∧ K.length ≤ 48 := by
  unfold f_tops_from
  refine okF_runF.mpr ⟨rfl, ?_⟩
  show OK (b_tops_from [some (.d (rusD R)), some (.d (dY kyD F)), some (.d (.lst (E0.map entD))), none, none, none, none, none, none, none, none]) _
  unfold b_tops_from
  have few := O.few
  refine sq (asgNew ⟨rfl, ?_⟩)
  simp only [List.set_cons_succ, List.set_cons_zero]
  refine sq ?_
  rw [ok_asgO, ok_cb]
  refine (ea_cons (ev_var (x := .lst (E0.map entD)) 2 rfl) ea_nil).ok ⟨.o none (.lst (E0.map entD)), rfl, .inl ⟨_, rfl, ?_⟩⟩
  refine ⟨rfl, ?_⟩
  simp only [List.set_cons_succ, List.set_cons_zero]
  refine sq (heapify_ok rfl (by omega) fun W0 hW0 => ⟨rfl, ?_⟩)
  simp only [List.set_cons_succ, List.set_cons_zero]
  have S0 : Sch R F x0 b0 n0 r0 E0 [] W0 := ⟨List.nodup_nil, fun e he => hE e (hW0.mem_iff.mp he), fun t x h => (nomatch h), fun e he => .inr ⟨e, hW0.mem_iff.mpr he, rfl⟩, fun t h => (nomatch h)⟩
  have l0 := hW0.length_eq
  refine sq (ok_while (I := fun m ρ => ∃ (K : Wy Tp) (Ws : List Ent) (x5 x6 x7 x8 x9 x10 : Option Fx.S), ρ = [some (.d (rusD R)), some (.d (dY kyD F)), some (.d (.lst (E0.map entD))), some (.o none (dY tpD K)), some (.o none (.lst (Ws.map entD))), x5, x6, x7, x8, x9, x10] ∧ Sch R F x0 b0 n0 r0 E0 K Ws ∧ Ws.length ≤ 20000 ∧ m = Ws.length + (48 - K.length) * 200 ∧ m ≤ 20000) (m := W0.length + 48 * 200) ?_ (by omega) ⟨[], W0, none, none, none, none, none, none, rfl, S0, by omega, rfl, by omega⟩)
  rintro m ρ ⟨K, Ws, x5, x6, x7, x8, x9, x10, rfl, hS, hw, rfl, hm⟩
  refine (eb_truO (ds := Ws.map entD) rfl).ok ⟨fun hb => ?_, fun hb => ?_⟩
  · cases Ws with
    | nil => simp at hb
    | cons e Ws =>
      rw [List.length_cons] at hw hm
      have fewK := hS.few
      obtain ⟨_, _, tl, t1, t2⟩ := (hS.wt e List.mem_cons_self).small O
      refine sq ?_
      rw [ok_asg, ok_dv]
      refine pop_ok rfl (by omega) fun Ms hMs => ⟨_, rfl, ?_⟩
      refine eg_3.ok ⟨rfl, ?_⟩
      simp only [List.set_cons_succ, List.set_cons_zero]
      have ml := hMs.length_eq
      have i6 := inNG (neg := true) keyTp (a := e.2.1) (kv := kvY K) (i := 3) (ρ := [some (.d (rusD R)), some (.d (dY kyD F)), some (.d (.lst (E0.map entD))), some (.o none (dY tpD K)), some (.o none (.lst (Ms.map entD))), some (.d (nD e.1)), some (.d (tpD e.2.1)), some (.d (trD e.2.2)), x8, x9, x10]) rfl (ev_var (x := tpD e.2.1) 6 rfl)
      rw [if_pos rfl, has_kv] at i6
      refine ifB (eb_test i6) (fun hc => ?_) fun hc => ?_
      · have hnew : e.2.1 ∉ K.map (·.1) := not_has (by simpa using hc)
        have st : Ev (mTup (aCons (mVar 5) (aCons (mVar 7) aNil))) [some (.d (rusD R)), some (.d (dY kyD F)), some (.d (.lst (E0.map entD))), some (.o none (dY tpD K)), some (.o none (.lst (Ms.map entD))), some (.d (nD e.1)), some (.d (tpD e.2.1)), some (.d (trD e.2.2)), x8, x9, x10] (wyD (e.1, e.2.2)) := ev_tup (ea_cons (ev_var 5 rfl) (ea_cons (ev_var 7 rfl) ea_nil))
        refine sq ?_
        rw [ok_asg]
        refine st.dv ?_
        refine gitemG keyTp (kv := kvY K) (a := e.2.1) (o := none) rfl (ev_var 6 rfl) (by unfold kvY; rw [List.length_map]; omega) ⟨rfl, ?_⟩
        rw [put_kv, put_new hnew]
        simp only [List.set_cons_succ, List.set_cons_zero]
        have cn := ev_calO (ea_cons (ev_var (x := rusD R) 0 (ρ := [some (.d (rusD R)), some (.d (dY kyD F)), some (.d (.lst (E0.map entD))), some (.o none (dY tpD (K ++ [(e.2.1, e.1, e.2.2)]))), some (.o none (.lst (Ms.map entD))), some (.d (nD e.1)), some (.d (tpD e.2.1)), some (.d (trD e.2.2)), x8, x9, x10]) rfl) (ea_cons (ev_var (x := dY kyD F) 1 rfl) (ea_cons (ev_var (x := tpD e.2.1) 6 rfl) ea_nil))) (next_ok O G (t := e.2.1)) rfl
        have nlen := nxs_len O G (t := e.2.1) R.length
        have tlen : ∀ f ∈ nxs R (lenW F) e.2.1 R.length, f.2.2.length ≤ 2 := fun f hf => by
          obtain ⟨i, r, _, hr, _, g, hg, rfl⟩ := mem_nxs.mp hf
          exact (nx_step O G X hr hg).2.1
        have fin' := fun {Ls : List Ent} (h : Ls.Perm (Ws ++ (nxs R (lenW F) e.2.1 R.length).map (ext e))) => hS.take O h5 G X hnew h
        generalize nxs R (lenW F) e.2.1 R.length = N at cn nlen tlen fin'
        refine forG (emb := entD) (ls := N) (I := fun k ρ => ∃ (Ls : List Ent) (x8 x9 x10 : Option Fx.S), ρ = [some (.d (rusD R)), some (.d (dY kyD F)), some (.d (.lst (E0.map entD))), some (.o none (dY tpD (K ++ [(e.2.1, e.1, e.2.2)]))), some (.o none (.lst (Ls.map entD))), some (.d (nD e.1)), some (.d (tpD e.2.1)), some (.d (trD e.2.2)), x8, x9, x10] ∧ Ls.Perm (Ws ++ (N.take k).map (ext e))) (ei_seq cn rfl) ⟨Ms, x8, x9, x10, rfl, by rw [List.take_zero, List.map_nil, List.append_nil]; exact hMs⟩ ?_ ?_
        · rintro k f ρ hk ⟨Ls, x8, x9, x10, rfl, hLs⟩
          have ll := hLs.length_eq
          rw [List.length_append, List.length_map, List.length_take] at ll
          have f2 := tlen f (List.mem_of_getElem? hk)
          refine ⟨_, eg_3, ?_⟩
          simp only [List.set_cons_succ, List.set_cons_zero]
          have ga := ev_op (z := nD (e.1 + f.1)) (ev_var (x := nD e.1) 5 (ρ := [some (.d (rusD R)), some (.d (dY kyD F)), some (.d (.lst (E0.map entD))), some (.o none (dY tpD (K ++ [(e.2.1, e.1, e.2.2)]))), some (.o none (.lst (Ls.map entD))), some (.d (nD e.1)), some (.d (tpD e.2.1)), some (.d (trD e.2.2)), some (.d (nD f.1)), some (.d (tpD f.2.1)), some (.d (trD f.2.2))]) rfl) (ev_var (x := nD f.1) 8 rfl) (g := gAdd) (by
            show some (S.d (.int ((e.1 : Int) + (f.1 : Nat)))) = some (S.d (.int ((e.1 + f.1 : Nat) : Int)))
            rw [Int.natCast_add])
          have tu : Ev (mTup (aStar (mVar 7) (aStar (mVar 10) aNil))) [some (.d (rusD R)), some (.d (dY kyD F)), some (.d (.lst (E0.map entD))), some (.o none (dY tpD (K ++ [(e.2.1, e.1, e.2.2)]))), some (.o none (.lst (Ls.map entD))), some (.d (nD e.1)), some (.d (tpD e.2.1)), some (.d (trD e.2.2)), some (.d (nD f.1)), some (.d (tpD f.2.1)), some (.d (trD f.2.2))] (trD (e.2.2 ++ f.2.2)) := by
            have := ev_tup (xs := e.2.2.map itD ++ (f.2.2.map itD ++ [])) (ea_star (ev_var (x := trD e.2.2) 7 (ρ := [some (.d (rusD R)), some (.d (dY kyD F)), some (.d (.lst (E0.map entD))), some (.o none (dY tpD (K ++ [(e.2.1, e.1, e.2.2)]))), some (.o none (.lst (Ls.map entD))), some (.d (nD e.1)), some (.d (tpD e.2.1)), some (.d (trD e.2.2)), some (.d (nD f.1)), some (.d (tpD f.2.1)), some (.d (trD f.2.2))]) rfl) rfl (ea_star (ev_var (x := trD f.2.2) 10 rfl) rfl ea_nil)) (decide_eq_true (by simp; omega))
            rw [List.append_nil, ← List.map_append] at this
            exact this
          have te := ev_tup (ea_cons ga (ea_cons (ev_var (x := tpD f.2.1) 9 rfl) (ea_cons tu ea_nil)))
          refine push_ok (x := ext e f) rfl te (by omega) fun Ps hPs => ⟨fun _ => ⟨Ps, some (.d (nD f.1)), some (.d (tpD f.2.1)), some (.d (trD f.2.2)), rfl, ?_⟩, fun z => (nomatch z), fun s z => (nomatch z)⟩
          rw [List.take_add_one, hk, List.map_append, ← List.append_assoc]
          exact hPs.trans (hLs.append_right _)
        · rintro ρ ⟨Ls, x8, x9, x10, rfl, hLs⟩
          rw [List.take_length] at hLs
          have ll := hLs.length_eq
          rw [List.length_append, List.length_map] at ll
          have hS2 := fin' hLs
          have k2 := hS2.few
          rw [List.length_append, List.length_singleton] at k2
          refine ⟨rfl, _, ?_, K ++ [(e.2.1, e.1, e.2.2)], Ls, some (.d (nD e.1)), some (.d (tpD e.2.1)), some (.d (trD e.2.2)), x8, x9, x10, rfl, hS2, by omega, rfl, ?_⟩
          · rw [List.length_append, List.length_singleton, List.length_cons]
            omega
          · rw [List.length_append, List.length_singleton]
            omega
      · have hold : e.2.1 ∈ K.map (·.1) := hasY_iff.mp (by simpa using hc)
        rw [ok_nx]
        refine ⟨rfl, _, ?_, K, Ms, some (.d (nD e.1)), some (.d (tpD e.2.1)), some (.d (trD e.2.2)), x8, x9, x10, rfl, hS.skip hold hMs, by omega, rfl, by omega⟩
        rw [List.length_cons]
        omega
  · have hw : Ws = [] := by
      cases Ws with
      | nil => rfl
      | cons e Ws => simp at hb
    subst hw
    have fewK := hS.few
    refine ⟨rfl, ?_⟩
    refine retO rfl (.inl ⟨_, rfl, K, rfl, hS.nd, fun e he => ?_, fun t ht e he => ?_, hS.fd, fewK⟩)
    · rcases hS.st e he with q | ⟨w, hw, _⟩
      · exact q
      · cases hw
    · rcases hS.cl t ht e he with q | ⟨w, hw, _⟩
      · exact q
      · cases hw
end
end Fx.Sk
/-! stacks of labels on data: visit_run -/
namespace Fx.Sk
open PySem Lib Nl Up
theorem min_wy {L : List (Nat × Tr)} {x : Nat × Tr} {ρ : En} {fe : Fx.M Fx.S} (h : Ev fe ρ (.lst ((x :: L).map wyD))) : ∃ y ∈ x :: L, Ev (mCB gMinD (aCons fe aNil)) ρ (wyD y) := by
  have hp := hp_wy (L := x :: L)
  unfold hpOk at hp
  rw [List.map_cons] at h hp
  have hm := minDD_mem (L.map wyD) (wyD x)
  rw [← List.map_cons] at hm
  obtain ⟨y, hy, e⟩ := List.mem_map.mp hm
  refine ⟨y, hy, ev_cb (ea_cons h ea_nil) ?_⟩
  show (if (plA 60 (wyD x :: L.map wyD) && alikeB (wyD x :: L.map wyD)) = true then ok1 (minDD (wyD x) (L.map wyD)) else none) = _
  rw [if_pos hp, e]
  rfl
section
variable {R : List Ru}
theorem labs6 (O : RulesOk R) : ∀ r ∈ R, ∀ x ∈ r.2.2.2, x < 6 := fun r hr x hx => by
  have := O.labs r hr x hx
  omega
theorem vis_ok (O : RulesOk R) {n g : Nat} {st : List Nat} (hn : n < 8) (hg : g < 8) (h5 : ∀ x ∈ st, x ≤ 5) (hl : st.length ≤ 3) : OKF (f_visit_run [.d (rusD R), .d (nD n), .d (ntT st), .d (nD g)]) fun s => (s = .d .non ∧ ¬ ∃ ns ls, Run R (n, st) ns (g, ls)) ∨ ∃ ns ls, s = .d (ntT ns) ∧ Run R (n, st) ns (g, ls) ∧ ns.length ≤ 16777213 ∧ ls.length ≤ 20 := by
  obtain ⟨_, ⟨F, rfl, G, X⟩, hd⟩ := okF_ex (drains_ok O.ok)
  have h6 : ∀ x ∈ st, x < 6 := fun x hx => by have := h5 x hx; omega
  have tl := tops_len (st := st) G hn
  obtain ⟨_, ⟨K, rfl, nd, hst, hcl, hfd, hk⟩, hf⟩ := okF_ex (tops_from_ok O.ok (labs6 O) G X (E0 := tps (lenW F) n st) (x0 := (n, st)) (b0 := st.length * top R) (n0 := st.length) (r0 := st.length) (fun e he => EnOk.first O.ok G X hn h6 he) (by omega) (by omega))
  unfold f_visit_run
  refine okF_runF.mpr ⟨rfl, ?_⟩
  show OK (b_visit_run [some (.d (rusD R)), some (.d (nD n)), some (.d (ntT st)), some (.d (nD g)), none, none, none, none, none, none]) _
  unfold b_visit_run
  refine drop_ok (ev_call (ea_cons (ev_var (x := rusD R) 0 rfl) (ea_cons (ev_var (x := nD n) 1 rfl) (ea_cons (ev_var (x := ntT st) 2 rfl) ea_nil))) (packet_ok O hn h5 (by omega))) ?_
  refine drop_ok (ev_call (ea_cons (ev_var (x := nD g) 3 rfl) ea_nil) (cnode_ok hg)) ?_
  refine sq (asg (ev_calO (ea_cons (ev_var (x := rusD R) 0 rfl) ea_nil) hd rfl) ⟨rfl, ?_⟩)
  simp only [List.set_cons_succ, List.set_cons_zero]
  refine sq (asg (ev_call (ea_cons (ev_var (x := dY kyD F) 4 rfl) (ea_cons (ev_var (x := nD n) 1 rfl) (ea_cons (ev_var (x := ntT st) 2 rfl) ea_nil))) (drainedD (ls := st) G.h8 hn (by omega))) ⟨rfl, ?_⟩)
  simp only [List.set_cons_succ, List.set_cons_zero]
  have ct := ev_calO (ea_cons (ev_var (x := dY kyD F) 4 (ρ := [some (.d (rusD R)), some (.d (nD n)), some (.d (ntT st)), some (.d (nD g)), some (.d (dY kyD F)), some (.d (dY nD (drn (lenW F) n st))), none, none, none, none]) rfl) (ea_cons (ev_var (x := nD n) 1 rfl) (ea_cons (ev_var (x := ntT st) 2 rfl) ea_nil))) (tops_ok G hn (st := st) (by omega)) rfl
  refine sq (asg (ev_calO (ea_cons (ev_var (x := rusD R) 0 rfl) (ea_cons (ev_var (x := dY kyD F) 4 rfl) (ea_cons ct ea_nil))) hf rfl) ⟨rfl, ?_⟩)
  simp only [List.set_cons_succ, List.set_cons_zero]
  have dr := drn_ok (W := lenW F) (a := n) (ls := st) G.h8
  have hi := drn_iff G X (a := n) (e := g) (st := st)
  have dl := drn_len (st := st) G hn
  have all := fun {ns : List Nat} {l : Nat} {rest : List Nat} (h : Run R (n, st) ns (g, l :: rest)) => visit_all G X hcl hst h
  clear ct hd hf
  generalize drn (lenW F) n st = M at dr hi dl ⊢
  obtain ⟨ρ0, h0⟩ : ∃ ρ0 : En, ρ0 = [some (.d (rusD R)), some (.d (nD n)), some (.d (ntT st)), some (.d (nD g)), some (.d (dY kyD F)), some (.d (dY nD M)), some (.d (dY tpD K)), none, none, none] := ⟨_, rfl⟩
  have l1 := lcG (emb := fun f : Tp × Nat × Tr => tpD f.1) (ls := K) (t := fun f => decide ((f.1.1 : Int) = (g : Int))) (f := fun f => wyD f.2) (own := [8]) (gm := gmName 8) (ft := mTest (mOp gEq (mOp gIx (mVar 8) (mC (.int 0))) (mVar 3))) (fI := iKeysD (mVar 6)) (fe := mOp gDget (mVar 6) (mVar 8)) (ρ := ρ0) (E := fun f => ρ0.set 8 (some (.d (tpD f.1)))) (by
    have := ei_keysG (f := tpD) (kv := kvY K) (fa := mVar 6) (ρ := ρ0) (by rw [h0]; exact ev_var 6 rfl)
    unfold kvY at this
    rw [List.map_map] at this
    exact this) (by rw [h0]; rfl) (fun f _ => eg_name) (fun f _ => by
    rw [h0]
    simp only [List.set_cons_succ, List.set_cons_zero]
    exact eb_test (ev_eq (ev_ixT (i := 0) (x := nD f.1.1) (ev_var (x := tpD f.1) 8 rfl) ev_c rfl) (ev_var (x := nD g) 3 rfl))) (fun f hf _ => by
    have gf := mem_getY nd (show (f.1, f.2) ∈ K from hf)
    rw [h0]
    simp only [List.set_cons_succ, List.set_cons_zero]
    exact dgetG keyTp (kv := kvY K) (a := f.1) (x := wyD f.2) (ev_var (x := dY tpD K) 6 rfl) (ev_var 8 rfl) (by rw [get_kv, gf]; rfl)) (fun f _ => by rw [h0]; rfl) (by omega)
  have l2 := lcG (emb := fun f : Nat × Nat × Tr => nD f.1) (ls := M) (t := fun f => decide ((f.1 : Int) = (g : Int))) (f := fun f => wyD f.2) (own := [9]) (gm := gmName 9) (ft := mTest (mOp gEq (mVar 9) (mVar 3))) (fI := iKeysD (mVar 5)) (fe := mOp gDget (mVar 5) (mVar 9)) (ρ := ρ0) (E := fun f => ρ0.set 9 (some (.d (nD f.1)))) (by
    have := ei_keysG (f := nD) (kv := kvY M) (fa := mVar 5) (ρ := ρ0) (by rw [h0]; exact ev_var 5 rfl)
    unfold kvY at this
    rw [List.map_map] at this
    exact this) (by rw [h0]; rfl) (fun f _ => eg_name) (fun f _ => by
    rw [h0]
    simp only [List.set_cons_succ, List.set_cons_zero]
    exact eb_test (ev_eq (ev_var (x := nD f.1) 9 rfl) (ev_var (x := nD g) 3 rfl))) (fun f hf _ => by
    have gf := mem_getY dr.nd (show (f.1, f.2) ∈ M from hf)
    rw [h0]
    simp only [List.set_cons_succ, List.set_cons_zero]
    exact dgetG keyNn (kv := kvY M) (a := f.1) (x := wyD f.2) (ev_var (x := dY nD M) 5 rfl) (ev_var 9 rfl) (by rw [get_kv, gf]; rfl)) (fun f _ => by rw [h0]; rfl) (by omega)
  have fl1 : (K.filter fun f => decide ((f.1.1 : Int) = (g : Int))).length ≤ 48 := Nat.le_trans (List.length_filter_le _ _) hk
  have fl2 : (M.filter fun f => decide ((f.1 : Int) = (g : Int))).length ≤ 8 := Nat.le_trans (List.length_filter_le _ _) dl
  have l3 := ev_catL l1 l2 (decide_eq_true (by rw [List.length_map, List.length_map]; omega))
  obtain ⟨T, hT⟩ : ∃ T : List (Nat × Tr), T = (K.filter fun f => decide ((f.1.1 : Int) = (g : Int))).map (·.2) ++ (M.filter fun f => decide ((f.1 : Int) = (g : Int))).map (·.2) := ⟨_, rfl⟩
  have eT : (K.filter fun f => decide ((f.1.1 : Int) = (g : Int))).map (fun f => wyD f.2) ++ (M.filter fun f => decide ((f.1 : Int) = (g : Int))).map (fun f => wyD f.2) = T.map wyD := by
    rw [hT, List.map_append, List.map_map, List.map_map]
    rfl
  rw [eT] at l3
  have hsnd : ∀ x ∈ T, ∃ ls, Leads R F x.2 (n, st) (g, ls) ∧ ls.length ≤ 20 ∧ sz F x.2 ≤ 16777213 := fun x hx => by
    rw [hT] at hx
    have tp := top_le O.ok
    rcases List.mem_append.mp hx with hx | hx
    · obtain ⟨f, hf, rfl⟩ := List.mem_map.mp hx
      obtain ⟨hf1, hf2⟩ := List.mem_filter.mp hf
      have hf2 := of_decide_eq_true hf2
      obtain ⟨⟨rest, q1, q2⟩, q3, q4, _⟩ := hfd f.1 f.2 hf1
      have e : f.1.1 = g := by omega
      rw [e] at q1
      refine ⟨_, q1, by rw [List.length_cons]; omega, ?_⟩
      have e1 : (3 + sj R 2) * top R = 3 * top R + sj R 2 * top R := Nat.add_mul ..
      have e2 : sj R 2 * (1 + top R) = sj R 2 + sj R 2 * top R := by rw [Nat.mul_add, Nat.mul_one]
      have e3 : st.length * top R ≤ 3 * top R := Nat.mul_le_mul_right _ hl
      omega
    · obtain ⟨f, hf, rfl⟩ := List.mem_map.mp hx
      obtain ⟨hf1, hf2⟩ := List.mem_filter.mp hf
      have hf2 := of_decide_eq_true hf2
      have e : f.1 = g := by omega
      obtain ⟨ks, e2, hc⟩ := dr.snd _ _ (mem_getY dr.nd (show (f.1, f.2) ∈ M from hf1))
      have L := chain_leads (R := R) hc
      rw [← e2, e] at L
      refine ⟨[], L, by simp, ?_⟩
      have z1 := (chain_sz hc).1
      have z2 := chain_top O.ok G X hc
      rw [← e2] at z1
      rw [z1]
      have e1 : (3 + sj R 2) * top R = 3 * top R + sj R 2 * top R := Nat.add_mul ..
      have e3 : st.length * top R ≤ 3 * top R := Nat.mul_le_mul_right _ hl
      omega
  have hcmp : T = [] → ¬ ∃ ns ls, Run R (n, st) ns (g, ls) := fun e => by
    rw [hT, List.append_eq_nil_iff, List.map_eq_nil_iff, List.map_eq_nil_iff] at e
    rintro ⟨ns, ls, h⟩
    cases ls with
    | nil =>
      have := hi.mpr ⟨ns, h⟩
      obtain ⟨x, hx⟩ := has_getY this
      have hm : (g, x) ∈ M.filter fun f => decide ((f.1 : Int) = (g : Int)) := List.mem_filter.mpr ⟨getY_mem hx, decide_eq_true rfl⟩
      rw [e.2] at hm
      cases hm
    | cons l rest =>
      obtain ⟨f, hf, e1⟩ := List.mem_map.mp (all h)
      have hm : f ∈ K.filter fun f => decide ((f.1.1 : Int) = (g : Int)) := List.mem_filter.mpr ⟨hf, decide_eq_true (by rw [e1])⟩
      rw [e.1] at hm
      cases hm
  rw [← h0]
  refine sq (asg l3 ⟨rfl, ?_⟩)
  rw [h0]
  simp only [List.set_cons_succ, List.set_cons_zero]
  clear l1 l2 l3 eT hT fl1 fl2
  have v7 := ev_var (x := .lst (T.map wyD)) 7 (ρ := [some (.d (rusD R)), some (.d (nD n)), some (.d (ntT st)), some (.d (nD g)), some (.d (dY kyD F)), some (.d (dY nD M)), some (.d (dY tpD K)), some (.d (.lst (T.map wyD))), none, none]) rfl
  cases T with
  | nil =>
    have e1 : Ev (mIf (mTruth (mVar 7)) (mCall f_run_of (aCons (mVar 4) (aCons (mOp gIx (mCB gMinD (aCons (mVar 7) aNil)) (mC (.int 1))) aNil))) (mC .non)) [some (.d (rusD R)), some (.d (nD n)), some (.d (ntT st)), some (.d (nD g)), some (.d (dY kyD F)), some (.d (dY nD M)), some (.d (dY tpD K)), some (.d (.lst (([] : List (Nat × Tr)).map wyD))), none, none] .non := ev_if (eb_truth (b := false) v7 rfl) (fun z => (nomatch z)) fun _ => ev_c
    exact retE e1 fun s hs => .inl ⟨s, rfl, .inl ⟨toD_back hs rfl, hcmp rfl⟩⟩
  | cons x T =>
    obtain ⟨y, hy, ey⟩ := min_wy v7
    obtain ⟨ls, L, q1, q2⟩ := hsnd y hy
    obtain ⟨_, ⟨ns, rfl, hr, hlen⟩, hc2⟩ := okF_ex (run_of_ok G L (by omega))
    have g1 := ev_ixT (i := 1) (x := trD y.2) ey ev_c rfl
    have g2 := ev_call (ea_cons (ev_var (x := dY kyD F) 4 rfl) (ea_cons g1 ea_nil)) hc2
    refine retE (ev_if (eb_truth (b := true) v7 rfl) (fun _ => g2) fun z => (nomatch z)) fun s hs => .inl ⟨s, rfl, .inr ⟨ns, ls, toD_back hs rfl, hr, by omega, q1⟩⟩
end
end Fx.Sk
/-! k88: the law on data -/
namespace Fx.K88
open PySem Lib Nl Up Sk
theorem e_taken : K88.f_law_taken = Lib.f_law_taken := rfl
theorem e_rules : K88.f_law_stack_rules = Sk.f_law_stack_rules := rfl
theorem e_places : K88.f_law_places = Sk.f_law_places := rfl
theorem e_visit : K88.f_visit_run = Sk.f_visit_run := rfl
theorem e_fwd : K88.f_law_forward = Sk.f_law_forward := rfl
theorem one_plus {v : Nat} : (1 : Int) + (v : Nat) = ((1 + v : Nat) : Int) := by omega
theorem drawT {ρ : En} {ns : List Int} {a b c : Int} {o : Option Nat} {m w : Nat} {r k : Nat} {fm : Fx.M Fx.S} {P : Fx.S → En → Prop} (e : ρ[r]? = some (rowS o ns a b c)) (h : RowOk a b c) (hk : ∀ a b c, (ρ.set r (rowS o ns a b c)).set k none = ρ.set r (rowS o ns a b c)) (k0 : k ≠ r) (w1 : 0 < w) (w2 : w ≤ 1000) (m1 : 0 < m) (m2 : m ≤ 1000) (hm : ∀ a b c x, Ev fm ((ρ.set r (rowS o ns a b c)).set k (some (.d x))) (.int (m : Nat)))
    (q : ∀ (p : List Nat) a b c, p.length < w → (∀ x ∈ p, x < m) → RowOk a b c → P (.d (ntT p)) (ρ.set r (rowS o ns a b c))) :
    OK (mCB gTuple (aCons (mLc (iRange1 (aCons (mCallO Lib.f_law_taken r 0 (aOwn r (aCons (mC (.int (w : Nat))) aNil))) aNil)) (gmName k) mYes (mCallO Lib.f_law_taken r 0 (aOwn r (aCons fm aNil))) [k]) aNil) ρ) P := by
  have hr : r < ρ.length := (List.getElem?_eq_some_iff.mp e).1
  rw [ok_cb, ok_cons, ok_dv, ok_lc]
  refine @ok_range1e _ _ _ ?_
  rw [ok_cons]
  refine tk (r := r) (m := w) e h ev_c w1 (by omega) fun v a1 b1 c1 hv h1 => ?_
  rw [ok_nil]
  refine ⟨((v : Nat) : Int), rfl, by omega, by omega, ?_⟩
  have hk1 : wipeE (ρ.set r (rowS o ns a1 b1 c1)) [k] = ρ.set r (rowS o ns a1 b1 c1) := hk a1 b1 c1
  rw [hk1]
  have er : (ρ.set r (rowS o ns a1 b1 c1))[r]? = some (rowS o ns a1 b1 c1) := List.getElem?_set_self hr
  have ss : ∀ a b c, (ρ.set r (rowS o ns a1 b1 c1)).set r (rowS o ns a b c) = ρ.set r (rowS o ns a b c) := fun a b c => List.set_set ..
  refine ok_compR (r := r) (o := o) (ns := ns) (fun _ y => ∃ v : Int, y = .int v ∧ 0 ≤ v ∧ v < (m : Nat)) er h1 (hk a1 b1 c1) k0 ?_ (by rw [intsFrom_length]; omega) ?_
  · intro i x a b c ρ' hx h e' er
    rw [ok_dv]
    refine ok_taken (m := (m : Nat)) er h ((by rw [e', ss]; exact hm a b c x : Ev fm ρ' (.int (m : Nat))).dv ⟨rfl, rfl⟩) (by omega) (by omega) fun v a b c v0 v1 h => ?_
    exact ⟨_, rfl, ⟨v, rfl, v0, v1⟩, a, b, c, h, rfl⟩
  · intro ys a b c hl hg h
    rw [intsFrom_length, Int.toNat_natCast] at hl
    obtain ⟨vs, rfl, hvl, hv2⟩ := intsD_get (Good := fun v => 0 ≤ v ∧ v < (m : Nat)) hg
    have en : vs.map D.int = nl (vs.map Int.toNat) := by
      rw [nl, List.map_map]
      refine List.map_congr_left fun v hv' => ?_
      show D.int v = D.int (v.toNat : Int)
      rw [Int.toNat_of_nonneg (hv2 v hv').1]
    refine ⟨.lst (vs.map D.int), rfl, ?_⟩
    rw [ok_nil]
    refine ⟨.d (.tup (vs.map D.int)), rfl, ?_⟩
    rw [en, ss]
    refine q _ a b c (by rw [List.length_map]; omega) (fun b hb => ?_) h
    obtain ⟨v, hv', rfl⟩ := List.mem_map.mp hb
    have := hv2 v hv'
    omega
theorem nb_nlL {L : List Nat} : nb 1 (.lst (nl L)) = true := nb_lst fun d hd => by
  obtain ⟨i, _, rfl⟩ := List.mem_map.mp hd
  rfl
theorem law_pure (ns : List Int) (hns : ns.length ≤ 63) : ∃ ρ, f_law [.d (.scr ns)] = .ok (.d (.bl true)) ρ := by
  have key : OK (f_law [.d (.scr ns)]) fun s _ => s = .d (.bl true) := by
    unfold f_law
    refine ok_runF rfl ?_
    show OK (b_law [some (.d (.scr ns)), none, none, none, none, none, none, none, none, none, none, none, none, none, none, none, none]) _
    unfold b_law
    rw [e_taken, e_rules, e_places, e_visit, e_fwd]
    refine sq (asgL (ea_cons (ev_var 0 rfl) (ea_cons ev_c (ea_cons ev_c (ea_cons ev_c ea_nil)))) rfl ⟨rfl, ?_⟩)
    simp only [List.set_cons_succ, List.set_cons_zero]
    have h0 : RowOk 0 3588 0 := by unfold RowOk; decide
    show OK (mSeq _ _ [some (.d (.scr ns)), rowS none ns 0 3588 0, none, none, none, none, none, none, none, none, none, none, none, none, none, none, none]) _
    refine sq (ok_par2 ?_)
    rw [ok_psCons, ok_op]
    refine ev_c.dv ?_
    refine tk (r := 1) (m := 5) rfl h0 ev_c (by omega) (by omega) fun v1 a b c hv1 h => ?_
    refine ⟨.d (.int ((1 : Int) + (v1 : Nat))), rfl, ?_⟩
    simp only [List.set_cons_succ, List.set_cons_zero]
    rw [ok_psCons, ok_op]
    refine ev_c.dv ?_
    refine tk (r := 1) (m := 3) rfl h ev_c (by omega) (by omega) fun v2 a b c hv2 h => ?_
    refine ⟨.d (.int ((1 : Int) + (v2 : Nat))), rfl, ?_⟩
    simp only [List.set_cons_succ, List.set_cons_zero]
    rw [ok_psNil]
    refine ⟨_, _, Fx.S.d (.int ((1 : Int) + (v1 : Nat))), Fx.S.d (.int ((1 : Int) + (v2 : Nat))), rfl, rfl, rfl, trivial, ?_⟩
    simp only [List.set_cons_succ, List.set_cons_zero]
    rw [one_plus, one_plus]
    obtain ⟨nn, hnn⟩ : ∃ nn, nn = 1 + v1 := ⟨_, rfl⟩
    obtain ⟨ll, hll⟩ : ∃ ll, ll = 1 + v2 := ⟨_, rfl⟩
    rw [← hnn, ← hll]
    have n1 : 0 < nn := by omega
    have n2 : nn ≤ 5 := by omega
    have l1 : 0 < ll := by omega
    have l2 : ll ≤ 3 := by omega
    clear hnn hll hv1 hv2
    refine sq ?_
    rw [ok_asg, ok_dv]
    refine drawS (r := 1) (nn := nn) (ll := ll) n1 (by omega) l1 (by omega) rfl h (ev_var (x := nD nn) 2 rfl) (ev_var (x := nD ll) 3 rfl) fun R a b c hR h => ⟨_, rfl, ?_⟩
    rw [ok_gname]
    refine ⟨rfl, ?_⟩
    simp only [List.set_cons_succ, List.set_cons_zero]
    have O := hR.rules n2 l2
    refine sq (forG (emb := nD) (ls := List.range 2) (I := fun t ρ => ∃ a b c x5 x6 x7 x9 x10 x11 x12 x13 x16, RowOk a b c ∧ ρ = [some (.d (.scr ns)), rowS none ns a b c, some (.d (nD nn)), some (.d (nD ll)), some (.d (rusD R)), x5, x6, x7, none, x9, x10, x11, x12, x13, none, none, x16]) (ei_rangeN (ea_cons (ev_c (x := .int (2 : Nat))) ea_nil) (by omega)) ⟨a, b, c, none, none, none, none, none, none, none, none, none, h, rfl⟩ ?_ ?_)
    · clear h a b c
      rintro t tt ρ ht ⟨a, b, c, x5, x6, x7, x9, x10, x11, x12, x13, x16, h, rfl⟩
      refine ⟨_, eg_name, ?_⟩
      simp only [List.set_cons_succ, List.set_cons_zero]
      refine sq (ok_par2 ?_)
      rw [ok_psCons]
      refine tkS (r := 1) (m := nn) rfl h (ev_var (x := nD nn) 2 rfl) n1 (by omega) fun n a b c hn h => ?_
      simp only [List.set_cons_succ, List.set_cons_zero]
      rw [ok_psCons]
      refine drawT (r := 1) (k := 8) (w := 4) (m := ll) rfl h (fun _ _ _ => rfl) (by decide) (by omega) (by omega) l1 (by omega) (fun a b c x => ev_var 3 rfl) fun st a b c hsl hst h => ?_
      simp only [List.set_cons_succ, List.set_cons_zero]
      rw [ok_psNil]
      refine ⟨_, _, Fx.S.d (nD n), Fx.S.d (ntT st), rfl, rfl, rfl, trivial, ?_⟩
      simp only [List.set_cons_succ, List.set_cons_zero]
      have h5 : ∀ x ∈ st, x ≤ 5 := fun x hx => by have := hst x hx; omega
      obtain ⟨_, ⟨P, w, rfl, hP, hS⟩, hd⟩ := Sk.okF_ex (places_ok O.ok (n := n) (deep := 7) (st := st) (by omega) (by omega))
      refine sq ?_
      rw [ok_asg]
      refine (ev_call (ea_cons (ev_var (x := rusD R) 4 rfl) (ea_cons (ev_var (x := nD n) 6 rfl) (ea_cons (ev_var (x := ntT st) 7 rfl) (ea_cons (ev_c (x := nD 7)) ea_nil)))) hd).dv ?_
      refine eg_2.ok ⟨rfl, ?_⟩
      simp only [List.set_cons_succ, List.set_cons_zero]
      clear hd
      refine forG (emb := nD) (ls := List.range nn) (I := fun _ ρ => ∃ x11 x12 x13 x16, ρ = [some (.d (.scr ns)), rowS none ns a b c, some (.d (nD nn)), some (.d (nD ll)), some (.d (rusD R)), some (.d (nD tt)), some (.d (nD n)), some (.d (ntT st)), none, some (.d (.lst (P.map pkD))), some (.d (.bl w)), x11, x12, x13, none, none, x16]) (ei_rangeN (ea_cons (ev_var (x := nD nn) 2 rfl) ea_nil) (by omega)) ⟨x11, x12, x13, x16, rfl⟩ ?_ ?_
      · rintro k e ρ hk ⟨x11, x12, x13, x16, rfl⟩
        have he : e < 8 := by
          have := List.mem_range.mp (List.mem_of_getElem? hk)
          omega
        refine ⟨_, eg_name, ?_⟩
        simp only [List.set_cons_succ, List.set_cons_zero]
        obtain ⟨way, hw0, hd⟩ := Sk.okF_ex (vis_ok O (n := n) (g := e) (st := st) (by omega) he h5 (by omega))
        obtain ⟨y, rfl, hw⟩ : ∃ y, way = .d y ∧ ((y = .non ∧ ¬ ∃ ms ls, Run R (n, st) ms (e, ls)) ∨ ∃ ms ls, y = ntT ms ∧ Run R (n, st) ms (e, ls) ∧ ms.length ≤ 16777213 ∧ ls.length ≤ 20) := by
          rcases hw0 with ⟨rfl, q⟩ | ⟨ms, ls, rfl, q⟩
          · exact ⟨_, rfl, .inl ⟨rfl, q⟩⟩
          · exact ⟨_, rfl, .inr ⟨ms, ls, rfl, q⟩⟩
        clear hw0
        obtain ⟨ρ1, h1⟩ : ∃ ρ1 : En, ρ1 = [some (.d (.scr ns)), rowS none ns a b c, some (.d (nD nn)), some (.d (nD ll)), some (.d (rusD R)), some (.d (nD tt)), some (.d (nD n)), some (.d (ntT st)), none, some (.d (.lst (P.map pkD))), some (.d (.bl w)), some (.d (nD e)), x12, x13, none, none, x16] := ⟨_, rfl⟩
        have p1 := ev_call (ρ := ρ1) (fA := aCons (mVar 4) (aCons (mVar 6) (aCons (mVar 7) (aCons (mVar 11) aNil)))) (by rw [h1]; exact ea_cons (ev_var (x := rusD R) 4 rfl) (ea_cons (ev_var (x := nD n) 6 rfl) (ea_cons (ev_var (x := ntT st) 7 rfl) (ea_cons (ev_var (x := nD e) 11 rfl) ea_nil)))) hd
        have lc := lcG (emb := pkD) (ls := P) (t := fun x => decide ((x.1 : Int) = (e : Int))) (f := fun x => nD x.1) (own := [14, 15]) (gm := gmTup 2 (gmCons (gmName 14) (gmCons (gmName 15) gmNil))) (ft := mTest (mOp gEq (mVar 14) (mVar 11))) (fI := iSeq (mVar 9)) (fe := mVar 14) (ρ := ρ1) (E := fun x => (ρ1.set 14 (some (.d (nD x.1)))).set 15 (some (.d (ntT x.2)))) (ei_seq (x := .lst (P.map pkD)) (by rw [h1]; exact ev_var 9 rfl) rfl) (by rw [h1]; rfl) (fun x _ => eg_2) (fun x _ => by
          rw [h1]
          simp only [List.set_cons_succ, List.set_cons_zero]
          exact eb_test (ev_eq (ev_var (x := nD x.1) 14 rfl) (ev_var (x := nD e) 11 rfl))) (fun x _ _ => by
          rw [h1]
          simp only [List.set_cons_succ, List.set_cons_zero]
          exact ev_var (x := nD x.1) 14 rfl) (fun x _ => by rw [h1]; rfl) (by have := hP.few; omega)
        obtain ⟨can, hcan⟩ : ∃ can : Bool, can = !decide (P.filter (fun x => decide ((x.1 : Int) = (e : Int))) = []) := ⟨_, rfl⟩
        have p2 : Ev (mOp gNe (mLc (iSeq (mVar 9)) (gmTup 2 (gmCons (gmName 14) (gmCons (gmName 15) gmNil))) (mTest (mOp gEq (mVar 14) (mVar 11))) (mVar 14) [14, 15]) (mLst aNil)) ρ1 (.bl can) := by
          refine ev_op (g := gNe) lc (ev_lst (xs := []) ea_nil) ?_
          rw [hcan]
          generalize P.filter (fun x => decide ((x.1 : Int) = (e : Int))) = Q
          have eq : Q.map (fun x : Pk => nD x.1) = nl (Q.map (·.1)) := by
            unfold nl
            rw [List.map_map]
            rfl
          rw [eq]
          exact gNe_nb (b := decide (Q = [])) nb_nlL (nb_nlL (L := [])) (by
            rw [decide_eq_true_iff]
            constructor
            · intro h
              rw [h]
              rfl
            · intro h
              have h : nl (Q.map (·.1)) = [] := D.lst.inj h
              cases Q with
              | nil => rfl
              | cons x Q => cases h)
        have can1 : can = true → ∃ ms ls, Run R (n, st) ms (e, ls) := fun h => by
          rw [hcan] at h
          have h2 : P.filter (fun x => decide ((x.1 : Int) = (e : Int))) ≠ [] := fun z => by
            rw [z] at h
            cases h
          obtain ⟨x, hx⟩ := List.exists_mem_of_ne_nil _ h2
          obtain ⟨hx1, hx2⟩ := List.mem_filter.mp hx
          have hx2 := of_decide_eq_true hx2
          obtain ⟨ms, hr⟩ := hP.snd x hx1
          obtain ⟨p, ls⟩ := x
          have : p = e := by
            have hx2 : (p : Int) = (e : Int) := hx2
            omega
          subst this
          exact ⟨ms, ls, hr⟩
        have can2 : w = true → ∀ ms ls, Run R (n, st) ms (e, ls) → can = true := fun h ms ls hr => by
          have hm := shut_all (hS h) hr hP.own
          have hf : ((e, ls) : Pk) ∈ P.filter (fun x => decide ((x.1 : Int) = (e : Int))) := List.mem_filter.mpr ⟨hm, decide_eq_true rfl⟩
          rw [hcan]
          cases hq : decide (P.filter (fun x => decide ((x.1 : Int) = (e : Int))) = []) with
          | false => rfl
          | true =>
            rw [of_decide_eq_true hq] at hf
            cases hf
        clear hcan lc
        rw [← h1]
        refine sq (ok_par2E p1 p2 ⟨rfl, ?_⟩)
        rw [h1]
        simp only [List.set_cons_succ, List.set_cons_zero]
        obtain ⟨ρ0, h0⟩ : ∃ ρ0 : En, ρ0 = [some (.d (.scr ns)), rowS none ns a b c, some (.d (nD nn)), some (.d (nD ll)), some (.d (rusD R)), some (.d (nD tt)), some (.d (nD n)), some (.d (ntT st)), none, some (.d (.lst (P.map pkD))), some (.d (.bl w)), some (.d (nD e)), some (.d y), some (.d (.bl can)), none, none, x16] := ⟨_, rfl⟩
        have v4 : Ev (mVar 4) ρ0 (rusD R) := by rw [h0]; exact ev_var 4 rfl
        have v6 : Ev (mVar 6) ρ0 (nD n) := by rw [h0]; exact ev_var 6 rfl
        have v7 : Ev (mVar 7) ρ0 (ntT st) := by rw [h0]; exact ev_var 7 rfl
        have v10 : Ev (mVar 10) ρ0 (.bl w) := by rw [h0]; exact ev_var 10 rfl
        have v12 : Ev (mVar 12) ρ0 y := by rw [h0]; exact ev_var 12 rfl
        have v13 : Ev (mVar 13) ρ0 (.bl can) := by rw [h0]; exact ev_var 13 rfl
        rw [← h0]
        rcases hw with ⟨rfl, hno⟩ | ⟨ms, ls, rfl, hr, hlen, hls⟩
        · have hc : can = false := by
            cases can with
            | false => rfl
            | true => exact absurd (can1 rfl) hno
          subst hc
          refine sq (ifN (eb_or (p := false) (q := false) (eb_and (p := true) (q := false) (eb_test (ev_isN v12)) fun _ => eb_truth v13 rfl) fun _ => eb_and (p := false) (q := false) (eb_test (ev_notN v12)) fun z => (nomatch z)) ⟨rfl, ?_⟩)
          exact ifN (eb_test (ev_notN v12)) (fin ⟨_, _, _, _, h0⟩)
        · have cw : EvB (mAnd (mTruth (mVar 10)) (mNot (mTruth (mVar 13)))) ρ0 false := by
            cases w with
            | false => exact eb_and (p := false) (q := false) (eb_truth v10 rfl) fun z => (nomatch z)
            | true =>
              rw [can2 rfl ms ls hr] at v13
              exact eb_and (p := true) (q := false) (eb_truth v10 rfl) fun _ => eb_not (b := true) (eb_truth v13 rfl)
          refine sq (ifN (eb_or (p := false) (q := false) (eb_and (p := false) (q := false) (eb_test (ev_isN v12)) fun z => (nomatch z)) fun _ => eb_and (p := true) (q := false) (eb_test (ev_notN v12)) fun _ => cw) ⟨rfl, ?_⟩)
          refine ifT (eb_test (ev_notN v12)) ?_
          refine sq (asg (ev_call (ea_cons v4 (ea_cons v6 (ea_cons v7 (ea_cons v12 ea_nil)))) (fwd_ok O.ok hr (by omega))) ⟨rfl, ?_⟩)
          rw [h0]
          simp only [List.set_cons_succ, List.set_cons_zero]
          have v16 := ev_var (x := pkD (e, ls)) 16 (ρ := [some (.d (.scr ns)), rowS none ns a b c, some (.d (nD nn)), some (.d (nD ll)), some (.d (rusD R)), some (.d (nD tt)), some (.d (nD n)), some (.d (ntT st)), none, some (.d (.lst (P.map pkD))), some (.d (.bl w)), some (.d (nD e)), some (.d (ntT ms)), some (.d (.bl can)), none, none, some (.d (pkD (e, ls)))]) rfl
          have c4 := ev_ne (ev_ixT (i := 0) (x := nD e) v16 ev_c rfl) (ev_var (x := nD e) 11 rfl)
          rw [decide_eq_true rfl] at c4
          exact ifN (eb_or (p := false) (q := false) (eb_test (ev_isN v16)) fun _ => eb_test c4) (fin ⟨_, _, _, _, rfl⟩)
      · rintro ρ ⟨x11, x12, x13, x16, rfl⟩
        exact fin ⟨a, b, c, some (.d (nD tt)), some (.d (nD n)), some (.d (ntT st)), some (.d (.lst (P.map pkD))), some (.d (.bl w)), x11, x12, x13, x16, h, rfl⟩
    · rintro ρ ⟨a, b, c, x5, x6, x7, x9, x10, x11, x12, x13, x16, h, rfl⟩
      exact ⟨rfl, retE ev_c fun s hs => .inl ⟨s, rfl, toD_back hs rfl⟩⟩
  rw [ok_eq] at key
  obtain ⟨s, ρ, e, rfl⟩ := R.OKr.at key
  exact ⟨ρ, e⟩
end Fx.K88
/-! the end of routeweb_k88_whole_visits -/
namespace Fx.K88
open PySem PySem.Spec PyProof.Rows L2
open C8 (Cal Mak pe_c pe_mk)
open LamX (Tabs TabS TabB ExtN CodeO codeO_ne)
/-- what is known of the text -/
def clsF : String → Addr := fun n => 0
def cfg (w : World) (K : PySem.W.Frag) (T : List (Addr × Str)) : Cfg := ⟨K, (clsF ), fun n => [], T, fun _ _ _ _ => False, fun k => match k with
  | _ => lamQ "" noE, w, none, fun _ => none⟩
section
theorem all_mk {l : PySem.W.OpenLaw} {w : World} {K : PySem.W.Frag} {h : Heap} {mg : Str → Option Value} {fa : Addr} (X : K.In h) (G : h.Ns mainGlobals mg) (hfa : mg "law" = some (.ref fa))
    {tk0 : Tok} {tk1 : Tok} {tk2 : Tok} {tk3 : Tok} {kt0 : Addr} {odkt0 : Option Addr} {itkt0 : Array Value} {nkt0 : Nat} {slkt0 : Array (Option Value)} {f0 : Addr} {od0 an0 : Option Addr} {sl0 : Array (Option Value)} {oc0 kV0 dc0 pm0 cd0 ct0 : Value} {f1 : Addr} {od1 an1 : Option Addr} {sl1 : Array (Option Value)} {oc1 kV1 dc1 pm1 cd1 ct1 : Value} {f2 : Addr} {od2 an2 : Option Addr} {sl2 : Array (Option Value)} {oc2 kV2 dc2 pm2 cd2 ct2 : Value} {f3 : Addr} {od3 an3 : Option Addr} {sl3 : Array (Option Value)} {oc3 kV3 dc3 pm3 cd3 ct3 : Value} {f4 : Addr} {od4 an4 : Option Addr} {sl4 : Array (Option Value)} {oc4 kV4 dc4 pm4 cd4 ct4 : Value} {f5 : Addr} {od5 an5 : Option Addr} {sl5 : Array (Option Value)} {oc5 kV5 dc5 pm5 cd5 ct5 : Value} {f6 : Addr} {od6 an6 : Option Addr} {sl6 : Array (Option Value)} {oc6 kV6 dc6 pm6 cd6 ct6 : Value} {f7 : Addr} {od7 an7 : Option Addr} {sl7 : Array (Option Value)} {oc7 kV7 dc7 pm7 cd7 ct7 : Value} {f8 : Addr} {od8 an8 : Option Addr} {sl8 : Array (Option Value)} {oc8 kV8 dc8 pm8 cd8 ct8 : Value} {f9 : Addr} {od9 an9 : Option Addr} {sl9 : Array (Option Value)} {oc9 kV9 dc9 pm9 cd9 ct9 : Value} {f10 : Addr} {od10 an10 : Option Addr} {sl10 : Array (Option Value)} {oc10 kV10 dc10 pm10 cd10 ct10 : Value} {f11 : Addr} {od11 an11 : Option Addr} {sl11 : Array (Option Value)} {oc11 kV11 dc11 pm11 cd11 ct11 : Value} {f12 : Addr} {od12 an12 : Option Addr} {sl12 : Array (Option Value)} {oc12 kV12 dc12 pm12 cd12 ct12 : Value} {f13 : Addr} {od13 an13 : Option Addr} {sl13 : Array (Option Value)} {oc13 kV13 dc13 pm13 cd13 ct13 : Value} {f14 : Addr} {od14 an14 : Option Addr} {sl14 : Array (Option Value)} {oc14 kV14 dc14 pm14 cd14 ct14 : Value} {f15 : Addr} {od15 an15 : Option Addr} {sl15 : Array (Option Value)} {oc15 kV15 dc15 pm15 cd15 ct15 : Value} {f16 : Addr} {od16 an16 : Option Addr} {sl16 : Array (Option Value)} {oc16 kV16 dc16 pm16 cd16 ct16 : Value} {f17 : Addr} {od17 an17 : Option Addr} {sl17 : Array (Option Value)} {oc17 kV17 dc17 pm17 cd17 ct17 : Value} {f18 : Addr} {od18 an18 : Option Addr} {sl18 : Array (Option Value)} {oc18 kV18 dc18 pm18 cd18 ct18 : Value} {f19 : Addr} {od19 an19 : Option Addr} {sl19 : Array (Option Value)} {oc19 kV19 dc19 pm19 cd19 ct19 : Value} {f20 : Addr} {od20 an20 : Option Addr} {sl20 : Array (Option Value)} {oc20 kV20 dc20 pm20 cd20 ct20 : Value} {f21 : Addr} {od21 an21 : Option Addr} {sl21 : Array (Option Value)} {oc21 kV21 dc21 pm21 cd21 ct21 : Value} {f22 : Addr} {od22 an22 : Option Addr} {sl22 : Array (Option Value)} {oc22 kV22 dc22 pm22 cd22 ct22 : Value}
    (m0 : PySem.W.nsIn K mainGlobals "MOST_LABEL" = some (some (Value.int 5 tk0)))
    (m1 : PySem.W.nsIn K mainGlobals "MOST_PUT" = some (some (Value.int 2 tk1)))
    (m2 : PySem.W.nsIn K mainGlobals "MOST_RULES" = some (some (Value.int 24 tk2)))
    (m3 : PySem.W.nsIn K mainGlobals "MOST_STACK" = some (some (Value.int 12 tk3)))
    (ktm0 : PySem.W.nsIn K mainGlobals "NODES" = some (some (.ref kt0)))
    (ktl0 : K.lookup kt0 = some ⟨.type "tuple", odkt0, .seq itkt0 nkt0, slkt0⟩)
    (kts0 : itkt0.size ≤ sizeLine)
    (ktv0 : Vals (([0, 1, 2, 3, 4, 5, 6, 7] : List Int).map V.int) itkt0.toList)
    (hb_heapify : PySem.W.nsIn K mainGlobals "heapify" = some (some (.builtin "_heapq.heapify")))
    (hb_heappop : PySem.W.nsIn K mainGlobals "heappop" = some (some (.builtin "_heapq.heappop")))
    (hb_heappush : PySem.W.nsIn K mainGlobals "heappush" = some (some (.builtin "_heapq.heappush")))
    (z_all : PySem.W.nsIn K mainGlobals "all" = some none)
    (z_bool : PySem.W.nsIn K mainGlobals "bool" = some none)
    (z_enumerate : PySem.W.nsIn K mainGlobals "enumerate" = some none)
    (z_int : PySem.W.nsIn K mainGlobals "int" = some none)
    (z_isinstance : PySem.W.nsIn K mainGlobals "isinstance" = some none)
    (z_len : PySem.W.nsIn K mainGlobals "len" = some none)
    (z_list : PySem.W.nsIn K mainGlobals "list" = some none)
    (z_min : PySem.W.nsIn K mainGlobals "min" = some none)
    (z_range : PySem.W.nsIn K mainGlobals "range" = some none)
    (z_tuple : PySem.W.nsIn K mainGlobals "tuple" = some none)
    (a0 : PySem.W.nsIn K mainGlobals "is_number" = some (some (.ref f0)))
    (l0 : K.lookup f0 = some ⟨oc0, od0, .func (PySem.W.fnOf "is_number" "is_number" (defArgs s_is_number) (defBody s_is_number) (defScope s_is_number) .none kV0 dc0 pm0 an0 cd0 ct0), sl0⟩)
    (c0 : PySem.W.codeIn K cd0 "is_number" = true)
    (k0 : PySem.W.keepIn K (.ref f0) = true)
    (a1 : PySem.W.nsIn K mainGlobals "is_tuple" = some (some (.ref f1)))
    (l1 : K.lookup f1 = some ⟨oc1, od1, .func (PySem.W.fnOf "is_tuple" "is_tuple" (defArgs s_is_tuple) (defBody s_is_tuple) (defScope s_is_tuple) .none kV1 dc1 pm1 an1 cd1 ct1), sl1⟩)
    (c1 : PySem.W.codeIn K cd1 "is_tuple" = true)
    (k1 : PySem.W.keepIn K (.ref f1) = true)
    (a2 : PySem.W.nsIn K mainGlobals "are_numbers" = some (some (.ref f2)))
    (l2 : K.lookup f2 = some ⟨oc2, od2, .func (PySem.W.fnOf "are_numbers" "are_numbers" (defArgs s_are_numbers) (defBody s_are_numbers) (defScope s_are_numbers) .none kV2 dc2 pm2 an2 cd2 ct2), sl2⟩)
    (c2 : PySem.W.codeIn K cd2 "are_numbers" = true)
    (k2 : PySem.W.keepIn K (.ref f2) = true)
    (a3 : PySem.W.nsIn K mainGlobals "_is_node" = some (some (.ref f3)))
    (l3 : K.lookup f3 = some ⟨oc3, od3, .func (PySem.W.fnOf "_is_node" "_is_node" (defArgs s_is_node) (defBody s_is_node) (defScope s_is_node) .none kV3 dc3 pm3 an3 cd3 ct3), sl3⟩)
    (c3 : PySem.W.codeIn K cd3 "_is_node" = true)
    (k3 : PySem.W.keepIn K (.ref f3) = true)
    (a4 : PySem.W.nsIn K mainGlobals "_is_stack" = some (some (.ref f4)))
    (l4 : K.lookup f4 = some ⟨oc4, od4, .func (PySem.W.fnOf "_is_stack" "_is_stack" (defArgs s_is_stack) (defBody s_is_stack) (defScope s_is_stack) .none kV4 dc4 pm4 an4 cd4 ct4), sl4⟩)
    (c4 : PySem.W.codeIn K cd4 "_is_stack" = true)
    (k4 : PySem.W.keepIn K (.ref f4) = true)
    (a5 : PySem.W.nsIn K mainGlobals "_is_rule" = some (some (.ref f5)))
    (l5 : K.lookup f5 = some ⟨oc5, od5, .func (PySem.W.fnOf "_is_rule" "_is_rule" (defArgs s_is_rule) (defBody s_is_rule) (defScope s_is_rule) .none kV5 dc5 pm5 an5 cd5 ct5), sl5⟩)
    (c5 : PySem.W.codeIn K cd5 "_is_rule" = true)
    (k5 : PySem.W.keepIn K (.ref f5) = true)
    (a6 : PySem.W.nsIn K mainGlobals "_check_rules" = some (some (.ref f6)))
    (l6 : K.lookup f6 = some ⟨oc6, od6, .func (PySem.W.fnOf "_check_rules" "_check_rules" (defArgs s_check_rules) (defBody s_check_rules) (defScope s_check_rules) .none kV6 dc6 pm6 an6 cd6 ct6), sl6⟩)
    (c6 : PySem.W.codeIn K cd6 "_check_rules" = true)
    (k6 : PySem.W.keepIn K (.ref f6) = true)
    (a7 : PySem.W.nsIn K mainGlobals "_check_node" = some (some (.ref f7)))
    (l7 : K.lookup f7 = some ⟨oc7, od7, .func (PySem.W.fnOf "_check_node" "_check_node" (defArgs s_check_node) (defBody s_check_node) (defScope s_check_node) .none kV7 dc7 pm7 an7 cd7 ct7), sl7⟩)
    (c7 : PySem.W.codeIn K cd7 "_check_node" = true)
    (k7 : PySem.W.keepIn K (.ref f7) = true)
    (a8 : PySem.W.nsIn K mainGlobals "_check_packet" = some (some (.ref f8)))
    (l8 : K.lookup f8 = some ⟨oc8, od8, .func (PySem.W.fnOf "_check_packet" "_check_packet" (defArgs s_check_packet) (defBody s_check_packet) (defScope s_check_packet) .none kV8 dc8 pm8 an8 cd8 ct8), sl8⟩)
    (c8 : PySem.W.codeIn K cd8 "_check_packet" = true)
    (k8 : PySem.W.keepIn K (.ref f8) = true)
    (a9 : PySem.W.nsIn K mainGlobals "_is_shorter" = some (some (.ref f9)))
    (l9 : K.lookup f9 = some ⟨oc9, od9, .func (PySem.W.fnOf "_is_shorter" "_is_shorter" (defArgs s_is_shorter) (defBody s_is_shorter) (defScope s_is_shorter) .none kV9 dc9 pm9 an9 cd9 ct9), sl9⟩)
    (c9 : PySem.W.codeIn K cd9 "_is_shorter" = true)
    (k9 : PySem.W.keepIn K (.ref f9) = true)
    (a10 : PySem.W.nsIn K mainGlobals "_drained" = some (some (.ref f10)))
    (l10 : K.lookup f10 = some ⟨oc10, od10, .func (PySem.W.fnOf "_drained" "_drained" (defArgs s_drained) (defBody s_drained) (defScope s_drained) .none kV10 dc10 pm10 an10 cd10 ct10), sl10⟩)
    (c10 : PySem.W.codeIn K cd10 "_drained" = true)
    (k10 : PySem.W.keepIn K (.ref f10) = true)
    (a11 : PySem.W.nsIn K mainGlobals "_drains" = some (some (.ref f11)))
    (l11 : K.lookup f11 = some ⟨oc11, od11, .func (PySem.W.fnOf "_drains" "_drains" (defArgs s_drains) (defBody s_drains) (defScope s_drains) .none kV11 dc11 pm11 an11 cd11 ct11), sl11⟩)
    (c11 : PySem.W.codeIn K cd11 "_drains" = true)
    (k11 : PySem.W.keepIn K (.ref f11) = true)
    (a12 : PySem.W.nsIn K mainGlobals "_tops" = some (some (.ref f12)))
    (l12 : K.lookup f12 = some ⟨oc12, od12, .func (PySem.W.fnOf "_tops" "_tops" (defArgs s_tops) (defBody s_tops) (defScope s_tops) .none kV12 dc12 pm12 an12 cd12 ct12), sl12⟩)
    (c12 : PySem.W.codeIn K cd12 "_tops" = true)
    (k12 : PySem.W.keepIn K (.ref f12) = true)
    (a13 : PySem.W.nsIn K mainGlobals "_next_tops" = some (some (.ref f13)))
    (l13 : K.lookup f13 = some ⟨oc13, od13, .func (PySem.W.fnOf "_next_tops" "_next_tops" (defArgs s_next_tops) (defBody s_next_tops) (defScope s_next_tops) .none kV13 dc13 pm13 an13 cd13 ct13), sl13⟩)
    (c13 : PySem.W.codeIn K cd13 "_next_tops" = true)
    (k13 : PySem.W.keepIn K (.ref f13) = true)
    (a14 : PySem.W.nsIn K mainGlobals "_tops_from" = some (some (.ref f14)))
    (l14 : K.lookup f14 = some ⟨oc14, od14, .func (PySem.W.fnOf "_tops_from" "_tops_from" (defArgs s_tops_from) (defBody s_tops_from) (defScope s_tops_from) .none kV14 dc14 pm14 an14 cd14 ct14), sl14⟩)
    (c14 : PySem.W.codeIn K cd14 "_tops_from" = true)
    (k14 : PySem.W.keepIn K (.ref f14) = true)
    (a15 : PySem.W.nsIn K mainGlobals "_run_of" = some (some (.ref f15)))
    (l15 : K.lookup f15 = some ⟨oc15, od15, .func (PySem.W.fnOf "_run_of" "_run_of" (defArgs s_run_of) (defBody s_run_of) (defScope s_run_of) .none kV15 dc15 pm15 an15 cd15 ct15), sl15⟩)
    (c15 : PySem.W.codeIn K cd15 "_run_of" = true)
    (k15 : PySem.W.keepIn K (.ref f15) = true)
    (a16 : PySem.W.nsIn K mainGlobals "visit_run" = some (some (.ref f16)))
    (l16 : K.lookup f16 = some ⟨oc16, od16, .func (PySem.W.fnOf "visit_run" "visit_run" (defArgs s_visit_run) (defBody s_visit_run) (defScope s_visit_run) .none kV16 dc16 pm16 an16 cd16 ct16), sl16⟩)
    (c16 : PySem.W.codeIn K cd16 "visit_run" = true)
    (k16 : PySem.W.keepIn K (.ref f16) = true)
    (a17 : PySem.W.nsIn K mainGlobals "_law_taken" = some (some (.ref f17)))
    (l17 : K.lookup f17 = some ⟨oc17, od17, .func (PySem.W.fnOf "_law_taken" "_law_taken" (defArgs s_law_taken) (defBody s_law_taken) (defScope s_law_taken) .none kV17 dc17 pm17 an17 cd17 ct17), sl17⟩)
    (c17 : PySem.W.codeIn K cd17 "_law_taken" = true)
    (k17 : PySem.W.keepIn K (.ref f17) = true)
    (a18 : PySem.W.nsIn K mainGlobals "_law_pick" = some (some (.ref f18)))
    (l18 : K.lookup f18 = some ⟨oc18, od18, .func (PySem.W.fnOf "_law_pick" "_law_pick" (defArgs s_law_pick) (defBody s_law_pick) (defScope s_law_pick) .none kV18 dc18 pm18 an18 cd18 ct18), sl18⟩)
    (c18 : PySem.W.codeIn K cd18 "_law_pick" = true)
    (k18 : PySem.W.keepIn K (.ref f18) = true)
    (a19 : PySem.W.nsIn K mainGlobals "_law_stack_rules" = some (some (.ref f19)))
    (l19 : K.lookup f19 = some ⟨oc19, od19, .func (PySem.W.fnOf "_law_stack_rules" "_law_stack_rules" (defArgs s_law_stack_rules) (defBody s_law_stack_rules) (defScope s_law_stack_rules) .none kV19 dc19 pm19 an19 cd19 ct19), sl19⟩)
    (c19 : PySem.W.codeIn K cd19 "_law_stack_rules" = true)
    (k19 : PySem.W.keepIn K (.ref f19) = true)
    (a20 : PySem.W.nsIn K mainGlobals "_law_forward" = some (some (.ref f20)))
    (l20 : K.lookup f20 = some ⟨oc20, od20, .func (PySem.W.fnOf "_law_forward" "_law_forward" (defArgs s_law_forward) (defBody s_law_forward) (defScope s_law_forward) .none kV20 dc20 pm20 an20 cd20 ct20), sl20⟩)
    (c20 : PySem.W.codeIn K cd20 "_law_forward" = true)
    (k20 : PySem.W.keepIn K (.ref f20) = true)
    (a21 : PySem.W.nsIn K mainGlobals "_law_places" = some (some (.ref f21)))
    (l21 : K.lookup f21 = some ⟨oc21, od21, .func (PySem.W.fnOf "_law_places" "_law_places" (defArgs s_law_places) (defBody s_law_places) (defScope s_law_places) .none kV21 dc21 pm21 an21 cd21 ct21), sl21⟩)
    (c21 : PySem.W.codeIn K cd21 "_law_places" = true)
    (k21 : PySem.W.keepIn K (.ref f21) = true)
    (a22 : PySem.W.nsIn K mainGlobals "law" = some (some (.ref f22)))
    (l22 : K.lookup f22 = some ⟨oc22, od22, .func (PySem.W.fnOf "law" "law" (defArgs s_law) (defBody s_law) (defScope s_law) .none kV22 dc22 pm22 an22 cd22 ct22), sl22⟩)
    (c22 : PySem.W.codeIn K cd22 "law" = true)
    (k22 : PySem.W.keepIn K (.ref f22) = true) :
    LamX.LawAtS l w K CX0 8 63 "script" mg fa h := by
  have e := hfa.symm.trans (PySem.W.mg_of X G a22)
  cases e
  have F0 := fun_mk (st := s_is_number) l0 c0 k0
  have b0 := F0.binds (ps := ["value", "low", "high"]) fun _ _ _ _ _ _ us hl => match us, hl with | [_, _, _], _ => rfl
  have F1 := fun_mk (st := s_is_tuple) l1 c1 k1
  have b1 := F1.binds (ps := ["value", "least", "most"]) fun _ _ _ _ _ _ us hl => match us, hl with | [_, _, _], _ => rfl
  have F2 := fun_mk (st := s_are_numbers) l2 c2 k2
  have b2 := F2.binds (ps := ["value", "low", "high"]) fun _ _ _ _ _ _ us hl => match us, hl with | [_, _, _], _ => rfl
  have F3 := fun_mk (st := s_is_node) l3 c3 k3
  have b3 := F3.binds (ps := ["value"]) fun _ _ _ _ _ _ us hl => match us, hl with | [_], _ => rfl
  have F4 := fun_mk (st := s_is_stack) l4 c4 k4
  have b4 := F4.binds (ps := ["value", "most"]) fun _ _ _ _ _ _ us hl => match us, hl with | [_, _], _ => rfl
  have F5 := fun_mk (st := s_is_rule) l5 c5 k5
  have b5 := F5.binds (ps := ["value"]) fun _ _ _ _ _ _ us hl => match us, hl with | [_], _ => rfl
  have F6 := fun_mk (st := s_check_rules) l6 c6 k6
  have b6 := F6.binds (ps := ["rules"]) fun _ _ _ _ _ _ us hl => match us, hl with | [_], _ => rfl
  have F7 := fun_mk (st := s_check_node) l7 c7 k7
  have b7 := F7.binds (ps := ["node"]) fun _ _ _ _ _ _ us hl => match us, hl with | [_], _ => rfl
  have F8 := fun_mk (st := s_check_packet) l8 c8 k8
  have b8 := F8.binds (ps := ["rules", "node", "stack"]) fun _ _ _ _ _ _ us hl => match us, hl with | [_, _, _], _ => rfl
  have F9 := fun_mk (st := s_is_shorter) l9 c9 k9
  have b9 := F9.binds (ps := ["length", "known"]) fun _ _ _ _ _ _ us hl => match us, hl with | [_, _], _ => rfl
  have F10 := fun_mk (st := s_drained) l10 c10 k10
  have b10 := F10.binds (ps := ["ways", "node", "labels"]) fun _ _ _ _ _ _ us hl => match us, hl with | [_, _, _], _ => rfl
  have F11 := fun_mk (st := s_drains) l11 c11 k11
  have b11 := F11.binds (ps := ["rules"]) fun _ _ _ _ _ _ us hl => match us, hl with | [_], _ => rfl
  have F12 := fun_mk (st := s_tops) l12 c12 k12
  have b12 := F12.binds (ps := ["ways", "node", "labels"]) fun _ _ _ _ _ _ us hl => match us, hl with | [_, _, _], _ => rfl
  have F13 := fun_mk (st := s_next_tops) l13 c13 k13
  have b13 := F13.binds (ps := ["rules", "ways", "top"]) fun _ _ _ _ _ _ us hl => match us, hl with | [_, _, _], _ => rfl
  have F14 := fun_mk (st := s_tops_from) l14 c14 k14
  have b14 := F14.binds (ps := ["rules", "ways", "tops"]) fun _ _ _ _ _ _ us hl => match us, hl with | [_, _, _], _ => rfl
  have F15 := fun_mk (st := s_run_of) l15 c15 k15
  have b15 := F15.binds (ps := ["ways", "trail"]) fun _ _ _ _ _ _ us hl => match us, hl with | [_, _], _ => rfl
  have F16 := fun_mk (st := s_visit_run) l16 c16 k16
  have b16 := F16.binds (ps := ["rules", "node", "stack", "goal"]) fun _ _ _ _ _ _ us hl => match us, hl with | [_, _, _, _], _ => rfl
  have F17 := fun_mk (st := s_law_taken) l17 c17 k17
  have b17 := F17.binds (ps := ["row", "many"]) fun _ _ _ _ _ _ us hl => match us, hl with | [_, _], _ => rfl
  have F18 := fun_mk (st := s_law_pick) l18 c18 k18
  have b18 := F18.binds (ps := ["row", "things"]) fun _ _ _ _ _ _ us hl => match us, hl with | [_, _], _ => rfl
  have F19 := fun_mk (st := s_law_stack_rules) l19 c19 k19
  have b19 := F19.binds (ps := ["row", "nodes", "labels"]) fun _ _ _ _ _ _ us hl => match us, hl with | [_, _, _], _ => rfl
  have F20 := fun_mk (st := s_law_forward) l20 c20 k20
  have b20 := F20.binds (ps := ["rules", "node", "stack", "numbers"]) fun _ _ _ _ _ _ us hl => match us, hl with | [_, _, _, _], _ => rfl
  have F21 := fun_mk (st := s_law_places) l21 c21 k21
  have b21 := F21.binds (ps := ["rules", "node", "stack", "deep"]) fun _ _ _ _ _ _ us hl => match us, hl with | [_, _, _, _], _ => rfl
  have F22 := fun_mk (st := s_law) l22 c22 k22
  refine ⟨PySem.W.fnOf "law" "law" (defArgs s_law) (defBody s_law) (defScope s_law) .none kV22 dc22 pm22 an22 cd22 ct22, [], spLawX (cfg w K  []), fun p hp => by simp at hp, fun p hp => by simp at hp, fun p hp => by simp at hp, fun s v => .of_eq rfl, fun H a ns hl hz hT hS => ⟨a, ns, rfl, hl, hS, fun p hp => by simp [cfg] at hp, fun _ => rfl⟩, fun base _ _ hB => ?_⟩
  have T : Tx l.prog w (cfg w K  []) mg base := {
    w_ := rfl,
    h_heapify := PySem.W.mg_of X G hb_heapify,
    h_heappop := PySem.W.mg_of X G hb_heappop,
    h_heappush := PySem.W.mg_of X G hb_heappush,
    b_all := PySem.W.mg_none_of X G z_all,
    b_bool := PySem.W.mg_none_of X G z_bool,
    b_enumerate := PySem.W.mg_none_of X G z_enumerate,
    b_int := PySem.W.mg_none_of X G z_int,
    b_isinstance := PySem.W.mg_none_of X G z_isinstance,
    b_len := PySem.W.mg_none_of X G z_len,
    b_list := PySem.W.mg_none_of X G z_list,
    b_min := PySem.W.mg_none_of X G z_min,
    b_range := PySem.W.mg_none_of X G z_range,
    b_tuple := PySem.W.mg_none_of X G z_tuple,
    c_MOST_LABEL := ⟨_, PySem.W.mg_of X G m0⟩,
    c_MOST_PUT := ⟨_, PySem.W.mg_of X G m1⟩,
    c_MOST_RULES := ⟨_, PySem.W.mg_of X G m2⟩,
    c_MOST_STACK := ⟨_, PySem.W.mg_of X G m3⟩,
    kt_NODES := ⟨kt0, _, itkt0, nkt0, PySem.W.mg_of X G ktm0, ktl0, rfl, rfl, kts0, ktv0⟩}
  have C_is_number : Cal l.prog w K mg base 1 "is_number" (spF (cfg w K  []) f_is_number) [] := cal_mk F0 (PySem.W.mg_of X G a0) b0 (ok_is_number T F0 )
  have C_is_tuple : Cal l.prog w K mg base 1 "is_tuple" (spF (cfg w K  []) f_is_tuple) [] := cal_mk F1 (PySem.W.mg_of X G a1) b1 (ok_is_tuple T F1 )
  have C_are_numbers : Cal l.prog w K mg base 2 "are_numbers" (spF (cfg w K  []) f_are_numbers) [] := cal_mk F2 (PySem.W.mg_of X G a2) b2 (ok_are_numbers T F2 C_is_number)
  have C_is_node : Cal l.prog w K mg base 2 "_is_node" (spF (cfg w K  []) f_is_node) [] := cal_mk F3 (PySem.W.mg_of X G a3) b3 (ok_is_node T F3 C_is_number)
  have C_is_stack : Cal l.prog w K mg base 3 "_is_stack" (spF (cfg w K  []) f_is_stack) [] := cal_mk F4 (PySem.W.mg_of X G a4) b4 (ok_is_stack T F4 C_are_numbers)
  have C_is_rule : Cal l.prog w K mg base 4 "_is_rule" (spF (cfg w K  []) f_is_rule) [] := cal_mk F5 (PySem.W.mg_of X G a5) b5 (ok_is_rule T F5 C_is_number C_is_tuple C_is_node C_is_stack)
  have C_check_rules : Cal l.prog w K mg base 5 "_check_rules" (spF (cfg w K  []) f_check_rules) [] := cal_mk F6 (PySem.W.mg_of X G a6) b6 (ok_check_rules T F6 C_is_tuple C_is_rule)
  have C_check_node : Cal l.prog w K mg base 3 "_check_node" (spF (cfg w K  []) f_check_node) [] := cal_mk F7 (PySem.W.mg_of X G a7) b7 (ok_check_node T F7 C_is_node)
  have C_check_packet : Cal l.prog w K mg base 6 "_check_packet" (spF (cfg w K  []) f_check_packet) [] := cal_mk F8 (PySem.W.mg_of X G a8) b8 (ok_check_packet T F8 C_is_stack C_check_rules C_check_node)
  have C_is_shorter : Cal l.prog w K mg base 1 "_is_shorter" (spF (cfg w K  []) f_is_shorter) [] := cal_mk F9 (PySem.W.mg_of X G a9) b9 (ok_is_shorter T F9 )
  have C_drained : Cal l.prog w K mg base 2 "_drained" (spF (cfg w K  []) f_drained) [] := cal_mk F10 (PySem.W.mg_of X G a10) b10 (ok_drained T F10 C_is_shorter)
  have C_drains : Cal l.prog w K mg base 3 "_drains" (spF (cfg w K  []) f_drains) [] := cal_mk F11 (PySem.W.mg_of X G a11) b11 (ok_drains T F11 C_is_shorter C_drained)
  have C_tops : Cal l.prog w K mg base 3 "_tops" (spF (cfg w K  []) f_tops) [] := cal_mk F12 (PySem.W.mg_of X G a12) b12 (ok_tops T F12 C_drained)
  have C_next_tops : Cal l.prog w K mg base 4 "_next_tops" (spF (cfg w K  []) f_next_tops) [] := cal_mk F13 (PySem.W.mg_of X G a13) b13 (ok_next_tops T F13 C_tops)
  have C_tops_from : Cal l.prog w K mg base 5 "_tops_from" (spF (cfg w K  []) f_tops_from) [] := cal_mk F14 (PySem.W.mg_of X G a14) b14 (ok_tops_from T F14 C_next_tops)
  have C_run_of : Cal l.prog w K mg base 1 "_run_of" (spF (cfg w K  []) f_run_of) [] := cal_mk F15 (PySem.W.mg_of X G a15) b15 (ok_run_of T F15 )
  have C_visit_run : Cal l.prog w K mg base 7 "visit_run" (spF (cfg w K  []) f_visit_run) [] := cal_mk F16 (PySem.W.mg_of X G a16) b16 (ok_visit_run T F16 C_check_node C_check_packet C_drained C_drains C_tops C_tops_from C_run_of)
  have C_law_taken : Cal l.prog w K mg base 1 "_law_taken" (spF (cfg w K  []) f_law_taken) [] := cal_mk F17 (PySem.W.mg_of X G a17) b17 (ok_law_taken T F17 )
  have C_law_pick : Cal l.prog w K mg base 2 "_law_pick" (spF (cfg w K  []) f_law_pick) [] := cal_mk F18 (PySem.W.mg_of X G a18) b18 (ok_law_pick T F18 C_law_taken)
  have C_law_stack_rules : Cal l.prog w K mg base 3 "_law_stack_rules" (spF (cfg w K  []) f_law_stack_rules) [] := cal_mk F19 (PySem.W.mg_of X G a19) b19 (ok_law_stack_rules T F19 C_law_taken C_law_pick)
  have C_law_forward : Cal l.prog w K mg base 1 "_law_forward" (spF (cfg w K  []) f_law_forward) [] := cal_mk F20 (PySem.W.mg_of X G a20) b20 (ok_law_forward T F20 )
  have C_law_places : Cal l.prog w K mg base 1 "_law_places" (spF (cfg w K  []) f_law_places) [] := cal_mk F21 (PySem.W.mg_of X G a21) b21 (ok_law_places T F21 )
  exact law_ok law_pure (ok_law T F22 C_visit_run C_law_taken C_law_stack_rules C_law_forward C_law_places)
theorem walk {l : PySem.W.OpenLaw} {q : Program} {loose : List Str} {XP : (Str → Option Value) → Heap → Prop} {YP : World → Heap → Prop} {d : DefRec} {K : Params → PySem.W.Frag} (hn : l.most = some 63) (hdf : d.params.defaults = [])
    (hY : ∀ (w : World) (h : Heap), YP w h → (K w.params).In h)
    (F : ∀ (w : World) (mg : Str → Option Value) (fa : Addr) (h : Heap), YP w h → (K w.params).In h → h.Ns mainGlobals mg → mg d.name = some (.ref fa) → LamX.LawAtS l w (K w.params) CX0 8 63 "script" mg fa h) :
    PySem.W.WalkO q loose XP YP l.row.toRowW d [] (fun f vs => PySem.call f vs) :=
  LamX.walk_ofTs (n := 63) (k := 8) (x := "script") (CX := fun _ => CX0) hn (by decide) hdf ⟨rfl, by decide, by decide⟩ hY F fun _ _ _ _ _ z => z
end
end Fx.K88
open PySem PySem.W PyProof.Rows in
set_option maxRecDepth 100000 in
set_option maxHeartbeats 0 in
theorem PySem.Challenge.cw_routeweb_k88_whole_visits_holds : PySem.Challenge.rw_routeweb_k88_whole_visits.Holds := by
  w_on; o_law; k_head; (case hw => w_witness2)
  k_fill
  refine Fx.K88.walk (l := PySem.Challenge.rw_routeweb_k88_whole_visits) rfl rfl (fun w h Y => PySem.W.kIn_of Y) ?F
  case F =>
    intro w mg fa h Y KX G hmg
    skip
    refine' Fx.K88.all_mk KX G hmg ?m0 ?m1 ?m2 ?m3 ?ktm0 ?ktl0 ?kts0 ?ktv0 ?hb_heapify ?hb_heappop ?hb_heappush ?z_all ?z_bool ?z_enumerate ?z_int ?z_isinstance ?z_len ?z_list ?z_min ?z_range ?z_tuple ?a0 ?l0 ?c0 ?k0 ?a1 ?l1 ?c1 ?k1 ?a2 ?l2 ?c2 ?k2 ?a3 ?l3 ?c3 ?k3 ?a4 ?l4 ?c4 ?k4 ?a5 ?l5 ?c5 ?k5 ?a6 ?l6 ?c6 ?k6 ?a7 ?l7 ?c7 ?k7 ?a8 ?l8 ?c8 ?k8 ?a9 ?l9 ?c9 ?k9 ?a10 ?l10 ?c10 ?k10 ?a11 ?l11 ?c11 ?k11 ?a12 ?l12 ?c12 ?k12 ?a13 ?l13 ?c13 ?k13 ?a14 ?l14 ?c14 ?k14 ?a15 ?l15 ?c15 ?k15 ?a16 ?l16 ?c16 ?k16 ?a17 ?l17 ?c17 ?k17 ?a18 ?l18 ?c18 ?k18 ?a19 ?l19 ?c19 ?k19 ?a20 ?l20 ?c20 ?k20 ?a21 ?l21 ?c21 ?k21 ?a22 ?l22 ?c22 ?k22
    (case m0 => k_is)
    (case m1 => k_is)
    (case m2 => k_is)
    (case m3 => k_is)
    (case ktm0 => k_is)
    (case ktl0 => k_is)
    (case kts0 => first | decide | decide +kernel)
    (case ktv0 => repeat (first | exact .nil | refine .cons ⟨_, rfl⟩ ?_))
    (case hb_heapify => k_is)
    (case hb_heappop => k_is)
    (case hb_heappush => k_is)
    (case z_all => k_is)
    (case z_bool => k_is)
    (case z_enumerate => k_is)
    (case z_int => k_is)
    (case z_isinstance => k_is)
    (case z_len => k_is)
    (case z_list => k_is)
    (case z_min => k_is)
    (case z_range => k_is)
    (case z_tuple => k_is)
    (case a0 => k_is)
    (case l0 => k_is)
    (case c0 => k_is)
    (case k0 => k_is)
    (case a1 => k_is)
    (case l1 => k_is)
    (case c1 => k_is)
    (case k1 => k_is)
    (case a2 => k_is)
    (case l2 => k_is)
    (case c2 => k_is)
    (case k2 => k_is)
    (case a3 => k_is)
    (case l3 => k_is)
    (case c3 => k_is)
    (case k3 => k_is)
    (case a4 => k_is)
    (case l4 => k_is)
    (case c4 => k_is)
    (case k4 => k_is)
    (case a5 => k_is)
    (case l5 => k_is)
    (case c5 => k_is)
    (case k5 => k_is)
    (case a6 => k_is)
    (case l6 => k_is)
    (case c6 => k_is)
    (case k6 => k_is)
    (case a7 => k_is)
    (case l7 => k_is)
    (case c7 => k_is)
    (case k7 => k_is)
    (case a8 => k_is)
    (case l8 => k_is)
    (case c8 => k_is)
    (case k8 => k_is)
    (case a9 => k_is)
    (case l9 => k_is)
    (case c9 => k_is)
    (case k9 => k_is)
    (case a10 => k_is)
    (case l10 => k_is)
    (case c10 => k_is)
    (case k10 => k_is)
    (case a11 => k_is)
    (case l11 => k_is)
    (case c11 => k_is)
    (case k11 => k_is)
    (case a12 => k_is)
    (case l12 => k_is)
    (case c12 => k_is)
    (case k12 => k_is)
    (case a13 => k_is)
    (case l13 => k_is)
    (case c13 => k_is)
    (case k13 => k_is)
    (case a14 => k_is)
    (case l14 => k_is)
    (case c14 => k_is)
    (case k14 => k_is)
    (case a15 => k_is)
    (case l15 => k_is)
    (case c15 => k_is)
    (case k15 => k_is)
    (case a16 => k_is)
    (case l16 => k_is)
    (case c16 => k_is)
    (case k16 => k_is)
    (case a17 => k_is)
    (case l17 => k_is)
    (case c17 => k_is)
    (case k17 => k_is)
    (case a18 => k_is)
    (case l18 => k_is)
    (case c18 => k_is)
    (case k18 => k_is)
    (case a19 => k_is)
    (case l19 => k_is)
    (case c19 => k_is)
    (case k19 => k_is)
    (case a20 => k_is)
    (case l20 => k_is)
    (case c20 => k_is)
    (case k20 => k_is)
    (case a21 => k_is)
    (case l21 => k_is)
    (case c21 => k_is)
    (case k21 => k_is)
    (case a22 => k_is)
    (case l22 => k_is)
    (case c22 => k_is)
    (case k22 => k_is)
